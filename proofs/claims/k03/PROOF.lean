import PyProof.Rows.All
import Wide.All
import OpenK.AllK
import Wide.FinOn
import HandS.ForMost
import HandS.ForExc
import HandS.Evl
import HandS.Walk
import HandS.Wide
import HandS.WideBits
import HandS.SetBool
import HandS.SetKeys
import HandS.IsInst
import HandS.Lambda
import HandS.RevRange
import HandS.TupAny
import KE.KDictZip
import KE.GoesMore
import PyProof.ListNew
import KE.KRevIter
import KE.DataCmp
import HandS.Rev
import KE.SortData
import HandS.TupSets
import HandS.EndTab
import PySem.Challenge.RW_treehands_k03_kids_parts_places
set_option Elab.async false
set_option linter.all false
set_option maxRecDepth 100000
set_option maxHeartbeats 4000000
namespace TH
open PySem PySem.Spec PyProof.Rows L2 Evl

/-! ### the box: a list of two ints whose values nobody asks for -/
def BoxAt (b : Addr) (h : Heap) : Prop :=
  ∃ (i j : Int) (t u : Tok) (n : Nat), h.get? b = some { cls := .type "list", data := .seq [Value.int i t, .int j u].toArray n }
def Box (b : Addr) : HO := .ext (BoxAt b)

theorem box_shut {P : Program} {w : World} {H H' : Hp} {h : Heap} {b : Addr} {i j : Int}
    (x : ObjOk P w H h b (.lst [.int i, .int j])) : ObjOk P w H' h b (Box b) := by
  obtain ⟨_, its, n, r, e⟩ := x
  cases r with
  | cons r1 r =>
    cases r with
    | cons r2 r =>
      cases r
      obtain ⟨t, rfl⟩ := r1
      obtain ⟨u, rfl⟩ := r2
      exact ⟨⟨i, j, t, u, n, e⟩, ⟨_, e⟩, fun h1 h2 ⟨i, j, t, u, n, q⟩ k => ⟨i, j, t, u, n, k _ q⟩⟩
theorem box_open {P : Program} {w : World} {H : Hp} {h : Heap} {b : Addr}
    (x : ObjOk P w H h b (Box b)) : ∃ i j : Int, ∀ H', ObjOk P w H' h b (.lst [.int i, .int j]) := by
  obtain ⟨⟨i, j, t, u, n, e⟩, _, _⟩ := x
  exact ⟨i, j, fun H' => ⟨by show 2 ≤ sizeLine; decide, _, n, .cons ⟨t, rfl⟩ (.cons ⟨u, rfl⟩ .nil), e⟩⟩
section
variable {X : Cx} {pins : List (Addr × Obj)} {σ : L2.St} {H : Hp} {s : Shared} {b : Addr}
theorem inv_swap {o o' : HO} (I : Inv X pins σ H s) (ho : H b = some o) (mu : Mut (some o))
    (lt : ∃ u, s.heap.get? b = some u) (new : ObjOk X.prog X.w (upd H b o') s.heap b o') : Inv X pins σ (upd H b o') s := by
  exact I.write (e := b) (t' := s.toks) (by rw [ho]; exact mu) (.inl rfl) (fun _ _ _ q => q) lt new
theorem inv_shut {i j : Int} (I : Inv X pins σ H s) (hb : H b = some (.lst [.int i, .int j])) : Inv X pins σ (upd H b (Box b)) s :=
  let ⟨_, _, _, _, e⟩ := I.hok b _ hb; inv_swap I hb trivial ⟨_, e⟩ (box_shut (I.hok b _ hb))
theorem inv_open (I : Inv X pins σ H s) (hb : H b = some (Box b)) : ∃ i j : Int, Inv X pins σ (upd H b (.lst [.int i, .int j])) s := by
  obtain ⟨i, j, k⟩ := box_open (I.hok b _ hb)
  exact ⟨i, j, inv_swap I hb trivial (I.hok b _ hb).2.1 (k _)⟩
theorem upd_same_eq {o : HO} (h : H b = some o) : upd H b o = H := by
  funext c
  unfold upd
  split
  · rename_i e
    rw [e, h]
  · rfl
end
section
variable {X : Cx}
/-- box[0], box[1] -/
def rIxBox : R2 := fun x y H Q => ∃ (b : Addr) (k : Int), x = .ref b ∧ y = .int k ∧ (k = 0 ∨ k = 1) ∧ H b = some (Box b) ∧ ∀ z, Q (.int z) H
theorem ix_box : IxR X rIxBox := by
  intro value slice pins s σ H x y v u Q I rx ry h hs
  obtain ⟨b, k, rfl, rfl, hk, hb, q⟩ := h
  obtain ⟨i, j, I1⟩ := inv_open I hb
  have hx : ∃ z, atI [V.int i, V.int j] k = some (.int z) := by
    rcases hk with rfl | rfl
    · exact ⟨i, rfl⟩
    · exact ⟨j, rfl⟩
  obtain ⟨z, hz⟩ := hx
  refine wpAny_mono (ix_list value slice pins s σ _ (.ref b) (.int k) v u (fun v H1 => v = .int z ∧ H1 = upd H b (.lst [.int i, .int j])) I1 rx ry ⟨b, _, k, _, rfl, rfl, SqL.of upd_same, hz, rfl, rfl⟩ hs) (fun w s1 hw => ?_) fun _ _ e => e
  obtain ⟨v1, H1, I2, r1, e1, e2⟩ := hw
  subst e1 e2
  have I3 := inv_shut I2 upd_same
  rw [upd_upd, upd_same_eq hb] at I3
  exact ⟨_, H, I3, r1, q z⟩
/-- box[0] = an int -/
def rSetBox : V → V → V → Hp → (Hp → Prop) → Prop := fun o i v H Q => ∃ (b : Addr) (k z : Int), o = .ref b ∧ i = .int k ∧ v = .int z ∧ (k = 0 ∨ k = 1) ∧ H b = some (Box b) ∧ Q H
theorem set_box : PSet X rSetBox := by
  intro pins s σ H o i v ov iv u Q I ro ri rv h
  obtain ⟨b, k, z, rfl, rfl, rfl, hk, hb, q⟩ := h
  obtain ⟨i0, j0, I1⟩ := inv_open I hb
  have hx : ∃ n i1 j1, ixN [V.int i0, V.int j0].length k = some n ∧ [V.int i0, V.int j0].set n (.int z) = [.int i1, .int j1] := by
    rcases hk with rfl | rfl
    · exact ⟨0, z, j0, rfl, rfl⟩
    · exact ⟨1, i0, z, rfl, rfl⟩
  obtain ⟨n, i1, j1, hn, hset⟩ := hx
  refine wpAny_mono (set_list pins s σ _ (.ref b) (.int k) (.int z) ov iv u (fun H1 => H1 = upd (upd H b (.lst [.int i0, .int j0])) b (.lst [.int i1, .int j1])) I1 ro ri rv ⟨b, _, k, n, rfl, rfl, upd_same, hn, by rw [hset]⟩) (fun _ s1 hw => ?_) fun _ _ e => e
  obtain ⟨H1, I2, e1⟩ := hw
  subst e1
  have I3 := inv_shut I2 upd_same
  rw [upd_upd, upd_upd, upd_same_eq hb] at I3
  exact ⟨H, I3, q⟩
/-- a value that is a new list of two ints becomes a box -/
theorem pe_shut {e : Expr} {t : TE} (h : PE X e t) : PE X e (fun σ H Q => t σ H fun v H1 => ∃ b i j, v = .ref b ∧ H1 b = some (.lst [.int i, .int j]) ∧ Q (.ref b) (upd H1 b (Box b))) := by
  refine ⟨fun pins s σ H Q I q => ?_⟩
  refine wpAny_mono (h.run pins s σ H _ I q) (fun u s1 hu => ?_) fun _ _ e => e
  obtain ⟨v, H1, I1, r1, b, i, j, rfl, hb, q1⟩ := hu
  exact ⟨.ref b, _, inv_shut I1 hb, r1, q1⟩
end
theorem divP {i j : Int} {b : Nat} (h : 0 < j) (hb : j.natAbs < 2 ^ b) (h0 : 0 < b) (h9 : b ≤ 9000) : CDivP i j :=
  ⟨h, PyProof.noPylong_of_log2 (Nat.lt_of_lt_of_le (PySem.Flt.log2_lt_of h0 hb) h9)⟩
end TH
set_option maxRecDepth 100000
set_option maxHeartbeats 4000000
namespace TH
open PySem L2 Evl
def top (i : Nat) : Stmt := PySem.Challenge.pw_treehands_k03_kids_parts_places.main.body.getD i (.Pass ⟨0, 0, 0, 0⟩)
abbrev sBox : Stmt := top 26
abbrev sMore : Stmt := top 27
abbrev sTake : Stmt := top 28

structure Glob (mg : Str → Option Value) : Prop where
  range : mg "range" = none
  len : mg "len" = none
  abs : mg "abs" = none
  divmod : mg "divmod" = none

/-- _law_box: a new box -/
def spBox (K : PySem.W.Frag) : Sp := fun vs H Q _ => ∃ (a : Addr) (ns : List Int) (k : Int), vs = [.ref a, .int k] ∧ SqL K H a (ns.map V.int) ∧ 0 ≤ k ∧ k ≤ 100 ∧
  ∀ b H', H b = none → Ex H H' → H' b = some (Box b) → Q (.ref b) H'
/-- _law_more: a number that is not negative -/
def spMore : Sp := fun vs H Q _ => ∃ b : Addr, vs = [.ref b] ∧ H b = some (Box b) ∧ ∀ n : Int, 0 ≤ n → n.natAbs < 2 ^ 200 → Q (.int n) H
/-- _law_take: a digit below the count -/
def spTake : Sp := fun vs H Q _ => ∃ (b : Addr) (n : Int), vs = [.ref b, .int n] ∧ H b = some (Box b) ∧ 0 < n ∧ n.natAbs < 2 ^ 200 ∧
  ∀ d H', 0 ≤ d → d < n → Ex H H' → Q (.int d) H'

section
variable {P : Program} {w : World} {K : PySem.W.Frag} {mg : Str → Option Value} {base : Heap}
theorem scBox : FnScope ["_law_script", "_law_k", "_law_here", "_law_number", "_law_j", "_law_piece"] ["_law_script", "_law_k"] (defScope sBox) :=
  ⟨rfl, rfl, rfl, by decide +kernel, rfl, by decide +kernel, by decide +kernel⟩
theorem ok_box {f : Addr} {fd : FuncData} (F : Fun K "_law_box" "_law_box" sBox f fd) (G : Glob mg) :
    FnOk P w K mg base CX0 1 f fd ["_law_script", "_law_k"] (spBox K) := by
  refine F.ok scBox (fun vs H Q E h => ?_) (fun cdv A outer s H vs Q E hr h => ?_)
  · obtain ⟨a, ns, k, rfl, _⟩ := h
    rfl
  · obtain ⟨a, ns, k, rfl, hS, hk0, hk1, q⟩ := h
    refine ⟨_, pss_cons (ps_set (i := 2) scBox.nd rfl (.inl rfl) (pe_op op_add (pe_op op_mul pe_int (pv 1)) pe_int))
      (pss_cut (ps_if (pt_cmpR op_lt (pv 1) (pe_callB call_len_seq (by rfl) G.len PySem.boot_len (pa_cons (pv 0) pa_nil)) (nomark _))
        (pss_one (ps_set (i := 2) scBox.nd rfl (.inl rfl) (pe_ix ix_list (pv 0) (pv 1) (fun _ _ => rfl)))) pss_nil)
      (pss_cons (ps_if (pt_cmpR op_eq (pe_op op_mod (pv 2) pe_int) pe_int (nomark _))
        (pss_one (ps_ret (pe_shut (pe_lst (pa_cons (pe_op op_fdiv (pv 2) pe_int) (pa_cons (pe_op op_mod (pe_callB call_abs (by rfl) G.abs (by decide +kernel) (pa_cons (pv 2) pa_nil)) pe_int) pa_nil)))))) pss_nil)
      (pss_cons (ps_set (i := 3) scBox.nd rfl (.inl rfl) pe_int)
      (pss_cons (ps_for PassesOwn.never rfl (pi_range1 rfl G.range (pa_cons pe_int pa_nil)) (pg_name (i := 4) scBox.nd rfl (.inl rfl))
        (pss_cons (ps_set (i := 5) scBox.nd rfl (.inl rfl) (pe_op op_mod (pe_op op_add (pe_op op_add (pe_op op_mul (pe_op op_mod (pv 2) pe_int) pe_int) (pe_op op_mul pe_int (pv 4))) pe_int) pe_int))
        (pss_cons (ps_set (i := 5) scBox.nd rfl (.inl rfl) (pe_op op_mod (pe_op op_mul (pv 5) (pv 5)) pe_int))
        (pss_one (ps_set (i := 3) scBox.nd rfl (.inl rfl) (pe_op op_add (pe_op op_mul (pv 3) pe_int) (pe_op op_mod (pe_op op_mul (pv 5) (pe_op op_add (pv 5) pe_int)) pe_int)))))))
      (pss_one (ps_ret (pe_shut (pe_lst (pa_cons (pv 3) (pa_cons (pe_op op_mod (pe_callB call_abs (by rfl) G.abs (by decide +kernel) (pa_cons (pv 2) pa_nil)) pe_int) pa_nil)))))))))), ?_⟩
    -- 7919 * k + 13
    refine ⟨_, rfl, _, _, rfl, rfl, .inl (by decide), _, _, rfl, rfl, ?_⟩
    -- if k < len(script)
    refine ⟨fun σ' H' => H' = H ∧ ∃ z : Int, σ' = [some (.ref a), some (.int k), some (.int z), none, none, none], ?_, ?_⟩
    · refine ⟨_, rfl, _, rfl, _, _, rfl, .inl hS, _, _, rfl, rfl, _, rfl, ite2 (fun c => ?_) (fun _ => ?_)⟩
      · have c' : k < ((ns.map V.int).length : Int) := of_decide_eq_true c
        rw [List.length_map] at c'
        obtain ⟨j, rfl⟩ := Int.eq_ofNat_of_zero_le hk0
        have hj : j < ns.length := by omega
        refine ⟨_, rfl, _, rfl, _, _, _, .int ns[j], rfl, rfl, hS, atI_nat (by simp [hj]), rfl, ns[j], rfl⟩
      · exact ⟨rfl, _, rfl⟩
    · rintro σ' H' ⟨rfl, z, rfl⟩
      -- if here % 2 == 0
      refine ⟨_, rfl, _, _, rfl, rfl, (by show (0 : Int) < 2; decide), rfl, _, rfl, ite2 (fun _ => ?_) (fun _ => ?_)⟩
      · refine ⟨_, rfl, _, _, rfl, rfl, ⟨by decide, by decide⟩, _, rfl, _, rfl, _, _, rfl, rfl, (by show (0 : Int) < 2147483647; decide), (by show 2 ≤ sizeLine; decide), fun p hp => ⟨p, _, _, rfl, upd_same, ?_⟩⟩
        rw [upd_upd]
        exact q p _ hp (Ex.new hp) upd_same
      · refine ⟨16, rfl, by decide, by decide, for_range (n := 16) (fun i σ' H'' => H'' = H' ∧ ∃ (n : Int) (u v : Option V), σ' = [some (.ref a), some (.int k), some (.int z), some (.int n), u, v]) ⟨rfl, 0, none, none, rfl⟩ ?_ ?_⟩
        · rintro i σ' H'' hi ⟨rfl, n, u, v, rfl⟩
          have hm : ∀ x : Int, 0 ≤ x % 2147483647 ∧ x % 2147483647 < 2147483647 := fun x => ⟨Int.emod_nonneg _ (by decide), Int.emod_lt_of_pos _ (by decide)⟩
          have hm2 : ∀ x : Int, 0 ≤ x % 2147483629 ∧ x % 2147483629 < 2147483629 := fun x => ⟨Int.emod_nonneg _ (by decide), Int.emod_lt_of_pos _ (by decide)⟩
          refine ⟨_, rfl, _, _, rfl, rfl, (by show (0 : Int) < 2147483647; decide), _, _, rfl, rfl, .inr (by decide), _, rfl, _, _, rfl, rfl, .inl (by decide), _, _, rfl, rfl, _, _, rfl, rfl, _, _, rfl, rfl, (by show (0 : Int) < 2147483647; decide), ?_⟩
          refine ⟨_, rfl, _, rfl, _, _, rfl, rfl, .inl ?_, _, _, rfl, rfl, (by show (0 : Int) < 2147483629; decide), ?_⟩
          · have := hm (z % 2147483647 * 48271 + 7919 * (0 + (i : Int)) + 1)
            omega
          refine ⟨_, rfl, _, _, rfl, rfl, .inr (by decide), _, rfl, _, rfl, _, _, rfl, rfl, _, _, rfl, rfl, .inl ?_, _, _, rfl, rfl, (by show (0 : Int) < 2147483647; decide), _, _, rfl, rfl, rfl, _, _, _, rfl⟩
          · have := hm2 ((z % 2147483647 * 48271 + 7919 * (0 + (i : Int)) + 1) % 2147483647 * ((z % 2147483647 * 48271 + 7919 * (0 + (i : Int)) + 1) % 2147483647))
            omega
        · rintro σ' H'' ⟨rfl, n, u, v, rfl⟩
          refine ⟨_, rfl, _, rfl, _, rfl, _, _, rfl, rfl, (by show (0 : Int) < 2147483647; decide), (by show 2 ≤ sizeLine; decide), fun p hp => ⟨p, _, _, rfl, upd_same, ?_⟩⟩
          rw [upd_upd]
          exact q p _ hp (Ex.new hp) upd_same
theorem pow_step {i : Nat} {n r : Int} (h0 : 0 ≤ n) (h : n < 65521 ^ i) (r0 : 0 ≤ r) (r1 : r < 65521) : 0 ≤ n * 65521 + r ∧ n * 65521 + r < 65521 ^ (i + 1) := by
  rw [Int.pow_succ]
  have h2 : n + 1 ≤ 65521 ^ i := h
  have h3 : (n + 1) * 65521 ≤ 65521 ^ i * 65521 := Int.mul_le_mul_of_nonneg_right h2 (by decide)
  rw [Int.add_mul] at h3
  refine ⟨?_, ?_⟩
  · have := Int.mul_nonneg h0 (show (0 : Int) ≤ 65521 by decide)
    omega
  · omega
theorem scMore : FnScope ["_law_box_here", "_law_number", "_law_j"] ["_law_box_here"] (defScope sMore) :=
  ⟨rfl, rfl, rfl, by decide +kernel, rfl, by decide +kernel, by decide +kernel⟩
theorem ok_more {f : Addr} {fd : FuncData} (F : Fun K "_law_more" "_law_more" sMore f fd) (G : Glob mg) :
    FnOk P w K mg base CX0 1 f fd ["_law_box_here"] spMore := by
  refine F.ok scMore (fun vs H Q E h => ?_) (fun cdv A outer s H vs Q E hr h => ?_)
  · obtain ⟨b, rfl, _⟩ := h
    rfl
  · obtain ⟨b, rfl, hb, q⟩ := h
    refine ⟨_, pss_cons (ps_set (i := 1) scMore.nd rfl (.inl rfl) pe_int)
      (pss_cons (ps_for PassesOwn.never rfl (pi_range1 rfl G.range (pa_cons pe_int pa_nil)) (pg_name (i := 2) scMore.nd rfl (.inl rfl))
        (pss_cons (ps_asg (pe_op op_mod (pe_op op_add (pe_op op_mul (pe_ix ix_box (pv 0) pe_int (fun _ _ => rfl)) pe_int) pe_int) pe_int) (pg_sub (pv 0) pe_int set_box))
        (pss_one (ps_set (i := 1) scMore.nd rfl (.inl rfl) (pe_op op_add (pe_op op_mul (pv 1) pe_int) (pe_op op_mod (pe_op op_fdiv (pe_ix ix_box (pv 0) pe_int (fun _ _ => rfl)) pe_int) pe_int))))))
      (pss_one (ps_ret (pv 1)))), ?_⟩
    refine ⟨12, rfl, by decide, by decide, for_range (n := 12) (fun i σ' H' => H' = H ∧ ∃ (n : Int) (u : Option V), σ' = [some (.ref b), some (.int n), u] ∧ 0 ≤ n ∧ n < 65521 ^ i) ⟨rfl, 0, none, rfl, by decide, by decide⟩ ?_ ?_⟩
    · rintro i σ' H' hi ⟨rfl, n, u, rfl, h0, h1⟩
      refine ⟨_, rfl, b, 1, rfl, rfl, .inr rfl, hb, fun z => ⟨_, _, rfl, rfl, .inr (by decide), _, _, rfl, rfl, _, _, rfl, rfl, (by show (0 : Int) < 2147483647; decide), ?_⟩⟩
      refine ⟨_, rfl, b, 1, _, rfl, rfl, rfl, .inr rfl, hb, ?_⟩
      refine ⟨_, rfl, _, _, rfl, rfl, .inr (by decide), _, rfl, b, 1, rfl, rfl, .inr rfl, hb, fun y => ⟨_, _, rfl, rfl, ⟨by decide, by decide⟩, _, _, rfl, rfl, (by show (0 : Int) < 65521; decide), _, _, rfl, rfl, rfl, _, _, rfl, ?_⟩⟩
      exact pow_step h0 h1 (Int.emod_nonneg _ (by decide)) (Int.emod_lt_of_pos _ (by decide))
    · rintro σ' H' ⟨rfl, n, u, rfl, h0, h1⟩
      refine ⟨_, rfl, q n h0 ?_⟩
      have e : (65521 : Int) ^ 12 < 2 ^ 200 := by decide
      have e2 : ((n.natAbs : Nat) : Int) < ((2 ^ 200 : Nat) : Int) := by
        rw [Int.natAbs_of_nonneg h0]
        exact Int.lt_trans h1 (by decide)
      exact Int.ofNat_lt.mp e2
theorem scTake : FnScope ["_law_box_here", "_law_count", "_law_rest_of", "_law_digit"] ["_law_box_here", "_law_count"] (defScope sTake) :=
  ⟨rfl, rfl, rfl, by decide +kernel, rfl, by decide +kernel, by decide +kernel⟩
theorem ok_take {f fM : Addr} {fd fdM : FuncData} (F : Fun K "_law_take" "_law_take" sTake f fd) (G : Glob mg) (FM : Fun K "_law_more" "_law_more" sMore fM fdM) (mM : mg "_law_more" = some (.ref fM)) (bM : Binds K fdM ["_law_box_here"] []) :
    FnOk P w K mg base CX0 2 f fd ["_law_box_here", "_law_count"] spTake := by
  have GM : FnOk P w K mg base CX0 1 fM fdM ["_law_box_here"] spMore := ok_more FM G
  refine F.ok scTake (fun vs H Q E h => ?_) (fun cdv A outer s H vs Q E hr h => ?_)
  · obtain ⟨b, n, rfl, _⟩ := h
    rfl
  · obtain ⟨b, n, rfl, hb, n0, nb, q⟩ := h
    refine ⟨_, pss_cut (ps_if (pt_chain op_le op_lt pe_int (pe_ix ix_box (pv 0) pe_int (fun _ _ => rfl)) (pv 1))
        (pss_one (ps_asg (pe_op op_add (pe_ix ix_box (pv 0) pe_int (fun _ _ => rfl)) (pe_op op_mulW (pv 1) (pe_call GM hr rfl mM FM.kp bM .nil pass0 (pa_cons (pv 0) pa_nil)))) (pg_sub (pv 0) pe_int set_box))) pss_nil)
      (pss_cons (ps_asg (pe_callB call_divmodW (by rfl) G.divmod (by decide +kernel) (pa_cons (pe_ix ix_box (pv 0) pe_int (fun _ _ => rfl)) (pa_cons (pv 1) pa_nil)))
        (pg_tup (by rfl) (pgs_cons (pg_name (i := 2) scTake.nd rfl (.inl rfl)) (pgs_cons (pg_name (i := 3) scTake.nd rfl (.inl rfl)) pgs_nil))))
      (pss_cons (ps_asg (pv 2) (pg_sub (pv 0) pe_int set_box))
      (pss_one (ps_ret (pv 3))))), ?_⟩
    refine ⟨fun σ' H' => H' = H ∧ σ' = [some (.ref b), some (.int n), none, none], ?_, ?_⟩
    · refine ⟨_, rfl, b, 0, rfl, rfl, .inl rfl, hb, fun z => ⟨_, _, rfl, rfl, _, rfl, ite2 (fun c => ?_) (fun _ => ?_)⟩⟩
      · refine ⟨_, rfl, _, _, rfl, rfl, _, rfl, ite2 (fun _ => ?_) (fun _ => ?_)⟩
        · refine ⟨_, rfl, b, 0, rfl, rfl, .inl rfl, hb, fun y => ⟨_, rfl, _, rfl, b, rfl, hb, fun m m0 mb => ⟨_, _, rfl, rfl, wide_mul nb mb (by decide) (by decide) (by decide), _, _, rfl, rfl, ?_⟩⟩⟩
          exact ⟨_, rfl, b, 0, _, rfl, rfl, rfl, .inl rfl, hb, rfl, rfl⟩
        · exact ⟨rfl, rfl⟩
      · exact ⟨_, rfl, iteF ⟨rfl, rfl⟩⟩
    · rintro σ' H' ⟨rfl, rfl⟩
      refine ⟨_, rfl, b, 0, rfl, rfl, .inl rfl, hb, fun z => ⟨_, rfl, _, _, rfl, divP n0 nb (by decide) (by decide), fun p hp => ?_⟩⟩
      have e : Ex H' (upd H' p (.tup [.int (z / n), .int (z % n)])) := Ex.new hp
      refine ⟨p, _, rfl, SqT.of upd_same, rfl, _, _, rfl, _, _, rfl, rfl, ?_⟩
      refine ⟨_, rfl, _, rfl, b, 0, _, rfl, rfl, rfl, .inl rfl, e _ _ hb, ?_⟩
      exact ⟨_, rfl, q _ _ (Int.emod_nonneg _ (by omega)) (Int.emod_lt_of_pos _ n0) e⟩
end
end TH
set_option maxRecDepth 100000
set_option maxHeartbeats 4000000
namespace TH
open PySem L2 Evl
/-! ### data as it lies in the heap, its lists apart from the ones that are being changed (M) -/
mutual
inductive Dt (K : PySem.W.Frag) (M : Addr → Prop) (H : Hp) : V → PyData → Prop
  | non : Dt K M H .non .none
  | bl (b : Bool) : Dt K M H (.bl b) (.bool b)
  | int (i : Int) : Dt K M H (.int i) (.int i)
  | str (x : Str) : Dt K M H (.str x) (.str x)
  | lst {a : Addr} {xs : List V} {ds : List PyData} : H a = some (.lst xs) → ¬ M a → Dts K M H xs ds → Dt K M H (.ref a) (.list ds)
  | tup {a : Addr} {xs : List V} {ds : List PyData} : H a = some (.tup xs) → Dts K M H xs ds → Dt K M H (.ref a) (.tuple ds)
inductive Dts (K : PySem.W.Frag) (M : Addr → Prop) (H : Hp) : List V → List PyData → Prop
  | nil : Dts K M H [] []
  | cons {v : V} {vs : List V} {d : PyData} {ds : List PyData} : Dt K M H v d → Dts K M H vs ds → Dts K M H (v :: vs) (d :: ds)
end
section
variable {K : PySem.W.Frag} {M M' : Addr → Prop} {H H' H1 H2 : Hp}
mutual
/-- data in another heap, lists and tuples kept -/
theorem Dt.move (hl : ∀ a xs, H a = some (.lst xs) → ¬ M a → H' a = some (.lst xs) ∧ ¬ M' a) (ht : ∀ a xs, H a = some (.tup xs) → H' a = some (.tup xs)) : ∀ (d : PyData) (v : V), Dt K M H v d → Dt K M' H' v d
  | .none, _, h => by cases h; exact .non
  | .bool b, _, h => by cases h; exact .bl b
  | .int i, _, h => by cases h; exact .int i
  | .str x, _, h => by cases h; exact .str x
  | .list ds, _, h => by
    cases h with
    | lst h1 h2 h3 => exact .lst (hl _ _ h1 h2).1 (hl _ _ h1 h2).2 (Dts.move hl ht ds _ h3)
  | .tuple ds, _, h => by
    cases h with
    | tup h1 h3 => exact .tup (ht _ _ h1) (Dts.move hl ht ds _ h3)
  | .dict _, _, h => by cases h
theorem Dts.move (hl : ∀ a xs, H a = some (.lst xs) → ¬ M a → H' a = some (.lst xs) ∧ ¬ M' a) (ht : ∀ a xs, H a = some (.tup xs) → H' a = some (.tup xs)) : ∀ (ds : List PyData) (vs : List V), Dts K M H vs ds → Dts K M' H' vs ds
  | [], _, h => by cases h; exact .nil
  | d :: ds, _, h => by
    cases h with
    | cons h1 h2 => exact .cons (Dt.move hl ht d _ h1) (Dts.move hl ht ds _ h2)
end
mutual
theorem Dt.dp : ∀ (d : PyData) (v : V), Dt K M H v d → Dp K H v d
  | .none, _, h => by cases h; exact .non
  | .bool b, _, h => by cases h; exact .bl b
  | .int i, _, h => by cases h; exact .int i
  | .str x, _, h => by cases h; exact .str x
  | .list ds, _, h => by
    cases h with
    | lst h1 h2 h3 => exact .lst (sq_of h1) (Dts.dp ds _ h3)
  | .tuple ds, _, h => by
    cases h with
    | tup h1 h3 => exact .tup (SqT.of h1) (Dts.dp ds _ h3)
  | .dict _, _, h => by cases h
theorem Dts.dp : ∀ (ds : List PyData) (vs : List V), Dts K M H vs ds → DpAll K H vs ds
  | [], _, h => by cases h; exact .nil
  | d :: ds, _, h => by
    cases h with
    | cons h1 h2 => exact .cons (Dt.dp d _ h1) (Dts.dp ds _ h2)
end
theorem Dt.ex {v : V} {d : PyData} (h : Dt K M H v d) (e : Ex H H') : Dt K M H' v d := Dt.move (fun a xs h n => ⟨e _ _ h, n⟩) (fun a xs h => e _ _ h) d v h
theorem Dts.ex {vs : List V} {ds : List PyData} (h : Dts K M H vs ds) (e : Ex H H') : Dts K M H' vs ds := Dts.move (fun a xs h n => ⟨e _ _ h, n⟩) (fun a xs h => e _ _ h) ds vs h
theorem Dt.weak {v : V} {d : PyData} (h : Dt K M H v d) (m : ∀ a, M' a → M a) : Dt K M' H v d := Dt.move (fun a xs h n => ⟨h, fun z => n (m a z)⟩) (fun a xs h => h) d v h
theorem Dts.weak {vs : List V} {ds : List PyData} (h : Dts K M H vs ds) (m : ∀ a, M' a → M a) : Dts K M' H vs ds := Dts.move (fun a xs h n => ⟨h, fun z => n (m a z)⟩) (fun a xs h => h) ds vs h
theorem sqt_upd {a l : Addr} {xs ys : List V} {o : HO} (hl : H l = some (.lst ys)) (h : SqT K H a xs) : SqT K (upd H l o) a xs := by
  have ne : ∀ u, H a = some u → (∀ zs, u ≠ .lst zs) → a ≠ l := fun u h1 h2 z => by
    subst z
    rw [hl] at h1
    exact h2 ys (Option.some.inj h1).symm
  rcases h with (h | ⟨u, h⟩) | h
  · exact .inl (.inl (by rw [upd_ne (ne _ h fun zs z => by cases z)]; exact h))
  · exact .inl (.inr ⟨u, by rw [upd_ne (ne _ h fun zs z => by cases z)]; exact h⟩)
  · exact .inr h
theorem Dt.upd {v : V} {d : PyData} {l : Addr} {ys : List V} {o : HO} (h : Dt K M H v d) (hl : H l = some (.lst ys)) (m : M l) : Dt K M (L2.upd H l o) v d :=
  Dt.move (fun a xs h n => ⟨by rw [upd_ne (show a ≠ l from fun z => n (by rw [z]; exact m))]; exact h, n⟩) (fun a xs h => by rw [upd_ne (ne_of h hl (by intro z; cases z))]; exact h) d v h
theorem Dts.upd {vs : List V} {ds : List PyData} {l : Addr} {ys : List V} {o : HO} (h : Dts K M H vs ds) (hl : H l = some (.lst ys)) (m : M l) : Dts K M (L2.upd H l o) vs ds :=
  Dts.move (fun a xs h n => ⟨by rw [upd_ne (show a ≠ l from fun z => n (by rw [z]; exact m))]; exact h, n⟩) (fun a xs h => by rw [upd_ne (ne_of h hl (by intro z; cases z))]; exact h) ds vs h
theorem Dts.length : ∀ {vs : List V} {ds : List PyData}, Dts K M H vs ds → vs.length = ds.length
  | _, _, .nil => rfl
  | _, _, .cons _ t => by rw [List.length_cons, List.length_cons, Dts.length t]
theorem Dts.get : ∀ {vs : List V} {ds : List PyData} {i : Nat} {v : V}, Dts K M H vs ds → vs[i]? = some v → ∃ d, ds[i]? = some d ∧ Dt K M H v d
  | _, _, _, _, .nil, e => by simp at e
  | _, _, 0, _, .cons r _, e => by simp at e; subst e; exact ⟨_, rfl, r⟩
  | _, _, i + 1, v, .cons _ t, e => by
    obtain ⟨u, h1, h2⟩ := Dts.get (i := i) (v := v) t (by simpa using e)
    exact ⟨u, by simpa using h1, h2⟩
theorem Dts.at : ∀ {vs : List V} {ds : List PyData} {i : Nat} {d : PyData}, Dts K M H vs ds → ds[i]? = some d → ∃ v, vs[i]? = some v ∧ Dt K M H v d
  | _, _, _, _, .nil, e => by simp at e
  | _, _, 0, _, .cons r _, e => by simp at e; subst e; exact ⟨_, rfl, r⟩
  | _, _, i + 1, v, .cons _ t, e => by
    obtain ⟨u, h1, h2⟩ := Dts.at (i := i) (d := v) t (by simpa using e)
    exact ⟨u, by simpa using h1, h2⟩
theorem Dts.append : ∀ {xs ys : List V} {ds es : List PyData}, Dts K M H xs ds → Dts K M H ys es → Dts K M H (xs ++ ys) (ds ++ es)
  | _, _, _, _, .nil, s => s
  | _, _, _, _, .cons r t, s => .cons r (Dts.append t s)
theorem Dts.one {v : V} {d : PyData} (h : Dt K M H v d) : Dts K M H [v] [d] := .cons h .nil
theorem Dts.take : ∀ {xs : List V} {ds : List PyData} (n : Nat), Dts K M H xs ds → Dts K M H (xs.take n) (ds.take n)
  | _, _, 0, _ => .nil
  | _, _, _ + 1, .nil => .nil
  | _, _, n + 1, .cons r t => .cons r (Dts.take n t)
theorem Dts.drop : ∀ {xs : List V} {ds : List PyData} (n : Nat), Dts K M H xs ds → Dts K M H (xs.drop n) (ds.drop n)
  | _, _, 0, r => r
  | _, _, _ + 1, .nil => .nil
  | _, _, n + 1, .cons _ t => Dts.drop n t
theorem Dts.set : ∀ {xs : List V} {ds : List PyData} {v : V} {d : PyData} (i : Nat), Dt K M H v d → Dts K M H xs ds → Dts K M H (xs.set i v) (ds.set i d)
  | _, _, _, _, _, _, .nil => .nil
  | _, _, _, _, 0, r, .cons _ t => .cons r t
  | _, _, _, _, n + 1, r, .cons q t => .cons q (Dts.set n r t)
theorem Dts.reverse : ∀ {xs : List V} {ds : List PyData}, Dts K M H xs ds → Dts K M H xs.reverse ds.reverse
  | _, _, .nil => .nil
  | _, _, .cons r t => by
    rw [List.reverse_cons, List.reverse_cons]
    exact Dts.append (Dts.reverse t) (.one r)
/-- a part of a list -/
def cutG {α : Type} (xs : List α) (lo hi : Option Int) : List α := (xs.drop (HT.sIx xs.length 0 lo)).take (HT.sIx xs.length xs.length hi - HT.sIx xs.length 0 lo)
theorem Dts.cut {xs : List V} {ds : List PyData} {lo hi : Option Int} (h : Dts K M H xs ds) : Dts K M H (cutV xs lo hi) (cutG ds lo hi) := by
  unfold cutV cutG
  rw [h.length]
  exact (h.drop _).take _
theorem Dts.ints : ∀ {vs : List V} (ns : List Int), Dts K M H vs (ns.map PyData.int) → vs = ns.map V.int
  | _, [], .nil => rfl
  | _, n :: ns, .cons (.int _) t => by rw [Dts.ints ns t]; rfl
theorem Dts.strs : ∀ {vs : List V} (ns : List Str), Dts K M H vs (ns.map PyData.str) → vs = ns.map V.str
  | _, [], .nil => rfl
  | _, n :: ns, .cons (.str _) t => by rw [Dts.strs ns t]; rfl
theorem Dts.bls : ∀ {vs : List V} (ns : List Bool), Dts K M H vs (ns.map PyData.bool) → vs = ns.map V.bl
  | _, [], .nil => rfl
  | _, n :: ns, .cons (.bl _) t => by rw [Dts.bls ns t]; rfl
theorem Dts.of_ints : ∀ (ns : List Int), Dts K M H (ns.map V.int) (ns.map PyData.int)
  | [] => .nil
  | n :: ns => .cons (.int n) (Dts.of_ints ns)
theorem Dts.of_strs : ∀ (ns : List Str), Dts K M H (ns.map V.str) (ns.map PyData.str)
  | [] => .nil
  | n :: ns => .cons (.str n) (Dts.of_strs ns)

/-! ### what an expression gives, as data -/
/-- the changing ones are all known -/
def Ok (M : Addr → Prop) (H : Hp) : Prop := ∀ l, M l → H l ≠ none
theorem Ok.ex (h : Ok M H) (e : Ex H H') : Ok M H' := fun l m z => by
  cases q : H l with
  | none => exact h l m q
  | some o =>
    rw [e l o q] at z
    cases z
theorem Ok.new (h : Ok M H) {p : Addr} (n : H p = none) : ¬ M p := fun m => h p m n
def EvP (K : PySem.W.Frag) (M : Addr → Prop) (te : TE) (σ : L2.St) (H : Hp) (P : PyData → Prop) : Prop :=
  ∀ H1, Ex H H1 → ∀ Q : VK, (∀ v d H2, Ex H1 H2 → Dt K M H2 v d → P d → Q v H2) → te σ H1 Q
def EvPA (K : PySem.W.Frag) (M : Addr → Prop) (ta : TA) (σ : L2.St) (H : Hp) (P : List PyData → Prop) : Prop :=
  ∀ H1, Ex H H1 → ∀ Q : List V → Hp → Prop, (∀ vs ds H2, Ex H1 H2 → Dts K M H2 vs ds → P ds → Q vs H2) → ta σ H1 Q
abbrev EvD (K : PySem.W.Frag) (M : Addr → Prop) (te : TE) (σ : L2.St) (H : Hp) (d : PyData) : Prop := EvP K M te σ H (· = d)
abbrev EvDA (K : PySem.W.Frag) (M : Addr → Prop) (ta : TA) (σ : L2.St) (H : Hp) (ds : List PyData) : Prop := EvPA K M ta σ H (· = ds)
end
section
variable {K : PySem.W.Frag} {M : Addr → Prop} {H H' : Hp} {σ : L2.St} {ta tb te tc : TE} {r : R2} {P PA PB : PyData → Prop} {d d1 d2 : PyData}
theorem EvP.use (h : EvP K M te σ H P) {Q : VK} (q : ∀ v d H2, Ex H H2 → Dt K M H2 v d → P d → Q v H2) : te σ H Q := h H (Ex.refl H) Q q
theorem EvP.ex (h : EvP K M te σ H P) (e : Ex H H') : EvP K M te σ H' P := fun H1 e1 => h H1 (e.trans e1)
theorem EvPA.use {ta : TA} {P : List PyData → Prop} (h : EvPA K M ta σ H P) {Q : List V → Hp → Prop} (q : ∀ vs ds H2, Ex H H2 → Dts K M H2 vs ds → P ds → Q vs H2) : ta σ H Q := h H (Ex.refl H) Q q
theorem EvPA.ex {ta : TA} {P : List PyData → Prop} (h : EvPA K M ta σ H P) (e : Ex H H') : EvPA K M ta σ H' P := fun H1 e1 => h H1 (e.trans e1)
theorem EvP.mono (h : EvP K M te σ H P) (k : ∀ d, P d → PA d) : EvP K M te σ H PA := fun H1 e Q q => h H1 e Q fun v d H2 e2 hd hp => q v d H2 e2 hd (k d hp)
/-- data from a value that is known -/
theorem evd_of {v : V} (h : Ev te σ H v) (hd : Dt K M H v d) : EvD K M te σ H d := fun H1 e Q q => h H1 e Q fun H2 e2 => q v d H2 e2 (hd.ex (e.trans e2)) rfl
theorem evd_var {i : Nat} {v : V} (h : σ[i]? = some (some v)) (hd : Dt K M H v d) : EvD K M (tVar i) σ H d := evd_of (ev_var h) hd
theorem evd_int {i : Int} : EvD K M (tC (.int i)) σ H (.int i) := evd_of ev_c (.int i)
theorem evd_str {x : Str} : EvD K M (tC (.str x)) σ H (.str x) := evd_of ev_c (.str x)
theorem evd_bl {b : Bool} : EvD K M (tC (.bl b)) σ H (.bool b) := evd_of ev_c (.bl b)
theorem evd_non : EvD K M (tC .non) σ H .none := evd_of ev_c .non
/-- an operator, by its rule on data -/
theorem evp_op (ha : EvP K M ta σ H PA) (hb : EvP K M tb σ H PB)
    (hr : ∀ x y a b H1, Ex H H1 → Dt K M H1 x a → Dt K M H1 y b → PA a → PB b → ∀ Q : VK, (∀ v d H2, Ex H1 H2 → Dt K M H2 v d → P d → Q v H2) → r x y H1 Q) : EvP K M (tOp r ta tb) σ H P := fun H1 e Q q =>
  ha H1 e _ fun x a H2 e2 dx px => hb H2 (e.trans e2) _ fun y b H3 e3 dy py => hr x y a b H3 ((e.trans e2).trans e3) (dx.ex e3) dy px py Q fun v d H4 e4 dv pv => q v d H4 ((e2.trans e3).trans e4) dv pv
/-- two ints -/
theorem evp_I0 {g : Int → Int → V} (ha : EvP K M ta σ H PA) (hb : EvP K M tb σ H PB) (hg : ∀ a b, PA a → PB b → ∃ i j, a = .int i ∧ b = .int j ∧ ∃ d, P d ∧ ∀ H', Dt K M H' (g i j) d) : EvP K M (tOp (rI0 g) ta tb) σ H P :=
  evp_op ha hb fun x y a b H1 e dx dy px py Q q => by
    obtain ⟨i, j, rfl, rfl, d, pd, hd⟩ := hg a b px py
    cases dx
    cases dy
    exact ⟨i, j, rfl, rfl, q _ d H1 (Ex.refl _) (hd _) pd⟩
theorem evp_I {C : Int → Int → Prop} {g : Int → Int → V} (ha : EvP K M ta σ H PA) (hb : EvP K M tb σ H PB) (hg : ∀ a b, PA a → PB b → ∃ i j, a = .int i ∧ b = .int j ∧ C i j ∧ ∃ d, P d ∧ ∀ H', Dt K M H' (g i j) d) : EvP K M (tOp (rI C g) ta tb) σ H P :=
  evp_op ha hb fun x y a b H1 e dx dy px py Q q => by
    obtain ⟨i, j, rfl, rfl, hc, d, pd, hd⟩ := hg a b px py
    cases dx
    cases dy
    exact ⟨i, j, rfl, rfl, hc, q _ d H1 (Ex.refl _) (hd _) pd⟩
theorem evd_add {i j : Int} (ha : EvD K M ta σ H (.int i)) (hb : EvD K M tb σ H (.int j)) : EvD K M (tOp (rI0 fun i j => .int (i + j)) ta tb) σ H (.int (i + j)) :=
  evp_I0 ha hb fun a b pa pb => ⟨i, j, pa, pb, _, rfl, fun _ => .int _⟩
theorem evd_sub {i j : Int} (ha : EvD K M ta σ H (.int i)) (hb : EvD K M tb σ H (.int j)) : EvD K M (tOp (rI0 fun i j => .int (i - j)) ta tb) σ H (.int (i - j)) :=
  evp_I0 ha hb fun a b pa pb => ⟨i, j, pa, pb, _, rfl, fun _ => .int _⟩
theorem evd_cmp {g : Int → Int → Bool} {i j : Int} (ha : EvD K M ta σ H (.int i)) (hb : EvD K M tb σ H (.int j)) : EvD K M (tOp (rI0 fun i j => .bl (g i j)) ta tb) σ H (.bool (g i j)) :=
  evp_I0 ha hb fun a b pa pb => ⟨i, j, pa, pb, _, rfl, fun _ => .bl _⟩
/-- == of ints, of texts -/
theorem evd_eqI {i j : Int} (ha : EvD K M ta σ H (.int i)) (hb : EvD K M tb σ H (.int j)) : EvD K M (tOp rEq ta tb) σ H (.bool (decide (i = j))) :=
  evp_op ha hb fun x y a b H1 e dx dy px py Q q => by
    subst px py
    cases dx
    cases dy
    refine ⟨rfl, q _ _ H1 (Ex.refl _) (.bl _) ?_⟩
    simp
theorem evd_neI {i j : Int} (ha : EvD K M ta σ H (.int i)) (hb : EvD K M tb σ H (.int j)) : EvD K M (tOp rNe ta tb) σ H (.bool (!decide (i = j))) :=
  evp_op ha hb fun x y a b H1 e dx dy px py Q q => by
    subst px py
    cases dx
    cases dy
    refine ⟨rfl, q _ _ H1 (Ex.refl _) (.bl _) ?_⟩
    simp
theorem evd_eqS {i j : Str} (ha : EvD K M ta σ H (.str i)) (hb : EvD K M tb σ H (.str j)) : EvD K M (tOp rEq ta tb) σ H (.bool (decide (i = j))) :=
  evp_op ha hb fun x y a b H1 e dx dy px py Q q => by
    subst px py
    cases dx
    cases dy
    refine ⟨rfl, q _ _ H1 (Ex.refl _) (.bl _) ?_⟩
    simp
theorem evd_neS {i j : Str} (ha : EvD K M ta σ H (.str i)) (hb : EvD K M tb σ H (.str j)) : EvD K M (tOp rNe ta tb) σ H (.bool (!decide (i = j))) :=
  evp_op ha hb fun x y a b H1 e dx dy px py Q q => by
    subst px py
    cases dx
    cases dy
    refine ⟨rfl, q _ _ H1 (Ex.refl _) (.bl _) ?_⟩
    simp
/-- arguments -/
theorem eva_nil : EvDA K M tNil σ H [] := fun H1 e Q q => q [] [] H1 (Ex.refl _) .nil rfl
theorem evpa_cons {tr : TA} {PR : List PyData → Prop} (ha : EvP K M ta σ H PA) (hr : EvPA K M tr σ H PR) : EvPA K M (tCons ta tr) σ H (fun l => ∃ a ds, l = a :: ds ∧ PA a ∧ PR ds) := fun H1 e Q q =>
  ha H1 e _ fun x a H2 e2 dx px => hr H2 (e.trans e2) _ fun vs ds H3 e3 dv pv => q _ _ H3 (e2.trans e3) (.cons (dx.ex e3) dv) ⟨a, ds, rfl, px, pv⟩
theorem eva_cons {tr : TA} {ds : List PyData} (ha : EvD K M ta σ H d) (hr : EvDA K M tr σ H ds) : EvDA K M (tCons ta tr) σ H (d :: ds) := fun H1 e Q q =>
  ha H1 e _ fun x a H2 e2 dx px => hr H2 (e.trans e2) _ fun vs es H3 e3 dv pv => q _ _ H3 (e2.trans e3) (.cons (dx.ex e3) dv) (by rw [px, pv])
/-- displays -/
theorem evp_tup {t : TA} {PL : List PyData → Prop} (h : EvPA K M t σ H PL) (hl : ∀ ds, PL ds → ds.length ≤ sizeLine) : EvP K M (tTup t) σ H (fun d => ∃ ds, d = .tuple ds ∧ PL ds) := fun H1 e Q q =>
  h H1 e _ fun vs ds H2 e2 dv pv => ⟨by rw [dv.length]; exact hl ds pv, fun p hp => q _ _ _ (e2.trans (Ex.new hp)) (.tup upd_same (dv.ex (Ex.new hp))) ⟨ds, rfl, pv⟩⟩
theorem evd_tup {t : TA} {ds : List PyData} (h : EvDA K M t σ H ds) (hl : ds.length ≤ sizeLine := by decide) : EvD K M (tTup t) σ H (.tuple ds) := fun H1 e Q q =>
  h H1 e _ fun vs es H2 e2 dv pv => ⟨by rw [dv.length, pv]; exact hl, fun p hp => q _ _ _ (e2.trans (Ex.new hp)) (.tup upd_same (dv.ex (Ex.new hp))) (by rw [pv])⟩
theorem evp_lst {t : TA} {PL : List PyData → Prop} (ok : Ok M H) (h : EvPA K M t σ H PL) (hl : ∀ ds, PL ds → ds.length ≤ sizeLine) : EvP K M (tLst t) σ H (fun d => ∃ ds, d = .list ds ∧ PL ds) := fun H1 e Q q =>
  h H1 e _ fun vs ds H2 e2 dv pv => ⟨by rw [dv.length]; exact hl ds pv, fun p hp => q _ _ _ (e2.trans (Ex.new hp)) (.lst upd_same ((ok.ex (e.trans e2)).new hp) (dv.ex (Ex.new hp))) ⟨ds, rfl, pv⟩⟩
theorem evd_lst {t : TA} {ds : List PyData} (ok : Ok M H) (h : EvDA K M t σ H ds) (hl : ds.length ≤ sizeLine := by decide) : EvD K M (tLst t) σ H (.list ds) := fun H1 e Q q =>
  h H1 e _ fun vs es H2 e2 dv pv => ⟨by rw [dv.length, pv]; exact hl, fun p hp => q _ _ _ (e2.trans (Ex.new hp)) (.lst upd_same ((ok.ex (e.trans e2)).new hp) (dv.ex (Ex.new hp))) (by rw [pv])⟩
/-- an item of a list, of a tuple -/
theorem evd_ixL {ds : List PyData} {i : Int} {j : Nat} (ha : EvD K M ta σ H (.list ds)) (hb : EvD K M tb σ H (.int i)) (hi : i = (j : Int)) (hj : ds[j]? = some d) : EvD K M (tOp (rIxL K) ta tb) σ H d :=
  evp_op ha hb fun x y a b H1 e dx dy px py Q q => by
    subst px py
    cases dx with
    | lst h1 h2 h3 =>
      cases dy
      obtain ⟨v, hv, dv⟩ := h3.at hj
      exact ⟨_, _, _, v, rfl, rfl, sq_of h1, by rw [hi]; exact atI_nat hv, q v d H1 (Ex.refl _) dv rfl⟩
theorem evd_ixT {ds : List PyData} {i : Int} {j : Nat} (ha : EvD K M ta σ H (.tuple ds)) (hb : EvD K M tb σ H (.int i)) (hi : i = (j : Int)) (hj : ds[j]? = some d) : EvD K M (tOp (rIxT K) ta tb) σ H d :=
  evp_op ha hb fun x y a b H1 e dx dy px py Q q => by
    subst px py
    cases dx with
    | tup h1 h3 =>
      cases dy
      obtain ⟨v, hv, dv⟩ := h3.at hj
      exact ⟨_, _, _, v, rfl, rfl, SqT.of h1, by rw [hi]; exact atI_nat hv, q v d H1 (Ex.refl _) dv rfl⟩
/-- a part of a list, two lists together, list(..) -/
def EvPO (K : PySem.W.Frag) (M : Addr → Prop) (t : TO) (σ : L2.St) (H : Hp) (o : Option Int) : Prop := ∀ H1, Ex H H1 → ∀ Q : Option Int → Hp → Prop, (∀ H2, Ex H1 H2 → Q o H2) → t σ H1 Q
theorem evo_none : EvPO K M tNoPart σ H none := fun H1 e Q q => q H1 (Ex.refl _)
theorem evo_some {i : Int} (h : EvD K M te σ H (.int i)) : EvPO K M (tPart te) σ H (some i) := fun H1 e Q q =>
  h H1 e _ fun v d H2 e2 dv pd => by
    subst pd
    cases dv
    exact ⟨i, rfl, q H2 e2⟩
theorem evd_slL {ds : List PyData} {tl th : TO} {lo hi : Option Int} (ok : Ok M H) (ha : EvD K M ta σ H (.list ds)) (hl : EvPO K M tl σ H lo) (hh : EvPO K M th σ H hi) : EvD K M (tSl (rSlL K) ta tl th) σ H (.list (cutG ds lo hi)) := fun H1 e Q q =>
  ha H1 e _ fun v d H2 e2 dv pd => hl H2 (e.trans e2) _ fun H3 e3 => hh H3 ((e.trans e2).trans e3) _ fun H4 e4 => by
    subst pd
    cases dv.ex (e3.trans e4) with
    | lst h1 h2 h3 => exact ⟨_, _, rfl, sq_of h1, fun p hp => q _ _ _ (((e2.trans e3).trans e4).trans (Ex.new hp)) (.lst upd_same ((ok.ex (((e.trans e2).trans e3).trans e4)).new hp) (h3.cut.ex (Ex.new hp))) rfl⟩
theorem evd_slS {z : Str} {tl th : TO} {lo hi : Option Int} (ha : EvD K M ta σ H (.str z)) (hz : z.length ≤ sizeLine) (hl : EvPO K M tl σ H lo) (hh : EvPO K M th σ H hi) : EvD K M (tSl (fun x lo hi H Q => ∃ z, x = .str z ∧ z.length ≤ sizeLine ∧ Q (.str (cutS z lo hi)) H) ta tl th) σ H (.str (cutS z lo hi)) := fun H1 e Q q =>
  ha H1 e _ fun v d H2 e2 dv pd => hl H2 (e.trans e2) _ fun H3 e3 => hh H3 ((e.trans e2).trans e3) _ fun H4 e4 => by
    subst pd
    cases dv
    exact ⟨_, rfl, hz, q _ _ H4 ((e2.trans e3).trans e4) (.str _) rfl⟩
theorem evd_cat {ds es : List PyData} (ok : Ok M H) (ha : EvD K M ta σ H (.list ds)) (hb : EvD K M tb σ H (.list es)) (hs : ds.length + es.length ≤ sizeLine) : EvD K M (tOp rCat ta tb) σ H (.list (ds ++ es)) :=
  evp_op ha hb fun x y a b H1 e dx dy px py Q q => by
    subst px py
    cases dx with
    | lst h1 h2 h3 =>
      cases dy with
      | lst k1 k2 k3 => exact ⟨_, _, _, _, rfl, rfl, h1, k1, by rw [h3.length, k3.length]; exact hs, fun p hp => q _ _ _ (Ex.new hp) (.lst upd_same ((ok.ex e).new hp) ((h3.append k3).ex (Ex.new hp))) rfl⟩
theorem evd_addS {i j : Str} (ha : EvD K M ta σ H (.str i)) (hb : EvD K M tb σ H (.str j)) (hs : i.length + j.length ≤ sizeLine) : EvD K M (tOp (fun x y H Q => ∃ i j, x = .str i ∧ y = .str j ∧ i.length + j.length ≤ sizeLine ∧ Q (.str (i ++ j)) H) ta tb) σ H (.str (i ++ j)) :=
  evp_op ha hb fun x y a b H1 e dx dy px py Q q => by
    subst px py
    cases dx
    cases dy
    exact ⟨i, j, rfl, rfl, hs, q _ _ H1 (Ex.refl _) (.str _) rfl⟩
/-- a built-in, an own def -/
theorem evp_cb {r : List V → Hp → VK → Prop} {t : TA} {PL : List PyData → Prop} (h : EvPA K M t σ H PL)
    (hr : ∀ vs ds H1, Ex H H1 → Dts K M H1 vs ds → PL ds → ∀ Q : VK, (∀ v d H2, Ex H1 H2 → Dt K M H2 v d → P d → Q v H2) → r vs H1 Q) : EvP K M (tCB r t) σ H P := fun H1 e Q q =>
  h H1 e _ fun vs ds H2 e2 dv pv => hr vs ds H2 (e.trans e2) dv pv Q fun v d H3 e3 dd pd => q v d H3 (e2.trans e3) dd pd
/-- the promise of a def from data to data -/
def spD (K : PySem.W.Frag) (A : List PyData → Prop) (B : List PyData → PyData → Prop) : Sp := fun vs H Q _ =>
  ∃ (M : Addr → Prop) (ds : List PyData), Ok M H ∧ Dts K M H vs ds ∧ A ds ∧ ∀ v d H', Ex H H' → Dt K M H' v d → B ds d → Q v H'
theorem evp_call {A : List PyData → Prop} {B : List PyData → PyData → Prop} {E : XK} {t : TA} {PL : List PyData → Prop} (ok : Ok M H) (h : EvPA K M t σ H PL) (ha : ∀ ds, PL ds → A ds) : EvP K M (tCall (spD K A B) [] E t) σ H (fun d => ∃ ds, PL ds ∧ B ds d) := fun H1 e Q q =>
  h H1 e _ fun vs ds H2 e2 dv pv => ⟨M, ds, ok.ex (e.trans e2), by rw [List.append_nil]; exact dv, ha ds pv, fun v d H3 e3 dd pd => q v d H3 (e2.trans e3) dd ⟨ds, pv, pd⟩⟩
theorem evd_call {A : List PyData → Prop} {F : List PyData → PyData} {E : XK} {t : TA} {ds : List PyData} (ok : Ok M H) (h : EvDA K M t σ H ds) (ha : A ds) : EvD K M (tCall (spD K A fun ds d => d = F ds) [] E t) σ H (F ds) :=
  (evp_call ok h fun es pe => by rw [pe]; exact ha).mono fun d ⟨es, pe, pd⟩ => by rw [pd, pe]
/-- tests -/
theorem EvT.use {t : TT} {b : Bool} (h : EvT t σ H b) {Q : Bool → Hp → Prop} (q : ∀ H2, Ex H H2 → Q b H2) : t σ H Q := h H (Ex.refl H) Q q
theorem evt_test {b : Bool} (h : EvD K M te σ H (.bool b)) : EvT (tTest te) σ H b := fun H1 e Q q => h H1 e _ fun v d H2 e2 dv pd => by
  subst pd
  cases dv
  exact ⟨b, rfl, q H2 e2⟩
theorem evt_B {b : Bool} (h : EvD K M te σ H (.bool b)) : EvT (tB te) σ H b := fun H1 e Q q => h H1 e _ fun v d H2 e2 dv pd => by
  subst pd
  cases dv
  exact ⟨b, rfl, q H2 e2⟩
theorem evt_yes : EvT tYes σ H true := fun H1 e Q q => q H1 (Ex.refl _)
theorem evd_andV {a b : Bool} (ha : EvD K M ta σ H (.bool a)) (hb : a = true → EvD K M tb σ H (.bool b)) : EvD K M (tAndV ta tb) σ H (.bool (a && b)) := fun H1 e Q q => ha H1 e _ fun v d H2 e2 dv pd => by
  subst pd
  cases dv
  refine ⟨a, rfl, ?_⟩
  cases a with
  | true => exact iteT (hb rfl H2 (e.trans e2) _ fun v d H3 e3 dv pd => q v d H3 (e2.trans e3) dv (by rw [pd]; rfl))
  | false => exact iteF (q _ _ H2 e2 (.bl _) rfl)
theorem evd_orV {a b : Bool} (ha : EvD K M ta σ H (.bool a)) (hb : a = false → EvD K M tb σ H (.bool b)) : EvD K M (tOrV ta tb) σ H (.bool (a || b)) := fun H1 e Q q => ha H1 e _ fun v d H2 e2 dv pd => by
  subst pd
  cases dv
  refine ⟨a, rfl, ?_⟩
  cases a with
  | false => exact iteF (hb rfl H2 (e.trans e2) _ fun v d H3 e3 dv pd => q v d H3 (e2.trans e3) dv (by rw [pd]; rfl))
  | true => exact iteT (q _ _ H2 e2 (.bl _) rfl)
theorem evd_notV {a : Bool} (ha : EvD K M ta σ H (.bool a)) : EvD K M (tNotV ta) σ H (.bool (!a)) := fun H1 e Q q => ha H1 e _ fun v d H2 e2 dv pd => by
  subst pd
  cases dv
  exact ⟨a, rfl, q _ _ H2 e2 (.bl _) rfl⟩
theorem evp_if {t : TT} {b : Bool} (h : EvT t σ H b) (h1 : b = true → EvP K M ta σ H P) (h2 : b = false → EvP K M tb σ H P) : EvP K M (tIf t ta tb) σ H P := fun H1 e Q q => h H1 e _ fun H2 e2 => by
  cases b with
  | true => exact iteT (h1 rfl H2 (e.trans e2) Q fun v d H3 e3 => q v d H3 (e2.trans e3))
  | false => exact iteF (h2 rfl H2 (e.trans e2) Q fun v d H3 e3 => q v d H3 (e2.trans e3))
/-- a chain of two comparisons of ints -/
theorem evd_chainI {g g' : Int → Int → Bool} {i j k : Int} (ha : EvD K M ta σ H (.int i)) (hb : EvD K M tb σ H (.int j)) (hc : EvD K M tc σ H (.int k)) : EvD K M (tChain (rI0 fun i j => .bl (g i j)) (rI0 fun i j => .bl (g' i j)) ta tb tc) σ H (.bool (g i j && g' j k)) := fun H1 e Q q =>
  ha H1 e _ fun x a H2 e2 dx px => hb H2 (e.trans e2) _ fun y b H3 e3 dy py => by
    subst px py
    cases dx
    cases dy
    refine ⟨i, j, rfl, rfl, g i j, rfl, ?_⟩
    cases hg : g i j with
    | false => exact iteF (q _ _ H3 (e2.trans e3) (.bl _) (by rw [hg]; rfl))
    | true => exact iteT (hc H3 ((e.trans e2).trans e3) _ fun z c H4 e4 dz pz => by
        subst pz
        cases dz
        exact ⟨j, k, rfl, rfl, q _ _ H4 ((e2.trans e3).trans e4) (.bl _) (by rw [hg]; rfl)⟩)
end
end TH
set_option maxRecDepth 100000
set_option maxHeartbeats 4000000
namespace TH
open PySem L2 Evl
section
variable {K : PySem.W.Frag} {M : Addr → Prop} {H H1 H' : Hp} {σ : L2.St} {ta tb te tl : TE} {tt : TT} {g : TG} {vs : List Nat}
def more (M : Addr → Prop) (D : Addr) : Addr → Prop := fun a => M a ∨ a = D
theorem Dt.more {v : V} {d : PyData} {D : Addr} (h : Dt K M H v d) (hD : H D = none) : Dt K (TH.more M D) H v d :=
  Dt.move (fun a xs h n => ⟨h, fun z => z.elim n fun e => by rw [e, hD] at h; cases h⟩) (fun a xs h => h) d v h
theorem Dts.more {v : List V} {d : List PyData} {D : Addr} (h : Dts K M H v d) (hD : H D = none) : Dts K (TH.more M D) H v d :=
  Dts.move (fun a xs h n => ⟨h, fun z => z.elim n fun e => by rw [e, hD] at h; cases h⟩) (fun a xs h => h) d v h
theorem more_sub {D : Addr} : ∀ a, M a → TH.more M D a := fun _ h => .inl h
theorem paired_map {α : Type} {F : α → PyData} : ∀ {l : List α} {es : List PyData}, Paired (fun a e => e = F a) l es → es = l.map F
  | _, _, .nil => rfl
  | _, _, .cons h t => by rw [h, paired_map t]; rfl
theorem paired_len {α : Type} {P : α → PyData → Prop} : ∀ {l : List α} {es : List PyData}, Paired P l es → es.length = l.length
  | _, _, .nil => rfl
  | _, _, .cons h t => by rw [List.length_cons, List.length_cons, paired_len t]
theorem paired_mem {α : Type} {P : α → PyData → Prop} : ∀ {l : List α} {es : List PyData}, Paired P l es → ∀ e ∈ es, ∃ a ∈ l, P a e
  | _, _, .nil, e, h => by cases h
  | _, _, .cons h t, e, he => by
    rcases List.mem_cons.mp he with rfl | he
    · exact ⟨_, List.mem_cons_self, h⟩
    · obtain ⟨a, ha, p⟩ := paired_mem t e he
      exact ⟨a, List.mem_cons_of_mem _ ha, p⟩
/-- what a turn of a comprehension gives -/
def Turned (K : PySem.W.Frag) (M : Addr → Prop) (σ : L2.St) (vs : List Nat) (tt : TT) (te : TE) (b : Bool) (P : PyData → Prop) (σ2 : L2.St) (H2 : Hp) : Prop :=
  wipe σ2 vs = wipe σ vs ∧ EvT tt σ2 H2 b ∧ (b = true → EvP K M te σ2 H2 P)
theorem lc_data {α : Type} (L : List α) {J : It} {G : Hp → Prop} {Y : Nat → Hp → V → Hp → Prop} (w : Walk J L.length G Y) {D : Addr} {Qd : Hp → Prop} (ok : Ok M H1) (hD : H1 D = none) (hn : L.length < sizeLine)
    (f : α → Bool) (P : α → PyData → Prop) (hG : ∀ H, Ex H1 H → G H)
    (hs : ∀ (M' : Addr → Prop) (i : Nat) (a : α) (x : V) (H H' : Hp), (∀ v d, Dt K M H1 v d → Dt K M' H1 v d) → Ok M' H → L[i]? = some a → Ex H1 H → Y i H x H' →
      ∀ Qg : L2.St → Hp → Prop, (∀ σ2 H2, Ex H H2 → Turned K M' σ vs tt te (f a) (P a) σ2 H2 → Qg σ2 H2) → g x (wipe σ vs) H' Qg)
    (q : ∀ H es, Ex H1 H → Dt K M H (.ref D) (.list es) → Paired P (L.filter f) es → Qd H) :
    ∃ W : Nat → Nat → Hp → Prop, (∃ m, W 0 m (upd H1 D (.lst []))) ∧ ∀ i m H, W i m H →
      (J.stop i H ∧ Qd H) ∨ (J.go i H ∧ ∃ Nx : Hp → Prop, (∀ H', Nx H' → ∃ m', m' < m ∧ W (i + 1) m' H') ∧ ∀ x H', J.yld i H x H' → g x (wipe σ vs) H' fun σ2 H2 => wipe σ2 vs = wipe σ vs ∧ tt σ2 H2 fun b H3 =>
        if b = true then te σ2 H3 fun y H4 => ∃ acc, H4 D = some (.lst acc) ∧ acc.length < sizeLine ∧ Nx (upd H4 D (.lst (acc ++ [y]))) else Nx H3) := by
  have ok' : ∀ {H}, Ex H1 H → H D ≠ none → Ok (TH.more M D) H := fun {H} e n l m => by
    rcases m with m | rfl
    · exact (ok.ex e) l m
    · exact n
  refine lc_it w (fun i H => Ex H1 H ∧ ∃ acc es, H D = some (.lst acc) ∧ Dts K (TH.more M D) H acc es ∧ Paired P ((L.take i).filter f) es)
    ⟨Ex.new hD, [], [], upd_same, .nil, .nil⟩ (fun i H _ p => hG H p.1) (fun i x H H' hi p y => ?_) (fun H p => ?_)
  · obtain ⟨e, acc, es, hacc, dacc, pr⟩ := p
    obtain ⟨a, ha⟩ : ∃ a, L[i]? = some a := ⟨L[i], List.getElem?_eq_getElem hi⟩
    have tk : L.take (i + 1) = L.take i ++ [a] := by rw [List.take_add_one, ha]; rfl
    refine hs (TH.more M D) i a x H H' (fun v d h => h.more hD) (ok' e (by rw [hacc]; simp)) ha e y _ fun σ2 H2 e2 T => ?_
    obtain ⟨hw, ht, he⟩ := T
    refine ⟨hw, ht H2 (Ex.refl _) _ fun H3 e3 => ?_⟩
    have e03 := e2.trans e3
    have lacc : acc.length ≤ i := by
      rw [dacc.length, paired_len pr]
      refine Nat.le_trans (List.length_filter_le _ _) ?_
      rw [List.length_take]
      exact Nat.min_le_left _ _
    cases hf : f a with
    | true =>
      refine iteT (he hf H3 e3 _ fun y d H4 e4 dy py => ?_)
      refine ⟨acc, e4 _ _ (e03 _ _ hacc), Nat.lt_of_le_of_lt lacc (Nat.lt_trans hi hn), ?_, acc ++ [y], es ++ [d], upd_same, ?_, ?_⟩
      · exact Ex.mut ((e.trans e03).trans e4) hD
      · exact (((dacc.ex (e03.trans e4))).append (.one dy)).upd (e4 _ _ (e03 _ _ hacc)) (.inr rfl)
      · rw [tk, List.filter_append, List.filter_cons, hf, if_pos rfl]
        exact Paired.snoc pr py
    | false =>
      refine iteF ⟨e.trans e03, acc, es, e03 _ _ hacc, dacc.ex e03, ?_⟩
      rw [tk, List.filter_append, List.filter_cons, hf]
      simpa using pr
  · obtain ⟨e, acc, es, hacc, dacc, pr⟩ := p
    rw [List.take_length] at pr
    exact q H es e (.lst hacc (ok.new hD) (dacc.weak more_sub)) pr
/-- over a list -/
theorem evp_lcL {ds : List PyData} (f : PyData → Bool) (P : PyData → PyData → Prop) (ok : Ok M H) (hl : EvD K M tl σ H (.list ds)) (hz : ds.length < sizeLine)
    (hs : ∀ (M' : Addr → Prop) (d : PyData) (x : V) (H' : Hp), (∀ v d, Dt K M H v d → Dt K M' H' v d) → Ok M' H' → d ∈ ds → Ex H H' → Dt K M' H' x d →
      ∀ Qg : L2.St → Hp → Prop, (∀ σ2 H2, Ex H' H2 → Turned K M' σ vs tt te (f d) (P d) σ2 H2 → Qg σ2 H2) → g x (wipe σ vs) H' Qg) :
    EvP K M (tLc (iList K tl) g tt te vs) σ H (fun d => ∃ es, d = .list es ∧ Paired P (ds.filter f) es) := fun H0 e Q q =>
  hl H0 e _ fun v d H1 e1 dv pd => by
    subst pd
    cases dv with
    | lst h1 h2 h3 =>
      rename_i a xs
      refine ⟨a, rfl, ⟨xs, sq_of h1⟩, fun D hD => ?_⟩
      have hw : Walk (Itl K a) ds.length (fun H => SqL K H a xs) (YAt xs) := by
        rw [← h3.length]
        exact walk_list
      refine lc_data (σ := σ) (vs := vs) ds hw ((ok.ex (e.trans e1))) hD hz f P (fun H e => sq_of (e _ _ h1)) (fun M' i d x H2 H' hm ok' hd e2 y Qg qg => ?_) (fun H2 es e2 dd pr => q _ _ H2 (e1.trans e2) dd ⟨es, rfl, pr⟩)
      obtain ⟨rfl, hx⟩ := y
      obtain ⟨d', hd', dx⟩ := h3.get hx
      rw [hd] at hd'
      cases hd'
      exact hs M' d x _ (fun v d h => (hm v d (h.ex (e.trans e1))).ex e2) ok' (List.mem_of_getElem? hd) ((e.trans e1).trans e2) ((hm _ _ dx).ex e2) Qg qg
theorem evd_lcL {ds : List PyData} (f : PyData → Bool) (F : PyData → PyData) (ok : Ok M H) (hl : EvD K M tl σ H (.list ds)) (hz : ds.length < sizeLine)
    (hs : ∀ (M' : Addr → Prop) (d : PyData) (x : V) (H' : Hp), (∀ v d, Dt K M H v d → Dt K M' H' v d) → Ok M' H' → d ∈ ds → Ex H H' → Dt K M' H' x d →
      ∀ Qg : L2.St → Hp → Prop, (∀ σ2 H2, Ex H' H2 → Turned K M' σ vs tt te (f d) (· = F d) σ2 H2 → Qg σ2 H2) → g x (wipe σ vs) H' Qg) :
    EvD K M (tLc (iList K tl) g tt te vs) σ H (.list ((ds.filter f).map F)) :=
  (evp_lcL f (fun d e => e = F d) ok hl hz hs).mono fun d ⟨es, e, pr⟩ => by rw [e, paired_map pr]
/-- over a text -/
theorem evp_lcS {z : Str} (f : Nat → Bool) (P : Nat → PyData → Prop) (ok : Ok M H) (hl : EvD K M tl σ H (.str z)) (hz : z.length < sizeLine)
    (hs : ∀ (M' : Addr → Prop) (c : Nat) (H' : Hp), (∀ v d, Dt K M H v d → Dt K M' H' v d) → Ok M' H' → c ∈ z.cps.toList → Ex H H' →
      ∀ Qg : L2.St → Hp → Prop, (∀ σ2 H2, Ex H' H2 → Turned K M' σ vs tt te (f c) (P c) σ2 H2 → Qg σ2 H2) → g (.str ⟨#[c]⟩) (wipe σ vs) H' Qg) :
    EvP K M (tLc (iStr tl) g tt te vs) σ H (fun d => ∃ es, d = .list es ∧ Paired P (z.cps.toList.filter f) es) := fun H0 e Q q =>
  hl H0 e _ fun v d H1 e1 dv pd => by
    subst pd
    cases dv
    refine ⟨z, rfl, fun D hD => ?_⟩
    have hw : Walk (Its z) z.cps.toList.length (fun _ => True) (fun i H v H' => H' = H ∧ ∃ c, z.cps[i]? = some c ∧ v = .str ⟨#[c]⟩) := by
      rw [Array.length_toList]
      exact walk_str
    refine lc_data (σ := σ) (vs := vs) z.cps.toList hw ((ok.ex (e.trans e1))) hD (by rw [Array.length_toList]; exact hz) f P (fun H e => trivial) (fun M' i d x H2 H' hm ok' hd e2 y Qg qg => ?_) (fun H2 es e2 dd pr => q _ _ H2 (e1.trans e2) dd ⟨es, rfl, pr⟩)
    obtain ⟨rfl, c, hc, rfl⟩ := y
    have ec : c = d := by
      rw [Array.getElem?_toList, hc] at hd
      exact Option.some.inj hd
    subst ec
    exact hs M' c _ (fun v d h => (hm v d (h.ex (e.trans e1))).ex e2) ok' (Array.mem_toList_iff.mpr (Array.mem_of_getElem? hc)) ((e.trans e1).trans e2) Qg qg
theorem evd_lcS {z : Str} (f : Nat → Bool) (F : Nat → PyData) (ok : Ok M H) (hl : EvD K M tl σ H (.str z)) (hz : z.length < sizeLine)
    (hs : ∀ (M' : Addr → Prop) (c : Nat) (H' : Hp), (∀ v d, Dt K M H v d → Dt K M' H' v d) → Ok M' H' → c ∈ z.cps.toList → Ex H H' →
      ∀ Qg : L2.St → Hp → Prop, (∀ σ2 H2, Ex H' H2 → Turned K M' σ vs tt te (f c) (· = F c) σ2 H2 → Qg σ2 H2) → g (.str ⟨#[c]⟩) (wipe σ vs) H' Qg) :
    EvD K M (tLc (iStr tl) g tt te vs) σ H (.list ((z.cps.toList.filter f).map F)) :=
  (evp_lcS f (fun d e => e = F d) ok hl hz hs).mono fun d ⟨es, e, pr⟩ => by rw [e, paired_map pr]
/-- over range(n) -/
theorem evp_lcR {ta : TA} {PN : Int → Prop} (f : Nat → Bool) (P : Nat → PyData → Prop) (ok : Ok M H) (hl : EvPA K M ta σ H (fun l => ∃ n : Int, l = [.int n] ∧ PN n)) (hz : ∀ n, PN n → 0 ≤ n ∧ n ≤ 100000)
    (hs : ∀ (M' : Addr → Prop) (n : Int) (i : Nat) (H' : Hp), (∀ v d, Dt K M H v d → Dt K M' H' v d) → Ok M' H' → PN n → (i : Int) < n → Ex H H' →
      ∀ Qg : L2.St → Hp → Prop, (∀ σ2 H2, Ex H' H2 → Turned K M' σ vs tt te (f i) (P i) σ2 H2 → Qg σ2 H2) → g (.int (i : Int)) (wipe σ vs) H' Qg) :
    EvP K M (tLc (iRng1 ta) g tt te vs) σ H (fun d => ∃ (n : Int) (es : List PyData), PN n ∧ d = .list es ∧ Paired P ((List.range n.toNat).filter f) es) := fun H0 e Q q =>
  hl H0 e _ fun us ds H1 e1 dv pd => by
    obtain ⟨n, rfl, pn⟩ := pd
    have hz := hz n pn
    cases dv with
    | cons h1 h2 =>
      cases h1
      cases h2
      refine ⟨n, rfl, by omega, by omega, fun D hD => ?_⟩
      have hw : Walk (Itr 0 n.toNat) (List.range n.toNat).length (fun _ => True) (YFn fun i => .int (0 + i)) := by
        rw [List.length_range]
        exact walk_range
      refine lc_data (σ := σ) (vs := vs) (List.range n.toNat) hw ((ok.ex (e.trans e1))) hD (by rw [List.length_range]; exact Nat.lt_of_le_of_lt (show n.toNat ≤ 100000 by omega) (by decide)) f P (fun H e => trivial) (fun M' i d x H2 H' hm ok' hd e2 y Qg qg => ?_) (fun H2 es e2 dd pr => q _ _ H2 (e1.trans e2) dd ⟨n, es, pn, rfl, pr⟩)
      obtain ⟨h1, h2⟩ := List.getElem?_eq_some_iff.mp hd
      rw [List.getElem_range] at h2
      rw [List.length_range] at h1
      subst h2
      obtain ⟨rfl, rfl⟩ := y
      show g (V.int (0 + (i : Int))) (wipe σ vs) _ Qg
      rw [Int.zero_add]
      exact hs M' n i _ (fun v d h => (hm v d (h.ex (e.trans e1))).ex e2) ok' pn (by omega) ((e.trans e1).trans e2) Qg qg
end
/-! ### rules by the written part's own letter, for a comprehension's block -/
section
variable {X : Cx} {K : PySem.W.Frag}
theorem ix_tupK (h : X.K = K) : IxR X (rIxT K) := by
  subst h
  exact ix_tup
theorem ix_listK (h : X.K = K) : IxR X (rIxL K) := by
  subst h
  exact ix_list
theorem sl_listK (h : X.K = K) : SlR X (rSlL K) := by
  subst h
  exact sl_list
theorem pi_listK {tg l : Expr} {tl : TE} (h : X.K = K) (hl : PE X l tl) : PI X tg l (iList K tl) := by
  subst h
  exact pi_list hl
theorem op_notIn_seqK (h : X.K = K) : OpR X (compareOp .NotIn) (rIn K true) := by
  subst h
  exact op_notIn_seq
theorem op_in_seqK (h : X.K = K) : OpR X (compareOp .In) (rIn K false) := by
  subst h
  exact op_in_seq
end
/-! ### statements -/
section
variable {K : PySem.W.Frag} {M : Addr → Prop} {H H' : Hp} {σ : L2.St} {te : TE} {P : PyData → Prop} {D : Ends} {tz : TS}
theorem s_retP (h : EvP K M te σ H P) (k : ∀ v d H1, Ex H H1 → Dt K M H1 v d → P d → D.rt v H1) : tRet te D σ H := h.use k
theorem q_asgP {i : Nat} (h : EvP K M te σ H P) (k : ∀ v d H1, Ex H H1 → Dt K M H1 v d → P d → tz D (σ.set i (some v)) H1) : tSeq (tAsg te (gName i)) tz D σ H := h.use k
theorem s_asgP {i : Nat} (h : EvP K M te σ H P) (k : ∀ v d H1, Ex H H1 → Dt K M H1 v d → P d → D.nx (σ.set i (some v)) H1) : tAsg te (gName i) D σ H := h.use k
theorem s_dropP (h : EvP K M te σ H P) (k : ∀ v d H1, Ex H H1 → Dt K M H1 v d → P d → D.nx σ H1) : tDrop te D σ H := h.use k
theorem q_dropP (h : EvP K M te σ H P) (k : ∀ v d H1, Ex H H1 → Dt K M H1 v d → P d → tz D σ H1) : tSeq (tDrop te) tz D σ H := h.use k
end
end TH
set_option maxRecDepth 100000
set_option maxHeartbeats 4000000
namespace TH
open PySem L2 Evl
abbrev sName : Stmt := top 21
abbrev sSign : Stmt := top 22
structure GlobS (mg : Str → Option Value) : Prop extends Glob mg where
  all : mg "all" = none
  any : mg "any" = none
  longest : ∃ t, mg "LONGEST_NAME" = some (.int 3 t)
  most : ∃ t, mg "MOST_SIGNS_signs" = some (.int 6 t)
  mostK : ∃ t, mg "MOST_KIDS" = some (.int 2 t)
  enumerate : mg "enumerate" = none
section
variable {K : PySem.W.Frag} {M : Addr → Prop} {H H1 H' : Hp} {σ : L2.St} {ta tb tc te tl : TE}
/-- a chain of two <= of texts -/
theorem evd_chainS {i j k : Str} (ha : EvD K M ta σ H (.str i)) (hb : EvD K M tb σ H (.str j)) (hc : EvD K M tc σ H (.str k)) :
    EvD K M (tChain (fun x y H Q => ∃ i j, x = .str i ∧ y = .str j ∧ Q (.bl (!decide (j.cps.toList < i.cps.toList))) H) (fun x y H Q => ∃ i j, x = .str i ∧ y = .str j ∧ Q (.bl (!decide (j.cps.toList < i.cps.toList))) H) ta tb tc) σ H
      (.bool ((!decide (j.cps.toList < i.cps.toList)) && (!decide (k.cps.toList < j.cps.toList)))) := fun H1 e Q q =>
  ha H1 e _ fun x a H2 e2 dx px => hb H2 (e.trans e2) _ fun y b H3 e3 dy py => by
    subst px py
    cases dx
    cases dy
    refine ⟨i, j, rfl, rfl, _, rfl, ?_⟩
    cases hg : (!decide (j.cps.toList < i.cps.toList)) with
    | false => exact iteF (q _ _ H3 (e2.trans e3) (.bl _) (by rw [hg]; rfl))
    | true => exact iteT (hc H3 ((e.trans e2).trans e3) _ fun z c H4 e4 dz pz => by
        subst pz
        cases dz
        exact ⟨j, k, rfl, rfl, q _ _ H4 ((e2.trans e3).trans e4) (.bl _) (by rw [hg]; rfl)⟩)
/-- all, any -/
theorem evd_all {ta : TA} {bs : List Bool} (h : EvDA K M ta σ H [.list (bs.map PyData.bool)]) : EvD K M (tCB (rAll K) ta) σ H (.bool (bs.all id)) :=
  evp_cb h fun vs ds H1 e dv pd Q q => by
    subst pd
    cases dv with
    | cons h1 h2 =>
      cases h2
      cases h1 with
      | lst k1 k2 k3 => exact ⟨_, bs, rfl, by rw [← k3.bls]; exact sq_of k1, q _ _ H1 (Ex.refl _) (.bl _) rfl⟩
theorem evd_any {ta : TA} {bs : List Bool} (h : EvDA K M ta σ H [.list (bs.map PyData.bool)]) : EvD K M (tCB (rAny K) ta) σ H (.bool (bs.any id)) :=
  evp_cb h fun vs ds H1 e dv pd Q q => by
    subst pd
    cases dv with
    | cons h1 h2 =>
      cases h2
      cases h1 with
      | lst k1 k2 k3 => exact ⟨_, bs, rfl, by rw [← k3.bls]; exact sq_of k1, q _ _ H1 (Ex.refl _) (.bl _) rfl⟩
/-- len of a text, of a list, of a tuple -/
theorem evd_lenS {ta : TA} {z : Str} (h : EvDA K M ta σ H [.str z]) (hz : z.length ≤ sizeLine) : EvD K M (tCB (fun xs H Q => ∃ z, xs = [.str z] ∧ z.length ≤ sizeLine ∧ Q (.int z.length) H) ta) σ H (.int z.length) :=
  evp_cb h fun vs ds H1 e dv pd Q q => by
    subst pd
    cases dv with
    | cons h1 h2 =>
      cases h2
      cases h1
      exact ⟨z, rfl, hz, q _ _ H1 (Ex.refl _) (.int _) rfl⟩
theorem evd_lenL {ta : TA} {es : List PyData} (h : EvDA K M ta σ H [.list es]) : EvD K M (tCB (fun xs H Q => ∃ p ys, xs = [.ref p] ∧ (SqL K H p ys ∨ SqT K H p ys) ∧ Q (.int ys.length) H) ta) σ H (.int es.length) :=
  evp_cb h fun vs ds H1 e dv pd Q q => by
    subst pd
    cases dv with
    | cons h1 h2 =>
      cases h2
      cases h1 with
      | lst k1 k2 k3 => exact ⟨_, _, rfl, .inl (sq_of k1), q _ _ H1 (Ex.refl _) (.int _) (by rw [k3.length])⟩
theorem evd_lenT {ta : TA} {es : List PyData} (h : EvDA K M ta σ H [.tuple es]) : EvD K M (tCB (fun xs H Q => ∃ p ys, xs = [.ref p] ∧ (SqL K H p ys ∨ SqT K H p ys) ∧ Q (.int ys.length) H) ta) σ H (.int es.length) :=
  evp_cb h fun vs ds H1 e dv pd Q q => by
    subst pd
    cases dv with
    | cons h1 h2 =>
      cases h2
      cases h1 with
      | tup k1 k3 => exact ⟨_, _, rfl, .inr (SqT.of k1), q _ _ H1 (Ex.refl _) (.int _) (by rw [k3.length])⟩
theorem evt_not {t : TT} {b : Bool} (h : EvT t σ H b) : EvT (tNot t) σ H (!b) := et_not h
end
theorem filter_yes {α : Type} (l : List α) : l.filter (fun _ => true) = l := by simp
/-! ### is_name, is_sign -/
def okc (c : Nat) : Bool := (!decide ([c] < ("a" : Str).cps.toList)) && (!decide (("z" : Str).cps.toList < [c]))
def isNameB (z : Str) : Bool := (decide (1 ≤ (z.length : Int)) && decide ((z.length : Int) ≤ 3)) && z.cps.toList.all okc
def nameA : List PyData → Prop := fun ds => ∃ z : Str, ds = [.str z, .int 3] ∧ z.length ≤ 100000
def nameF : List PyData → PyData
  | [.str z, .int _] => .bool (isNameB z)
  | _ => .none
section
variable {P : Program} {w : World} {K : PySem.W.Frag} {mg : Str → Option Value} {base : Heap}
theorem scName : FnScope ["name", "longest", "letter"] ["name", "longest"] (defScope sName) := ⟨rfl, rfl, rfl, by decide +kernel, rfl, by decide +kernel, by decide +kernel⟩
theorem ok_name {f : Addr} {fd : FuncData} (F : Fun K "is_name" "is_name" sName f fd) (G : GlobS mg) : FnOk P w K mg base CX0 1 f fd ["name", "longest"] (spD K nameA fun ds d => d = nameF ds) := by
  refine F.ok scName (fun vs H Q E h => ?_) (fun cdv A outer s H vs Q E hr h => ?_)
  · obtain ⟨M, ds, _, dv, ⟨z, rfl, _⟩, _⟩ := h
    exact dv.length
  · obtain ⟨M, ds, ok, dv, ⟨z, rfl, hz⟩, q⟩ := h
    cases dv with
    | cons h1 h2 =>
    cases h2 with
    | cons h3 h4 =>
    cases h1
    cases h3
    cases h4
    refine ⟨_, pss_cons (ps_if (pt_not (pt_chain op_le op_le pe_int (pe_callB call_len_str (by rfl) G.len PySem.boot_len (pa_cons (pv 0) pa_nil)) (pv 1))) (pss_one (ps_ret pe_bl)) pss_nil)
      (pss_one (ps_ret (pe_callB (cr_all rfl) (by rfl) G.all (by decide +kernel) (pa_cons (pe_lc (own := [("letter", 2)]) (g := gName 2) (tt := tYes) rfl scName.nd (pi_str (pv 0))
          (blkOk_by (N := ["name", "longest", "letter"]) (sc := defScope sName) (by decide +kernel)) (fun _ _ _ _ _ => pg_name (i := 2) scName.nd rfl (.inl rfl)) (fun _ _ _ _ _ => pts_nil)
          (fun _ _ _ _ _ => pe_chain op_le_str op_le_str pe_str (pv 2) pe_str)) pa_nil)))), ?_⟩
    have hs : z.length ≤ sizeLine := sz_of hz
    -- if not 1 <= len(name) <= 3
    refine q_when (evt_not (evt_test (K := K) (M := M) (evd_chainI (g := fun i j => decide (i ≤ j)) (g' := fun i j => decide (i ≤ j)) evd_int (evd_lenS (eva_cons (evd_var rfl (.str z)) eva_nil) hs) (evd_var rfl (.int 3))))) (fun hb H1 e1 => ?_) (fun hb H1 e1 => ?_)
    · refine q _ _ H1 e1 (.bl _) ?_
      show PyData.bool false = .bool (isNameB z)
      unfold isNameB
      rw [Bool.not_eq_true'] at hb
      rw [hb]
      rfl
    · rw [Bool.not_eq_false'] at hb
      have ok1 := ok.ex e1
      refine s_retP (K := K) (M := M) (evd_all (bs := z.cps.toList.map okc) (eva_cons ?_ eva_nil)) fun v d H2 e2 dv pd => q v d H2 (e1.trans e2) dv ?_
      · refine (evd_lcS (fun _ => true) (fun c => .bool (okc c)) ok1 (evd_var rfl (.str z)) (Nat.lt_of_le_of_lt hz (by decide)) fun M' c H' hm ok' hc e Qg qg => ?_).mono fun d h => ?_
        · exact qg _ H' (Ex.refl _) ⟨rfl, evt_yes, fun _ => (evd_chainS (i := "a") (j := ⟨#[c]⟩) (k := "z") evd_str (evd_var rfl (.str _)) evd_str).mono fun d h => h⟩
        · rw [h, filter_yes, List.map_map]
          rfl
      · rw [pd]
        show _ = PyData.bool (isNameB z)
        unfold isNameB
        rw [hb, List.all_map]
        rfl
end
end TH
set_option maxRecDepth 100000
set_option maxHeartbeats 4000000
namespace TH
open PySem PySem.Spec PyProof.Rows L2 Evl PpSet
/-! ### {elt for target in iter}, the members ints or texts -/
section
variable {X : Cx}
/-- one turn of the block: the member goes into the set at D -/
def SetTurn (P : Program) (w : World) (D : Addr) (σ0 : L2.St) (vs : List Nat) (tt : TT) (te : TE) (Nx : Hp → Prop) (σ2 : L2.St) (H2 : Hp) : Prop :=
  wipe σ2 vs = wipe σ0 vs ∧ tt σ2 H2 fun b H3 =>
    if b = true then te σ2 H3 fun y H4 =>
      ∃ (k : Key) (S : Key → Bool) (n : Nat), y = kV k ∧ H4 D = some (SetK P w D S n) ∧ n + 1 < scanBound ∧
        Nx (upd H4 D (SetK P w D (fun j => S j || decide (j = k)) (if S k = true then n else n + 1)))
    else Nx H3
def tScK (P : Program) (w : World) (wi : TI) (g : TG) (tt : TT) (te : TE) (vs : List Nat) : TE := fun σ H Q =>
  wi σ H fun J H1 => ∀ D, H1 D = none → ∃ W : Nat → Nat → Hp → Prop,
    (∃ m, W 0 m (upd H1 D (SetK P w D (fun _ => false) 0))) ∧
    ∀ i m H, W i m H → (J.stop i H ∧ Q (.ref D) H) ∨
      (J.go i H ∧ ∃ Nx : Hp → Prop, (∀ H', Nx H' → ∃ m', m' < m ∧ W (i + 1) m' H') ∧
        ∀ x H', J.yld i H x H' → g x (wipe σ vs) H' (SetTurn P w D σ vs tt te Nx))
/-- the member is added, within any context -/
theorem addK_ok {Y : Cx} {pins : List (Addr × Obj)} {σ : L2.St} {G : Hp} {s : Shared} {D : Addr} {S : Key → Bool} {n : Nat} {k : Key} {u : Value} {Q E : Value → Shared → Prop}
    (I : Inv Y pins σ G s) (hD : G D = some (SetK Y.prog Y.w D S n)) (ru : RelV (kV k) u) (room : n + 1 < scanBound)
    (h : ∀ v s', Inv Y pins σ (upd G D (SetK Y.prog Y.w D (fun j => S j || decide (j = k)) (if S k = true then n else n + 1))) s' → Q v s') :
    wpAny (model Y.prog Y.w) Y.A (call (.builtin "set.add") [.ref D, u]) Q E s := by
  refine call_set_add (kV_is ru) (key_scan ru) (setK_get I hD) room fun hp' same born => ?_
  have there : ∃ o, hp'.get? D = some o := by
    obtain ⟨o, _, _, _, ho, _⟩ := id born
    exact ⟨o, ho⟩
  exact h _ _ (I.write (e := D) (t' := s.toks + 1) (by rw [hD]; trivial) (.inl rfl) (fun b o hb ho => (same.2 b hb).trans ho) there (setK_new born))
theorem setK_start {G : Hp} {s : Shared} {pins : List (Addr × Obj)} {σ : L2.St} (I : Inv X pins σ G s) :
    Inv X pins σ (upd G s.heap.objs.size (SetK X.prog X.w s.heap.objs.size (fun _ => false) 0))
      { s with heap := s.heap.push { cls := .type "set", dict := none, data := .set #[] 0 (.fresh 0 0 (!X.w.params.followText "set-order")) } } := by
  have born : (s.heap.push { cls := .type "set", dict := none, data := .set #[] 0 (.fresh 0 0 (!X.w.params.followText "set-order")) }).SetOf (mixKind X.prog X.w) s.heap.objs.size (fun _ => false) 0 := by
    refine ⟨_, #[], 0, _, Heap.get?_push_size _ rfl, ⟨rfl, rfl, rfl⟩, rfl, ?_, ?_, by decide, by rfl, rfl⟩
    · intro e he
      simp at he
    · intro k
      simp
  exact I.laid (t' := s.toks) (fun b u q => Heap.get?_push_of_some _ q) (Nat.le_refl _) (setK_new born)
theorem pe_scK {elt tg iter : Expr} {ifs : List Expr} {scope : Scope} {own : List (Str × Nat)} {pos : Pos} {wi : TI} {g : TG} {tt : TT} {te : TE}
    (calm : X.calm = true) (nodup : X.N.Nodup) (src : PI X tg iter wi) (blk : BlkOk X.N X.env.scope scope own)
    (ptg : ∀ (s : Shared) (G : Hp) (C : Addr) (cl : List (Str × Addr)) (fp : List Addr), PG (X.blk s G scope (compEnvC scope cl C X.env) fp) tg g)
    (pif : ∀ (s : Shared) (G : Hp) (C : Addr) (cl : List (Str × Addr)) (fp : List Addr), PTs (X.blk s G scope (compEnvC scope cl C X.env) fp) ifs tt)
    (pel : ∀ (s : Shared) (G : Hp) (C : Addr) (cl : List (Str × Addr)) (fp : List Addr), PE (X.blk s G scope (compEnvC scope cl C X.env) fp) elt te)
    (fold : ∀ x, foldedSetIterable iter X.env x = pure x := by intro _; rfl) :
    PE X (.SetComp elt [⟨tg, iter, ifs, 0⟩] scope pos) (tScK X.prog X.w wi g tt te (own.map (·.2))) := by
  refine ⟨fun pins s σ G Q I wish => ?_⟩
  rw [eval_SetComp]
  have caught : ∀ y ∈ scope.names, y.2 = .free → ∃ c, X.env.cells.lookup y.1 = some c := by
    intro y hy hf
    cases blk.free y hy hf with
    | inl z => exact I.ok.has _ (.inl z)
    | inr z => exact I.ok.has _ (.inr z)
  refine wpAny_comprehension_free rfl fold (closure_ok caught) blk.kind (fun y hy z => by rw [blk.uniq y hy, z]) ?_
  refine thn (src.run pins s σ G _ I wish) fun seqv sA hA => thn hA fun itv sB hB => ?_
  obtain ⟨it, fp, turnAt, J, GB, eit, IB, TT, stB, fpB, hq⟩ := hB
  subst eit
  refine newSet_ok (newEnv_comp ?_)
  have fresh : GB sB.heap.objs.size = none := IB.hok.fresh (Nat.le_refl _)
  have IC := setK_start IB
  revert fresh IC
  generalize eD : sB.heap.objs.size = D
  intro fresh IC
  obtain ⟨W, ⟨m0, w0⟩, steps⟩ := hq D fresh
  revert IC
  generalize eC : ({ sB with heap := sB.heap.push { cls := .type "set", dict := none, data := .set #[] 0 (.fresh 0 0 (!X.w.params.followText "set-order")) } } : Shared) = sC
  generalize eG : upd GB D (SetK X.prog X.w D (fun _ => false) 0) = GC at w0
  intro IC
  have grown : ∀ b o, sB.heap.get? b = some o → sC.heap.get? b = some o := by
    intro b o q
    rw [← eC]
    exact Heap.get?_push_of_some _ q
  have small : ∀ b ∈ fp, b < sB.heap.objs.size := by
    intro b hb
    obtain ⟨o, q, _⟩ := TT.obj _ _ stB b hb
    exact Heap.lt_size q
  have fpC : ∀ b ∈ fp, FpOk X pins GC b ∧ b < sC.heap.objs.size := by
    intro b hb
    have lt := small b hb
    constructor
    · refine ⟨?_, (fpB b hb).2⟩
      rw [← eG, upd_ne (by rw [← eD]; exact Nat.ne_of_lt lt)]
      exact (fpB b hb).1
    · rw [← eC]
      show b < (sB.heap.push _).objs.size
      rw [Heap.size_push]
      exact Nat.lt_succ_of_lt lt
  have stC : turnAt 0 sC.heap := TT.keep _ _ _ stB fun b _ o q => grown b o q
  have ID := block_start IC blk nodup fpC
  have tgD := ptg sC GC sC.heap.objs.size (cellsFrom (sC.heap.objs.size + 1) scope.names (cloFrom X.env.cells scope.names [])) fp
  have ifD := pif sC GC sC.heap.objs.size (cellsFrom (sC.heap.objs.size + 1) scope.names (cloFrom X.env.cells scope.names [])) fp
  have elD := pel sC GC sC.heap.objs.size (cellsFrom (sC.heap.objs.size + 1) scope.names (cloFrom X.env.cells scope.names [])) fp
  have post : ∀ (s' : Shared) (m : Str → Option Value) (G' : Hp), Inv X pins σ G' s' → Q (.ref D) G' → s'.heap.Ns sC.heap.objs.size m → FpOk X pins G' sC.heap.objs.size →
      compPost (model X.prog X.w) X.A X.xe none (EP X pins σ Q) (.ref D) sC.heap.objs.size (.ok .next) s' := by
    intro s' m G' I' q hn hf
    refine ⟨m, hn, fun h'' same => ?_⟩
    obtain ⟨f0, f1, f2, f3, f4, f5⟩ := hf
    exact ⟨.ref D, G', I'.turned (t' := s'.toks) (fun b o hb z => (same.2 b hb).trans z) f0 f1 f3 f4 f5, rfl, q⟩
  show codeAny _ _ (.compStart (.SetComp elt [⟨tg, iter, ifs, 0⟩] scope pos) 0 (.ref it) (.ref D) (compEnvC scope (cellsFrom (sC.heap.objs.size + 1) scope.names (cloFrom X.env.cells scope.names [])) sC.heap.objs.size X.env))
    (compPost (model X.prog X.w) X.A X.xe none (EP X pins σ Q) (.ref D) sC.heap.objs.size) { sC with heap := pushCells (sC.heap.push { cls := .type "dict", data := .dict #[] }) scope.names }
  have none_fp : ∀ b ∈ fp, GC b = none := fun b hb => (fpC b hb).1.1
  revert ID tgD ifD elD
  generalize eE : compEnvC scope (cellsFrom (sC.heap.objs.size + 1) scope.names (cloFrom X.env.cells scope.names [])) sC.heap.objs.size X.env = cenv
  have locals : cenv.locals = sC.heap.objs.size := by
    rw [← eE]
    rfl
  generalize eS : ({ sC with heap := pushCells (sC.heap.push { cls := .type "dict", data := .dict #[] }) scope.names } : Shared) = sD
  intro ID tgD ifD elD
  have stD : turnAt 0 sD.heap := by
    refine TT.keep _ _ _ stC fun b _ o q => ?_
    rw [← eS]
    exact pushCells_keeps _ _ _ _ (Heap.get?_push_of_some _ q)
  have steady : ∀ {σ' : L2.St} {G' : Hp} {s' : Shared}, Inv (X.blk sC GC scope cenv fp) [] σ' G' s' → (∀ b ∈ fp, G' b = none) → ∀ b ∈ fp, FpOk (X.blk sC GC scope cenv fp) [] G' b := by
    intro σ' G' s' I' hn b hb
    refine ⟨hn b hb, (I'.ok.exf b hb).1, I'.ok.exfs b hb, .inl hb, fun x c => (I'.ok.exf b hb).2 x c, fun p hp => ?_⟩
    exact absurd (show p ∈ ([] : List (Addr × Obj)) ++ [] from hp) (by simp)
  have loop : codeAny (model X.prog X.w) X.A (.compLoop (.SetComp elt [⟨tg, iter, ifs, 0⟩] scope pos) 0 (.ref it) (.ref D) cenv)
      (compPost (model X.prog X.w) X.A X.xe none (EP X pins σ Q) (.ref D) sC.heap.objs.size) sD := by
    refine compLoopS_any (fun n s' => ∃ i G', Inv (X.blk sC GC scope cenv fp) [] (wipe σ (own.map (·.2))) G' s' ∧ turnAt i s'.heap ∧ (∀ b ∈ fp, G' b = none) ∧ W i n G') ?_ m0 ⟨0, GC, ID, stD, none_fp, w0⟩
    rintro n s5 ⟨i, G5, I5, st5, n5, w5⟩
    cases steps i n G5 w5 with
    | inl done =>
      obtain ⟨stop, hq⟩ := done
      refine thnF (TT.done (X.blk sC GC scope cenv fp) rfl rfl rfl calm i [] s5 _ G5 (fun _ _ => False) I5 (steady I5 n5) st5 stop) fun r s6 ⟨hr, I6⟩ => ?_
      subst hr
      have I7 : Inv X pins σ G5 s6 := IC.call' (ch := fp) I6.os I6.base I6.hok I6.bare fun b hb =>
        ⟨(fpC b hb).1.2.2.2.1, (fpC b hb).1.2.1, (fpC b hb).1.2.2.2.2.1, (fpC b hb).1.2.2.2.2.2⟩
      have gone : G5 sC.heap.objs.size = none := by
        rw [← locals]
        exact I6.free
      obtain ⟨m, hn, _⟩ := I6.loc
      refine post s6 m G5 I7 hq ?_ (IC.fpOk (Nat.le_refl _) gone)
      rw [← locals]
      exact hn
    | inr more =>
      obtain ⟨go, Nx, hNx, step⟩ := more
      refine thnF (TT.item (X.blk sC GC scope cenv fp) rfl rfl rfl calm i [] s5 _ G5 (fun _ _ => False) I5 (steady I5 n5) st5 go) fun r s6 ⟨u, hr, h6⟩ => ?_
      subst hr
      refine thnF h6 fun _ s7 ⟨x, G7, I7, r7, y7, st7, n7⟩ => ?_
      refine thnF (tgD.run _ s7 _ G7 x u _ (I7.pinned (steady I7 n7) (TT.obj _ _ st7)) r7 (step x G7 y7)) fun _ s8 ⟨σ8, G8, I8, hw, q8⟩ => ?_
      refine thnF (ifD.run _ s8 σ8 G8 _ I8 q8) fun b s9 ⟨G9, I9, q9⟩ => ?_
      have back : ∀ {s' : Shared} {G' : Hp}, Inv (X.blk sC GC scope cenv fp) ([] ++ pinsAt fp s7.heap) σ8 G' s' → Nx G' →
          ∃ m, m < n ∧ ∃ i G', Inv (X.blk sC GC scope cenv fp) [] (wipe σ (own.map (·.2))) G' s' ∧ turnAt i s'.heap ∧ (∀ b ∈ fp, G' b = none) ∧ W i m G' := by
        intro s' G' I' nx
        obtain ⟨m', hm, w'⟩ := hNx G' nx
        have pinned : ∀ b ∈ fp, ∀ o, s7.heap.get? b = some o → s'.heap.get? b = some o ∧ G' b = none := by
          intro b hb o q
          have z := I'.pin (b, o) (List.mem_append_right _ (List.mem_append_right _ (mem_pinsAt hb q)))
          exact ⟨z.1, z.2.1⟩
        have len : (wipe σ (own.map (·.2))).length = σ8.length := by rw [← hw, wipe_length]
        refine ⟨m', hm, i + 1, G', (I'.unpinned (pins := [])).weak len ?_, TT.keep _ _ _ st7 fun b hb o q => (pinned b hb o q).1, fun b hb => ?_, w'⟩
        · intro j v q
          rw [← hw] at q
          exact (wipe_some q).1
        · obtain ⟨o, q, _⟩ := TT.obj _ _ st7 b hb
          exact (pinned b hb o q).2
      cases b with
      | false => exact back I9 q9
      | true =>
        show wpAny _ _ _ _ _ _
        refine thnF (elD.run _ s9 σ8 G9 _ I9 q9) fun z s10 ⟨yv, G10, I10, r10, k, S0, n0, ey, hD10, room, nx⟩ => ?_
        subst ey
        exact addK_ok (Y := X.blk sC GC scope cenv fp) I10 hD10 r10 room fun v s11 I11 => back I11 nx
  exact codeAny_compStart_set loop (TT.self X.A 0 _ _ _ stD loop)
end
end TH
set_option maxRecDepth 100000
set_option maxHeartbeats 4000000
namespace TH
open PySem L2 Evl
/-! ### how many unlike members -/
def sadd (p : (Key → Bool) × Nat) (k : Key) : (Key → Bool) × Nat := (fun j => p.1 j || decide (j = k), if p.1 k = true then p.2 else p.2 + 1)
def sall (ks : List Key) : (Key → Bool) × Nat := ks.foldl sadd (fun _ => false, 0)
theorem sadd_le : ∀ (ks : List Key) (p : (Key → Bool) × Nat), (ks.foldl sadd p).2 ≤ p.2 + ks.length
  | [], p => Nat.le_refl _
  | k :: ks, p => by
    have h := sadd_le ks (sadd p k)
    have h2 : (sadd p k).2 ≤ p.2 + 1 := by
      unfold sadd
      dsimp only
      split <;> omega
    rw [List.foldl_cons, List.length_cons]
    omega
theorem sadd_new : ∀ (ks : List Key) (p : (Key → Bool) × Nat), ks.Nodup → (∀ k ∈ ks, p.1 k = false) → (ks.foldl sadd p).2 = p.2 + ks.length
  | [], p, _, _ => rfl
  | k :: ks, p, nd, hp => by
    obtain ⟨h1, h2⟩ := List.nodup_cons.mp nd
    have e : (sadd p k).2 = p.2 + 1 := by
      unfold sadd
      dsimp only
      rw [hp k List.mem_cons_self, if_neg Bool.false_ne_true]
    rw [List.foldl_cons, sadd_new ks (sadd p k) h2, e, List.length_cons]
    · omega
    · intro j hj
      show (p.1 j || decide (j = k)) = false
      rw [hp j (List.mem_cons_of_mem _ hj), decide_eq_false (show ¬ j = k from fun e => h1 (by rw [← e]; exact hj))]
      rfl
theorem sadd_old : ∀ (ks : List Key) (p : (Key → Bool) × Nat), (¬ ks.Nodup ∨ ∃ k ∈ ks, p.1 k = true) → (ks.foldl sadd p).2 < p.2 + ks.length
  | [], p, h => by
    rcases h with h | ⟨k, hk, _⟩
    · exact absurd List.nodup_nil h
    · cases hk
  | k :: ks, p, h => by
    rw [List.foldl_cons, List.length_cons]
    by_cases hk : p.1 k = true
    · have e : (sadd p k).2 = p.2 := by
        unfold sadd
        dsimp only
        rw [if_pos hk]
      have := sadd_le ks (sadd p k)
      omega
    · have e : (sadd p k).2 = p.2 + 1 := by
        unfold sadd
        dsimp only
        rw [if_neg hk]
      have := sadd_old ks (sadd p k) ?_
      · omega
      · by_cases hm : k ∈ ks
        · exact .inr ⟨k, hm, by show (p.1 k || decide (k = k)) = true; simp⟩
        · rcases h with h | ⟨j, hj, e2⟩
          · exact .inl fun nd => h (List.nodup_cons.mpr ⟨hm, nd⟩)
          · rcases List.mem_cons.mp hj with rfl | hj
            · exact absurd e2 hk
            · exact .inr ⟨j, hj, by show (p.1 j || decide (j = k)) = true; rw [e2]; rfl⟩
theorem sall_lt (ks : List Key) : ((sall ks).2 < ks.length) = ¬ ks.Nodup := by
  apply propext
  constructor
  · intro h nd
    have := sadd_new ks (fun _ => false, 0) nd fun _ _ => rfl
    unfold sall at h
    omega
  · intro h
    have := sadd_old ks (fun _ => false, 0) (.inl h)
    unfold sall
    omega
section
variable {X : Cx}
def rLenK (P : Program) (w : World) : List V → Hp → VK → Prop := fun xs H Q => ∃ (a : Addr) (S : Key → Bool) (n : Nat), xs = [.ref a] ∧ H a = some (SetK P w a S n) ∧ Q (.int n) H
theorem call_lenK : CallR X (.builtin "len") (rLenK X.prog X.w) := by
  intro pins s σ H xs us Q I r h
  obtain ⟨a, S, n, rfl, ha, q⟩ := h
  cases r with
  | cons r1 r2 =>
    cases r2
    cases r1
    obtain ⟨o, es, ep, t, ho, hx, hd, _, _, hb, hf, hn⟩ := setK_get I ha
    refine call_len_set ho hx hd hf ?_ ?_
    · have : es.size < 2 ^ 32 := Nat.lt_of_lt_of_le hb (by decide)
      omega
    · rw [hn]
      exact ⟨.int n, H, I.kept (t' := s.toks + 1 + 1) fun _ _ z => z, ⟨_, rfl⟩, q⟩
end
section
variable {K : PySem.W.Frag} {M : Addr → Prop} {H H1 H' : Hp} {σ : L2.St} {ta tb tc te tl : TE} {P : Program} {w : World} {g : TG} {vs : List Nat}
/-- len({elt for x in list}) -/
theorem evd_lenSc {ds : List PyData} (F : PyData → Key) (ok : Ok M H) (hl : EvD K M tl σ H (.list ds)) (hz : ds.length < 1000)
    (hs : ∀ (M' : Addr → Prop) (d : PyData) (x : V) (H' : Hp), (∀ v d, Dt K M H v d → Dt K M' H' v d) → Ok M' H' → d ∈ ds → Ex H H' → Dt K M' H' x d →
      ∀ Qg : L2.St → Hp → Prop, (∀ σ2 H2, Ex H' H2 → wipe σ2 vs = wipe σ vs → Ev te σ2 H2 (kV (F d)) → Qg σ2 H2) → g x (wipe σ vs) H' Qg) :
    EvD K M (tCB (rLenK P w) (tCons (tScK P w (iList K tl) g tYes te vs) tNil)) σ H (.int (sall (ds.map F)).2) := fun H0 e Q q =>
  hl H0 e _ fun v d H1 e1 dv pd => by
    subst pd
    cases dv with
    | lst h1 h2 h3 =>
      rename_i a xs
      refine ⟨a, rfl, ⟨xs, sq_of h1⟩, fun D hD => ?_⟩
      have okD : ∀ {H}, Ex H1 H → H D ≠ none → Ok (TH.more M D) H := fun {H} e2 n l m => by
        rcases m with m | rfl
        · exact (ok.ex ((e.trans e1).trans e2)) l m
        · exact n
      refine ⟨fun i m H => m = ds.length - i ∧ i ≤ ds.length ∧ Ex H1 H ∧ H D = some (SetK P w D (sall ((ds.take i).map F)).1 (sall ((ds.take i).map F)).2),
        ⟨ds.length, by simp, Nat.zero_le _, Ex.new hD, upd_same⟩, ?_⟩
      rintro i m H2 ⟨rfl, hi, e2, hset⟩
      by_cases hlt : i < ds.length
      · refine .inr ⟨⟨xs, xs[i]'(by rw [h3.length]; exact hlt), sq_of (e2 _ _ h1), by simp⟩, fun H' => Ex H1 H' ∧ H' D = some (SetK P w D (sall ((ds.take (i + 1)).map F)).1 (sall ((ds.take (i + 1)).map F)).2), fun H' p' => ⟨ds.length - (i + 1), by omega, rfl, hlt, p'⟩, fun x H' y => ?_⟩
        obtain ⟨rfl, hx⟩ := y
        have hx := hx xs (sq_of (e2 _ _ h1))
        obtain ⟨d, hd, dx⟩ := h3.get hx
        have tk : (ds.take (i + 1)).map F = (ds.take i).map F ++ [F d] := by rw [List.take_add_one, hd, List.map_append]; rfl
        refine hs (TH.more M D) d x _ (fun v d h => ((h.ex (e.trans e1)).more hD).ex e2) (okD e2 (by rw [hset]; simp)) (List.mem_of_getElem? hd) ((e.trans e1).trans e2) ((dx.more hD).ex e2) _ fun σ2 H3 e3 hw he => ?_
        refine ⟨hw, ?_⟩
        show te σ2 H3 _
        refine he H3 (Ex.refl _) _ fun H4 e4 => ⟨F d, _, _, rfl, (e3.trans e4) _ _ hset, ?_, ?_, ?_⟩
        · have h1 := sadd_le ((ds.take i).map F) (fun _ => false, 0)
          rw [List.length_map, List.length_take] at h1
          have h2 : (sall ((ds.take i).map F)).2 ≤ 0 + min i ds.length := h1
          have h3 : (2000 : Nat) < scanBound := by decide
          omega
        · exact Ex.mut ((e2.trans e3).trans e4) hD
        · rw [tk]
          unfold sall
          rw [List.foldl_append]
          exact upd_same
      · have ei : i = ds.length := by omega
        subst ei
        refine .inl ⟨⟨xs, sq_of (e2 _ _ h1), by rw [h3.length]; exact Nat.le_refl _⟩, ?_⟩
        rw [List.take_length] at hset
        exact ⟨D, _, _, rfl, hset, q _ _ H2 (e1.trans e2) (.int _) rfl⟩
end
end TH
set_option maxRecDepth 100000
set_option maxHeartbeats 4000000
namespace TH
open PySem L2 Evl
abbrev sAre : Stmt := top 23
/-! ### books as data -/
abbrev Sg := Str × Int
def sgD (p : Sg) : PyData := .tuple [.str p.1, .int p.2]
def sgU : PyData → Sg
  | .tuple [.str z, .int k] => (z, k)
  | _ => (Str.empty, 0)
theorem sgU_map (S : List Sg) : (S.map sgD).map sgU = S := by
  rw [List.map_map]
  exact (List.map_congr_left fun p _ => rfl).trans (List.map_id S)
def isSignB (p : Sg) : Bool := isNameB p.1 && (decide (0 ≤ p.2) && decide (p.2 ≤ 2))
def validB (S : List Sg) : Bool :=
  (decide (1 ≤ (S.length : Int)) && decide ((S.length : Int) ≤ 6)) && (S.all isSignB && (!decide (((sall (S.map fun p => Sum.inr p.1)).2 : Int) < (S.length : Int)) && S.any fun p => decide (p.2 = 0)))
def signA : List PyData → Prop := fun ds => ∃ p : Sg, ds = [sgD p] ∧ p.1.length ≤ 100000
def signF : List PyData → PyData
  | [d] => .bool (isSignB (sgU d))
  | _ => .none
def areA : List PyData → Prop := fun ds => ∃ S : List Sg, ds = [.list (S.map sgD)] ∧ S.length ≤ 100 ∧ ∀ p ∈ S, p.1.length ≤ 100000
def areF : List PyData → PyData
  | [.list es] => .bool (validB (es.map sgU))
  | _ => .none
theorem areF_eq (S : List Sg) : areF [.list (S.map sgD)] = .bool (validB S) := by
  show PyData.bool (validB ((S.map sgD).map sgU)) = _
  rw [sgU_map]
section
variable {P : Program} {w : World} {K : PySem.W.Frag} {mg : Str → Option Value} {base : Heap}
theorem scSign : FnScope ["sign"] ["sign"] (defScope sSign) := ⟨rfl, rfl, rfl, by decide +kernel, rfl, by decide +kernel, by decide +kernel⟩
theorem ok_sign {f fN : Addr} {fd fdN : FuncData} (F : Fun K "is_sign" "is_sign" sSign f fd) (G : GlobS mg) (FN : Fun K "is_name" "is_name" sName fN fdN) (mN : mg "is_name" = some (.ref fN)) (bN : Binds K fdN ["name", "longest"] []) :
    FnOk P w K mg base CX0 2 f fd ["sign"] (spD K signA fun ds d => d = signF ds) := by
  have GN : FnOk P w K mg base CX0 1 fN fdN ["name", "longest"] (spD K nameA fun ds d => d = nameF ds) := ok_name FN G
  refine F.ok scSign (fun vs H Q E h => ?_) (fun cdv A outer s H vs Q E hr h => ?_)
  · obtain ⟨M, ds, _, dv, ⟨z, rfl, _⟩, _⟩ := h
    exact dv.length
  · obtain ⟨M, ds, ok, dv, ⟨p, rfl, hz⟩, q⟩ := h
    obtain ⟨t, hL⟩ := G.mostK
    obtain ⟨t3, hL3⟩ := G.longest
    cases dv with
    | cons h1 h2 =>
    cases h2
    rename_i v0
    refine ⟨_, pss_one (ps_ret (pe_and (pe_cmpR op_eq (pe_callB call_len_seq (by rfl) G.len PySem.boot_len (pa_cons (pv 0) pa_nil)) pe_int (nomark _))
      (pe_and (pe_call GN hr rfl mN FN.kp bN .nil pass0 (pa_cons (pe_ix ix_tup (pv 0) pe_int (fun _ _ => rfl)) (pa_cons (pe_glob rfl hL3 (show RelV (.int 3) _ from ⟨_, rfl⟩)) pa_nil)))
      (pe_one (pe_chain op_le op_le pe_int (pe_ix ix_tup (pv 0) pe_int (fun _ _ => rfl)) (pe_glob rfl hL (show RelV (.int 2) _ from ⟨_, rfl⟩))))))), ?_⟩
    have hv : ∀ {H'}, Ex H H' → EvD K M (tVar 0) (start ["sign"] [v0]) H' (sgD p) := fun e => evd_var rfl (h1.ex e)
    refine s_retP (K := K) (M := M) (evd_andV (evd_eqI (evd_lenT (eva_cons (hv (Ex.refl _)) eva_nil)) evd_int) fun _ => evd_andV ((evd_call (F := nameF) ok (eva_cons (evd_ixT (j := 0) (hv (Ex.refl _)) evd_int rfl rfl) (eva_cons evd_int eva_nil)) ⟨p.1, rfl, hz⟩)) fun _ =>
      evd_chainI (g := fun i j => decide (i ≤ j)) (g' := fun i j => decide (i ≤ j)) evd_int (evd_ixT (j := 1) (hv (Ex.refl _)) evd_int rfl rfl) evd_int) fun v d H2 e2 dv pd => q v d H2 e2 dv ?_
    rw [pd]
    rfl
theorem scAre : FnScope ["signs", "sign"] ["signs"] (defScope sAre) := ⟨rfl, rfl, rfl, by decide +kernel, rfl, by decide +kernel, by decide +kernel⟩
theorem ok_are {f fN fS : Addr} {fd fdN fdS : FuncData} (F : Fun K "are_signs" "are_signs" sAre f fd) (G : GlobS mg) (FN : Fun K "is_name" "is_name" sName fN fdN) (mN : mg "is_name" = some (.ref fN)) (bN : Binds K fdN ["name", "longest"] [])
    (FS : Fun K "is_sign" "is_sign" sSign fS fdS) (mS : mg "is_sign" = some (.ref fS)) (bS : Binds K fdS ["sign"] []) :
    FnOk P w K mg base CX0 3 f fd ["signs"] (spD K areA fun ds d => d = areF ds) := by
  have GS : FnOk P w K mg base CX0 2 fS fdS ["sign"] (spD K signA fun ds d => d = signF ds) := ok_sign FS G FN mN bN
  refine F.ok scAre (fun vs H Q E h => ?_) (fun cdv A outer s H vs Q E hr h => ?_)
  · obtain ⟨M, ds, _, dv, ⟨z, rfl, _⟩, _⟩ := h
    exact dv.length
  · obtain ⟨M, ds, ok, dv, ⟨S, rfl, hlen, hz⟩, q⟩ := h
    obtain ⟨t, hL⟩ := G.most
    cases dv with
    | cons h1 h2 =>
    cases h2
    rename_i v0
    refine ⟨_, pss_cons (ps_if (pt_not (pt_chain op_le op_le pe_int (pe_callB call_len_seq (by rfl) G.len PySem.boot_len (pa_cons (pv 0) pa_nil)) (pe_glob rfl hL (show RelV (.int 6) _ from ⟨_, rfl⟩)))) (pss_one (ps_ret pe_bl)) pss_nil)
      (pss_cons (ps_if (pt_not (pt_val (pe_callB (cr_all rfl) (by rfl) G.all (by decide +kernel) (pa_cons (pe_lc (own := [("sign", 1)]) (g := gName 1) (tt := tYes) rfl scAre.nd (pi_list (pv 0))
          (blkOk_by (N := ["signs", "sign"]) (sc := defScope sAre) (by decide +kernel)) (fun _ _ _ _ _ => pg_name (i := 1) scAre.nd rfl (.inl rfl)) (fun _ _ _ _ _ => pts_nil)
          (fun _ _ _ _ _ => pe_call GS hr rfl mS FS.kp bS .nil pass0 (pa_cons (pv 1) pa_nil))) pa_nil)))) (pss_one (ps_ret pe_bl)) pss_nil)
      (pss_cons (ps_if (pt_cmpR op_lt (pe_callB call_lenK (by rfl) G.len PySem.boot_len (pa_cons (pe_scK (own := [("sign", 1)]) (g := gName 1) (tt := tYes) rfl scAre.nd (pi_list (pv 0))
          (blkOk_by (N := ["signs", "sign"]) (sc := defScope sAre) (by decide +kernel)) (fun _ _ _ _ _ => pg_name (i := 1) scAre.nd rfl (.inl rfl)) (fun _ _ _ _ _ => pts_nil)
          (fun _ _ _ _ _ => pe_ix (ix_tupK (K := K) rfl) (pv 1) pe_int (fun _ _ => rfl))) pa_nil)) (pe_callB call_len_seq (by rfl) G.len PySem.boot_len (pa_cons (pv 0) pa_nil)) (nomark _)) (pss_one (ps_ret pe_bl)) pss_nil)
      (pss_one (ps_ret (pe_callB (cr_any rfl) (by rfl) G.any (by decide +kernel) (pa_cons (pe_lc (own := [("sign", 1)]) (g := gName 1) (tt := tYes) rfl scAre.nd (pi_list (pv 0))
          (blkOk_by (N := ["signs", "sign"]) (sc := defScope sAre) (by decide +kernel)) (fun _ _ _ _ _ => pg_name (i := 1) scAre.nd rfl (.inl rfl)) (fun _ _ _ _ _ => pts_nil)
          (fun _ _ _ _ _ => pe_cmpR op_eq (pe_ix (ix_tupK (K := K) rfl) (pv 1) pe_int (fun _ _ => rfl)) pe_int (nomark _))) pa_nil)))))), ?_⟩
    have hv : ∀ {H'}, Ex H H' → EvD K M (tVar 0) (start ["signs", "sign"] [v0]) H' (.list (S.map sgD)) := fun e => evd_var rfl (h1.ex e)
    have hlen' : (S.map sgD).length < sizeLine := by rw [List.length_map]; exact Nat.lt_of_le_of_lt hlen (by decide)
    have mem : ∀ d ∈ S.map sgD, ∃ p ∈ S, d = sgD p := fun d hd => by
      obtain ⟨p, hp, e⟩ := List.mem_map.mp hd
      exact ⟨p, hp, e.symm⟩
    have fin : ∀ b, validB S = b → PyData.bool b = areF [.list (S.map sgD)] := fun b e => by rw [areF_eq, e]
    -- the number of signs
    refine q_when (evt_not (evt_test (K := K) (M := M) (evd_chainI (g := fun i j => decide (i ≤ j)) (g' := fun i j => decide (i ≤ j)) evd_int (evd_lenL (eva_cons (hv (Ex.refl _)) eva_nil)) evd_int))) (fun hb H1 e1 => ?_) (fun hb H1 e1 => ?_)
    · refine q _ _ H1 e1 (.bl _) (fin _ ?_)
      rw [Bool.not_eq_true', List.length_map] at hb
      unfold validB
      rw [hb]
      rfl
    rw [Bool.not_eq_false', List.length_map] at hb
    have ok1 := ok.ex e1
    -- all signs are signs
    refine q_when (evt_not (evt_B (K := K) (M := M) (evd_all (bs := S.map isSignB) (eva_cons ?_ eva_nil)))) (fun hb2 H2 e2 => ?_) (fun hb2 H2 e2 => ?_)
    · refine (evd_lcL (fun _ => true) (fun d => signF [d]) ok1 (hv e1) hlen' fun M' d x H' hm ok' hd e dx Qg qg => ?_).mono fun d h => ?_
      · obtain ⟨p, hp, rfl⟩ := mem d hd
        exact qg _ H' (Ex.refl _) ⟨rfl, evt_yes, fun _ => evd_call (F := signF) ok' (eva_cons (evd_var rfl dx) eva_nil) ⟨p, rfl, hz p hp⟩⟩
      · rw [h, filter_yes, List.map_map, List.map_map]
        rfl
    · refine q _ _ H2 (e1.trans e2) (.bl _) (fin _ ?_)
      rw [Bool.not_eq_true', List.all_map] at hb2
      unfold validB
      rw [hb, show S.all isSignB = false from hb2]
      rfl
    rw [Bool.not_eq_false', List.all_map] at hb2
    have e12 := e1.trans e2
    have ok2 := ok.ex e12
    -- unlike names
    refine q_when (evt_test (K := K) (M := M) (evd_cmp (g := fun i j => decide (i < j)) (evd_lenSc (fun d => Sum.inr (sgU d).1) ok2 (hv e12) (by rw [List.length_map]; omega) fun M' d x H' hm ok' hd e dx Qg qg => ?_) (evd_lenL (eva_cons (hv e12) eva_nil)))) (fun hb3 H3 e3 => ?_) (fun hb3 H3 e3 => ?_)
    · obtain ⟨p, hp, rfl⟩ := mem d hd
      cases dx with
      | tup k1 k2 =>
        cases k2 with
        | cons r1 r2 =>
          cases r1
          exact qg _ H' (Ex.refl _) rfl (ev_op (ev_var rfl) ev_c (rv_ixT (SqT.of k1) (atI_nat (j := 0) rfl)))
    · refine q _ _ H3 (e12.trans e3) (.bl _) (fin _ ?_)
      rw [List.map_map, List.length_map] at hb3
      unfold validB
      rw [hb, show S.all isSignB = true from hb2, show decide (((sall (S.map fun p => Sum.inr p.1)).2 : Int) < (S.length : Int)) = true from hb3]
      rfl
    rw [List.map_map, List.length_map] at hb3
    have e13 := e12.trans e3
    have ok3 := ok.ex e13
    refine s_retP (K := K) (M := M) (evd_any (bs := S.map fun p => decide (p.2 = 0)) (eva_cons ?_ eva_nil)) fun v d H4 e4 dv pd => q v d H4 (e13.trans e4) dv ?_
    · refine (evd_lcL (fun _ => true) (fun d => .bool (decide ((sgU d).2 = 0))) ok3 (hv e13) hlen' fun M' d x H' hm ok' hd e dx Qg qg => ?_).mono fun d h => ?_
      · obtain ⟨p, hp, rfl⟩ := mem d hd
        exact qg _ H' (Ex.refl _) ⟨rfl, evt_yes, fun _ => evd_eqI (evd_ixT (j := 1) (evd_var rfl dx) evd_int rfl rfl) evd_int⟩
      · rw [h, filter_yes, List.map_map, List.map_map]
        rfl
    · rw [pd]
      refine fin _ ?_
      unfold validB
      rw [hb, show S.all isSignB = true from hb2, show decide (((sall (S.map fun p => Sum.inr p.1)).2 : Int) < (S.length : Int)) = false from hb3, List.any_map]
      rfl
end
end TH
set_option maxRecDepth 100000
set_option maxHeartbeats 4000000
namespace TH
open PySem L2 Evl
abbrev sInit : Stmt := inClass (top 24) 0
abbrev sMany : Stmt := inClass (top 24) 1
abbrev sHas : Stmt := inClass (top 24) 2
abbrev sNm : Stmt := inClass (top 24) 3
abbrev sKd : Stmt := inClass (top 24) 4
abbrev sNum : Stmt := inClass (top 24) 5
abbrev sLike : Stmt := inClass (top 24) 6
/-! ### a Book in the heap -/
theorem nk : ¬ (("_names" : Str) = "_kids") := by decide +kernel
def flds (l1 l2 : Addr) : List (Str × V) := putF "_kids" (.ref l2) (putF "_names" (.ref l1) [])
theorem flds_names (l1 l2 : Addr) : (flds l1 l2).lookup ("_names" : Str) = some (.ref l1) := by
  unfold flds
  rw [lookup_putF, if_neg nk, lookup_putF, if_pos rfl]
theorem flds_kids (l1 l2 : Addr) : (flds l1 l2).lookup ("_kids" : Str) = some (.ref l2) := by
  unfold flds
  rw [lookup_putF, if_pos rfl]
theorem flds_no (l1 l2 : Addr) {m : Str} (h1 : ¬ m = "_kids") (h2 : ¬ m = "_names") : (flds l1 l2).lookup m = none := by
  unfold flds
  rw [lookup_putF, if_neg h1, lookup_putF, if_neg h2]
  rfl
def BookAt (C : Addr) (M : Addr → Prop) (H : Hp) (p : Addr) (S : List Sg) : Prop :=
  ∃ dx l1 l2, H p = some (.ins C dx (flds l1 l2)) ∧ H l1 = some (.lst (S.map fun q => V.str q.1)) ∧ ¬ M l1 ∧ H l2 = some (.lst (S.map fun q => V.int q.2)) ∧ ¬ M l2
section
variable {K : PySem.W.Frag} {M M' : Addr → Prop} {H H' : Hp} {C p : Addr} {S : List Sg}
theorem BookAt.ex (h : BookAt C M H p S) (e : Ex H H') : BookAt C M H' p S := by
  obtain ⟨dx, l1, l2, h1, h2, h3, h4, h5⟩ := h
  exact ⟨dx, l1, l2, e _ _ h1, e _ _ h2, h3, e _ _ h4, h5⟩
theorem BookAt.weak (h : BookAt C M H p S) (m : ∀ a, M' a → M a) : BookAt C M' H p S := by
  obtain ⟨dx, l1, l2, h1, h2, h3, h4, h5⟩ := h
  exact ⟨dx, l1, l2, h1, h2, fun z => h3 (m _ z), h4, fun z => h5 (m _ z)⟩
theorem BookAt.more {D : Addr} (h : BookAt C M H p S) (hD : H D = none) : BookAt C (TH.more M D) H p S := by
  obtain ⟨dx, l1, l2, h1, h2, h3, h4, h5⟩ := h
  refine ⟨dx, l1, l2, h1, h2, fun z => ?_, h4, fun z => ?_⟩
  · rcases z with z | z
    · exact h3 z
    · rw [z, hD] at h2
      cases h2
  · rcases z with z | z
    · exact h5 z
    · rw [z, hD] at h4
      cases h4
theorem BookAt.upd {l : Addr} {ys : List V} {o : HO} (h : BookAt C M H p S) (hl : H l = some (.lst ys)) (m : M l) : BookAt C M (L2.upd H l o) p S := by
  obtain ⟨dx, l1, l2, h1, h2, h3, h4, h5⟩ := h
  refine ⟨dx, l1, l2, ?_, ?_, h3, ?_, h5⟩
  · rw [upd_ne (ne_of h1 hl (by intro z; cases z))]
    exact h1
  · rw [upd_ne (show l1 ≠ l from fun z => h3 (by rw [z]; exact m))]
    exact h2
  · rw [upd_ne (show l2 ≠ l from fun z => h5 (by rw [z]; exact m))]
    exact h4
theorem Dt.updI {v : V} {d : PyData} {l : Addr} {C dx : Addr} {fs : List (Str × V)} {o : HO} (h : Dt K M H v d) (hl : H l = some (.ins C dx fs)) : Dt K M (L2.upd H l o) v d :=
  Dt.move (fun a xs h n => ⟨by rw [upd_ne (ne_of h hl (by intro z; cases z))]; exact h, n⟩) (fun a xs h => by rw [upd_ne (ne_of h hl (by intro z; cases z))]; exact h) d v h
end
/-! ### what the top has written -/
structure ExcT (K : PySem.W.Frag) (mg : Str → Option Value) (x : Str) (C : Addr) : Prop where
  g : mg x = some (.ref C)
  x : PySem.W.excIn K C [.type "ValueError", .type "Exception", .type "BaseException", .type "object"] "ValueError.__new__" = true
  k : PySem.W.keepIn K (.ref C) = true
  b : PySem.W.subIn K (.ref C) (.type "BaseException") = some true
  t : PySem.W.typeIn K (.ref C) = some (.type "type")
structure BookT (K : PySem.W.Frag) (mg : Str → Option Value) (C : Addr) : Prop where
  cl : Cls K C
  n1 : NoAttr K C "_names"
  n2 : NoAttr K C "_kids"
  g : mg "Book" = some (.ref C)
section
variable {K : PySem.W.Frag} {M : Addr → Prop} {H H' : Hp} {σ : L2.St} {te : TE} {P : PyData → Prop} {D : Ends} {tz : TS} {i : Nat} {f : Str}
theorem q_fldP (h : EvP K M te σ H P) (k : ∀ v d H1, Ex H H1 → Dt K M H1 v d → P d → ∃ p C dx fs, σ[i]? = some (some (.ref p)) ∧ H1 p = some (.ins C dx fs) ∧ Cls K C ∧ NoAttr K C f ∧ fs.length < 1000 ∧ tz D σ (upd H1 p (.ins C dx (putF f v fs)))) :
    tSeq (sFld K (tVar i) te f) tz D σ H := h.use fun v d H1 e dv pd => by
  obtain ⟨p, C, dx, fs, h1, h2, h3, h4, h5, h6⟩ := k v d H1 e dv pd
  exact ⟨_, h1, p, C, dx, fs, rfl, h2, h3, h4, h5, h6⟩
theorem s_fldP (h : EvP K M te σ H P) (k : ∀ v d H1, Ex H H1 → Dt K M H1 v d → P d → ∃ p C dx fs, σ[i]? = some (some (.ref p)) ∧ H1 p = some (.ins C dx fs) ∧ Cls K C ∧ NoAttr K C f ∧ fs.length < 1000 ∧ D.nx σ (upd H1 p (.ins C dx (putF f v fs)))) :
    sFld K (tVar i) te f D σ H := h.use fun v d H1 e dv pd => by
  obtain ⟨p, C, dx, fs, h1, h2, h3, h4, h5, h6⟩ := k v d H1 e dv pd
  exact ⟨_, h1, p, C, dx, fs, rfl, h2, h3, h4, h5, h6⟩
end
/-- Book(signs) -/
def spInit (K : PySem.W.Frag) (C CN : Addr) : Sp := fun vs H Q E => ∃ (M : Addr → Prop) (p dx : Addr) (v : V) (S : List Sg), Ok M H ∧ vs = [.ref p, v] ∧ H p = some (.ins C dx []) ∧ Dt K M H v (.list (S.map sgD)) ∧ S.length ≤ 100 ∧ (∀ q ∈ S, q.1.length ≤ 100000) ∧
  (validB S = true → ∀ H', BookAt C M H' p S → (∀ b o, H b = some o → b ≠ p → H' b = some o) → Q .non H') ∧ (validB S = false → ∀ H', Ex H H' → E (.ref CN) none H')
section
variable {P : Program} {w : World} {K : PySem.W.Frag} {mg : Str → Option Value} {base : Heap}
theorem scInit : FnScope ["self", "signs", "sign"] ["self", "signs"] (defScope sInit) := ⟨rfl, rfl, rfl, by decide +kernel, rfl, by decide +kernel, by decide +kernel⟩
theorem ok_init {f fN fS fA C CN : Addr} {fd fdN fdS fdA : FuncData} (F : Fun K "__init__" "Book.__init__" sInit f fd) (G : GlobS mg) (T : BookT K mg C) (TN : ExcT K mg "NoBook" CN)
    (FN : Fun K "is_name" "is_name" sName fN fdN) (mN : mg "is_name" = some (.ref fN)) (bN : Binds K fdN ["name", "longest"] [])
    (FS : Fun K "is_sign" "is_sign" sSign fS fdS) (mS : mg "is_sign" = some (.ref fS)) (bS : Binds K fdS ["sign"] [])
    (FA : Fun K "are_signs" "are_signs" sAre fA fdA) (mA : mg "are_signs" = some (.ref fA)) (bA : Binds K fdA ["signs"] []) :
    FnOk P w K mg base (L2.CX P w) 4 f fd ["self", "signs"] (spInit K C CN) := by
  have GA : FnOk P w K mg base CX0 3 fA fdA ["signs"] (spD K areA fun ds d => d = areF ds) := ok_are FA G FN mN bN FS mS bS
  refine F.okX scInit (fun vs H Q E h => ?_) (fun cdv A outer s H vs Q E hr h => ?_)
  · obtain ⟨M, p, dx, v, S, _, rfl, _⟩ := h
    rfl
  · obtain ⟨M, p, dx, v, S, ok, rfl, hp, hv, hlen, hz, qy, qn⟩ := h
    refine ⟨_, pss_cons (ps_if (pt_not (pt_val (pe_call GA hr rfl mA FA.kp bA .nil pass0 (pa_cons (pv 1) pa_nil)))) (pss_one (ps_raise rfl (takes_of rfl rfl rfl rfl) (pmk_own PySem.F.excBase_ValueError TN.x TN.g TN.k (raises_own TN.b TN.t) rfl))) pss_nil)
      (pss_cons (ps_fld (pv 0) (pe_lc (own := [("sign", 2)]) (g := gName 2) (tt := tYes) rfl scInit.nd (pi_list (pv 1)) (blkOk_by (N := ["self", "signs", "sign"]) (sc := defScope sInit) (by decide +kernel)) (fun _ _ _ _ _ => pg_name (i := 2) scInit.nd rfl (.inl rfl)) (fun _ _ _ _ _ => pts_nil)
          (fun _ _ _ _ _ => pe_ix (ix_tupK (K := K) rfl) (pv 2) pe_int (fun _ _ => rfl))) rfl)
      (pss_one (ps_fld (pv 0) (pe_lc (own := [("sign", 2)]) (g := gName 2) (tt := tYes) rfl scInit.nd (pi_list (pv 1)) (blkOk_by (N := ["self", "signs", "sign"]) (sc := defScope sInit) (by decide +kernel)) (fun _ _ _ _ _ => pg_name (i := 2) scInit.nd rfl (.inl rfl)) (fun _ _ _ _ _ => pts_nil)
          (fun _ _ _ _ _ => pe_ix (ix_tupK (K := K) rfl) (pv 2) pe_int (fun _ _ => rfl))) rfl))), ?_⟩
    have hlen' : (S.map sgD).length < sizeLine := by rw [List.length_map]; exact Nat.lt_of_le_of_lt hlen (by decide)
    have mem : ∀ d ∈ S.map sgD, ∃ p ∈ S, d = sgD p := fun d hd => by
      obtain ⟨p, hp, e⟩ := List.mem_map.mp hd
      exact ⟨p, hp, e.symm⟩
    refine q_when (evt_not (evt_B (K := K) (M := M) ((evd_call (F := areF) ok (eva_cons (evd_var rfl hv) eva_nil) ⟨S, rfl, hlen, hz⟩).mono fun d h => h.trans (areF_eq S)))) (fun hb H1 e1 => ?_) (fun hb H1 e1 => ?_)
    · rw [Bool.not_eq_true'] at hb
      exact qn hb H1 e1
    rw [Bool.not_eq_false'] at hb
    have ok1 := ok.ex e1
    refine q_fldP (K := K) (M := M) (P := (· = .list (S.map fun q => PyData.str q.1))) ?_ fun v1 d1 H2 e2 dv1 pd1 => ⟨p, C, dx, [], rfl, (e1.trans e2) _ _ hp, T.cl, T.n1, by decide, ?_⟩
    · refine (evd_lcL (fun _ => true) (fun d => .str (sgU d).1) ok1 (evd_var rfl (hv.ex e1)) hlen' fun M' d x H' hm ok' hd e dx Qg qg => ?_).mono fun d h => ?_
      · obtain ⟨p, hp, rfl⟩ := mem d hd
        exact qg _ H' (Ex.refl _) ⟨rfl, evt_yes, fun _ => evd_ixT (j := 0) (evd_var rfl dx) evd_int rfl rfl⟩
      · rw [h, filter_yes, List.map_map]
        rfl
    subst pd1
    cases dv1 with
    | lst g1 g2 g3 =>
    rename_i l1 xs1
    have g3 : xs1 = S.map fun q => V.str q.1 := by
      have := Dts.strs (S.map fun q => q.1) (by rw [List.map_map]; exact g3)
      rw [this, List.map_map]
      rfl
    subst g3
    have hp2 : H2 p = some (.ins C dx []) := (e1.trans e2) _ _ hp
    have hv3 := ((hv.ex (e1.trans e2)).updI (o := .ins C dx (putF "_names" (.ref l1) [])) hp2)
    have ok3 : Ok M (upd H2 p (.ins C dx (putF "_names" (.ref l1) []))) := fun l m => by
      by_cases e : l = p
      · rw [e, upd_same]
        simp
      · rw [upd_ne e]
        exact ok1.ex e2 l m
    refine s_fldP (K := K) (M := M) (P := (· = .list (S.map fun q => PyData.int q.2))) ?_ fun v2 d2 H3 e3 dv2 pd2 => ⟨p, C, dx, _, rfl, e3 _ _ upd_same, T.cl, T.n2, (by show 1 < 1000; decide), ?_⟩
    · refine (evd_lcL (fun _ => true) (fun d => .int (sgU d).2) ok3 (evd_var rfl hv3) hlen' fun M' d x H' hm ok' hd e dx Qg qg => ?_).mono fun d h => ?_
      · obtain ⟨p, hp, rfl⟩ := mem d hd
        exact qg _ H' (Ex.refl _) ⟨rfl, evt_yes, fun _ => evd_ixT (j := 1) (evd_var rfl dx) evd_int rfl rfl⟩
      · rw [h, filter_yes, List.map_map]
        rfl
    subst pd2
    cases dv2 with
    | lst k1 k2 k3 =>
    rename_i l2 xs2
    have k3 : xs2 = S.map fun q => V.int q.2 := by
      have := Dts.ints (S.map fun q => q.2) (by rw [List.map_map]; exact k3)
      rw [this, List.map_map]
      rfl
    subst k3
    have hp3 : H3 p = some (.ins C dx (putF "_names" (.ref l1) [])) := e3 _ _ upd_same
    have n1 : l1 ≠ p := ne_of g1 hp2 (by intro z; cases z)
    have n2 : l2 ≠ p := ne_of k1 hp3 (by intro z; cases z)
    refine qy hb _ ⟨dx, l1, l2, upd_same, ?_, g2, ?_, k2⟩ fun b o hb hbp => ?_
    · rw [upd_ne n1]
      exact e3 _ _ (by rw [upd_ne n1]; exact g1)
    · rw [upd_ne n2]
      exact k1
    · rw [upd_ne hbp]
      exact e3 _ _ (by rw [upd_ne hbp]; exact (e1.trans e2) _ _ hb)
end
end TH
set_option maxRecDepth 100000
set_option maxHeartbeats 4000000
namespace TH
open PySem L2 Evl
/-! ### what a Book tells -/
def numV (S : List Sg) (z : Str) : V := match S.findIdx? (fun q => decide (q.1 = z)) with
  | some j => .int j
  | none => .non
def spMany (C : Addr) : Sp := fun vs H Q _ => ∃ (M : Addr → Prop) (p : Addr) (S : List Sg), vs = [.ref p] ∧ BookAt C M H p S ∧ Q (.int S.length) H
def spNm (C : Addr) : Sp := fun vs H Q _ => ∃ (M : Addr → Prop) (p : Addr) (S : List Sg) (j : Nat) (q : Sg), vs = [.ref p, .int j] ∧ BookAt C M H p S ∧ S[j]? = some q ∧ Q (.str q.1) H
def spHas (C : Addr) : Sp := fun vs H Q _ => ∃ (M : Addr → Prop) (p : Addr) (S : List Sg) (z : Int), vs = [.ref p, .int z] ∧ BookAt C M H p S ∧ ∀ H', Ex H H' → Q (.bl (decide (0 ≤ z) && decide (z < (S.length : Int)))) H'
def spKd (C : Addr) : Sp := fun vs H Q _ => ∃ (M : Addr → Prop) (p : Addr) (S : List Sg) (j : Nat) (q : Sg), vs = [.ref p, .int j] ∧ BookAt C M H p S ∧ S[j]? = some q ∧ Q (.int q.2) H
def spNum (C : Addr) : Sp := fun vs H Q _ => ∃ (M : Addr → Prop) (p : Addr) (S : List Sg) (z : Str), vs = [.ref p, .str z] ∧ BookAt C M H p S ∧ ∀ H', Ex H H' → Q (numV S z) H'
def namesOk (S : List Sg) : Prop := ∀ q ∈ S, PyData.strOk q.1 = true
def spLike (C : Addr) : Sp := fun vs H Q _ => ∃ (M M' : Addr → Prop) (p p' : Addr) (S S' : List Sg), vs = [.ref p, .ref p'] ∧ BookAt C M H p S ∧ BookAt C M' H p' S' ∧ namesOk S ∧ namesOk S' ∧
  Q (.bl (decide (S.map (·.1) = S'.map (·.1)) && decide (S.map (·.2) = S'.map (·.2)))) H
theorem hu64 {A : Around} {k : Nat} (hr : Room k A) : A.units + 64 < cLine := by
  have := hr.un
  omega
theorem eqv_strs : ∀ zs ws : List Str, PyData.eqvAll (zs.map PyData.str) (ws.map PyData.str) = decide (zs = ws)
  | [], [] => by simp [PyData.eqvAll]
  | [], _ :: _ => by simp [PyData.eqvAll]
  | _ :: _, [] => by simp [PyData.eqvAll]
  | z :: zs, w :: ws => by
    rw [List.map_cons, List.map_cons, PyData.eqvAll, eqv_strs zs ws, PyData.eqv]
    by_cases h : z = w <;> by_cases h2 : zs = ws <;> simp [h, h2]
theorem eqv_ints : ∀ zs ws : List Int, PyData.eqvAll (zs.map PyData.int) (ws.map PyData.int) = decide (zs = ws)
  | [], [] => by simp [PyData.eqvAll]
  | [], _ :: _ => by simp [PyData.eqvAll]
  | _ :: _, [] => by simp [PyData.eqvAll]
  | z :: zs, w :: ws => by
    rw [List.map_cons, List.map_cons, PyData.eqvAll, eqv_ints zs ws, PyData.eqv]
    by_cases h : z = w <;> by_cases h2 : zs = ws <;> simp [h, h2]
theorem dpAll_strs {K : PySem.W.Frag} {H : Hp} : ∀ zs : List Str, DpAll K H (zs.map V.str) (zs.map PyData.str)
  | [] => .nil
  | z :: zs => .cons (.str z) (dpAll_strs zs)
theorem dpAll_ints {K : PySem.W.Frag} {H : Hp} : ∀ zs : List Int, DpAll K H (zs.map V.int) (zs.map PyData.int)
  | [] => .nil
  | z :: zs => .cons (.int z) (dpAll_ints zs)
theorem lay_strs : ∀ zs : List Str, (∀ z ∈ zs, PyData.strOk z = true) → PyData.canLayAll0 (zs.map PyData.str) = true
  | [], _ => rfl
  | z :: zs, h => by
    rw [List.map_cons, PyData.canLayAll0, PyData.canLay0, h z List.mem_cons_self, lay_strs zs fun y hy => h y (List.mem_cons_of_mem _ hy)]
    rfl
theorem lay_ints : ∀ zs : List Int, PyData.canLayAll0 (zs.map PyData.int) = true
  | [] => rfl
  | z :: zs => by
    rw [List.map_cons, PyData.canLayAll0, PyData.canLay0, lay_ints zs]
    rfl
theorem depth_strs : ∀ zs : List Str, PyData.depthAll (zs.map PyData.str) = 0
  | [] => rfl
  | z :: zs => by rw [List.map_cons, PyData.depthAll, PyData.depth, depth_strs zs]; rfl
theorem depth_ints : ∀ zs : List Int, PyData.depthAll (zs.map PyData.int) = 0
  | [] => rfl
  | z :: zs => by rw [List.map_cons, PyData.depthAll, PyData.depth, depth_ints zs]; rfl
theorem shaped_strs (zs : List Str) (h : ∀ z ∈ zs, PyData.strOk z = true) : SeqAt.shaped (.list (zs.map PyData.str)) = true := by
  unfold SeqAt.shaped
  rw [PyData.canLay0, lay_strs zs h, PyData.depth, depth_strs]
  rfl
theorem shaped_ints (zs : List Int) : SeqAt.shaped (.list (zs.map PyData.int)) = true := by
  unfold SeqAt.shaped
  rw [PyData.canLay0, lay_ints zs, PyData.depth, depth_ints]
  rfl
section
variable {P : Program} {w : World} {K : PySem.W.Frag} {mg : Str → Option Value} {base : Heap}
theorem scMany : FnScope ["self"] ["self"] (defScope sMany) := ⟨rfl, rfl, rfl, by decide +kernel, rfl, by decide +kernel, by decide +kernel⟩
theorem ok_many {f C : Addr} {fd : FuncData} (F : Fun K "many" "Book.many" sMany f fd) (G : GlobS mg) (T : BookT K mg C) : FnOk P w K mg base CX0 1 f fd ["self"] (spMany C) := by
  refine F.ok scMany (fun vs H Q E h => ?_) (fun cdv A outer s H vs Q E hr h => ?_)
  · obtain ⟨M, p, S, rfl, _⟩ := h
    rfl
  · obtain ⟨M, p, S, rfl, ⟨dx, l1, l2, h1, h2, h3, h4, h5⟩, q⟩ := h
    refine ⟨_, pss_one (ps_ret (pe_callB call_len_seq (by rfl) G.len PySem.boot_len (pa_cons (pe_fld (pv 0) rfl) pa_nil))), ?_⟩
    refine ⟨_, rfl, p, C, dx, _, _, rfl, h1, T.cl, T.n1, flds_names _ _, _, _, rfl, .inl (SqL.of h2), ?_⟩
    rw [List.length_map]
    exact q
theorem scHas : FnScope ["self", "sign"] ["self", "sign"] (defScope sHas) := ⟨rfl, rfl, rfl, by decide +kernel, rfl, by decide +kernel, by decide +kernel⟩
theorem ok_has {f C : Addr} {fd : FuncData} (F : Fun K "has" "Book.has" sHas f fd) (G : GlobS mg) (T : BookT K mg C) : FnOk P w K mg base CX0 1 f fd ["self", "sign"] (spHas C) := by
  refine F.ok scHas (fun vs H Q E h => ?_) (fun cdv A outer s H vs Q E hr h => ?_)
  · obtain ⟨M, p, S, z, rfl, _⟩ := h
    rfl
  · obtain ⟨M, p, S, z, rfl, ⟨dx, l1, l2, h1, h2, h3, h4, h5⟩, q⟩ := h
    refine ⟨_, pss_one (ps_ret (pe_chain op_le op_lt pe_int (pv 1) (pe_callB call_len_seq (by rfl) G.len PySem.boot_len (pa_cons (pe_fld (pv 0) rfl) pa_nil)))), ?_⟩
    refine s_retP (K := K) (M := M) (evd_chainI (j := z) (k := S.length) (g := fun i j => decide (i ≤ j)) (g' := fun i j => decide (i < j)) evd_int (evd_var rfl (.int z)) fun H1 e Q q => ?_) fun v d H2 e2 dv pd => ?_
    · refine ⟨_, rfl, p, C, dx, _, _, rfl, e _ _ h1, T.cl, T.n1, flds_names _ _, _, _, rfl, .inl (SqL.of (e _ _ h2)), ?_⟩
      rw [List.length_map]
      exact q _ _ H1 (Ex.refl _) (.int _) rfl
    · subst pd
      cases dv
      exact q H2 e2
theorem scNm : FnScope ["self", "sign"] ["self", "sign"] (defScope sNm) := ⟨rfl, rfl, rfl, by decide +kernel, rfl, by decide +kernel, by decide +kernel⟩
theorem ok_nm {f C : Addr} {fd : FuncData} (F : Fun K "name" "Book.name" sNm f fd) (T : BookT K mg C) : FnOk P w K mg base CX0 1 f fd ["self", "sign"] (spNm C) := by
  refine F.ok scNm (fun vs H Q E h => ?_) (fun cdv A outer s H vs Q E hr h => ?_)
  · obtain ⟨M, p, S, j, q, rfl, _⟩ := h
    rfl
  · obtain ⟨M, p, S, j, q, rfl, ⟨dx, l1, l2, h1, h2, h3, h4, h5⟩, hj, k⟩ := h
    refine ⟨_, pss_one (ps_ret (pe_ix ix_list (pe_fld (pv 0) rfl) (pv 1) (fun _ _ => rfl))), ?_⟩
    exact ⟨_, rfl, p, C, dx, _, _, rfl, h1, T.cl, T.n1, flds_names _ _, _, rfl, _, _, _, _, rfl, rfl, SqL.of h2, atI_nat (by rw [List.getElem?_map, hj]; rfl), k⟩
theorem scKd : FnScope ["self", "sign"] ["self", "sign"] (defScope sKd) := ⟨rfl, rfl, rfl, by decide +kernel, rfl, by decide +kernel, by decide +kernel⟩
theorem ok_kd {f C : Addr} {fd : FuncData} (F : Fun K "kids" "Book.kids" sKd f fd) (T : BookT K mg C) : FnOk P w K mg base CX0 1 f fd ["self", "sign"] (spKd C) := by
  refine F.ok scKd (fun vs H Q E h => ?_) (fun cdv A outer s H vs Q E hr h => ?_)
  · obtain ⟨M, p, S, j, q, rfl, _⟩ := h
    rfl
  · obtain ⟨M, p, S, j, q, rfl, ⟨dx, l1, l2, h1, h2, h3, h4, h5⟩, hj, k⟩ := h
    refine ⟨_, pss_one (ps_ret (pe_ix ix_list (pe_fld (pv 0) rfl) (pv 1) (fun _ _ => rfl))), ?_⟩
    exact ⟨_, rfl, p, C, dx, _, _, rfl, h1, T.cl, T.n2, flds_kids _ _, _, rfl, _, _, _, _, rfl, rfl, SqL.of h4, atI_nat (by rw [List.getElem?_map, hj]; rfl), k⟩
end
end TH
set_option maxRecDepth 100000
set_option maxHeartbeats 4000000
namespace TH
open PySem L2 Evl
section
variable {X : Cx} {K : PySem.W.Frag}
theorem pg_tupK {es : List Expr} {k : Nat} {t : TGs} {n : Nat} {pos : Pos} (hK : X.K = K) (hc : X.calm = true) (h : PGs X es t)
    (hn : (assignEach es X.env).length = n := by rfl) (hst : (assignEach es X.env).findIdx? (·.1) = none := by rfl) : PG X (.Tuple es k pos) (gTup K n t) := by
  subst hK
  exact pg_tup hc h hn hst
end
section
variable {K : PySem.W.Frag} {M : Addr → Prop} {H H1 H' : Hp} {σ : L2.St} {ta tb tc te tl : TE} {P : PyData → Prop}
/-- a draw -/
theorem evp_take {E : XK} {b : Addr} {n : Int} (hb : Ev tb σ H (.ref b)) (hx : H b = some (Box b)) (hn : EvD K M te σ H (.int n)) (n0 : 0 < n) (n1 : n.natAbs < 2 ^ 200) :
    EvP K M (tCall spTake [] E (tCons tb (tCons te tNil))) σ H (fun d => ∃ k : Int, d = .int k ∧ 0 ≤ k ∧ k < n) := fun H1 e Q q =>
  hb H1 e _ fun H2 e2 => hn H2 (e.trans e2) _ fun v d H3 e3 dv pd => by
    subst pd
    cases dv
    exact ⟨b, n, rfl, ((e.trans e2).trans e3) _ _ hx, n0, n1, fun k H4 k0 k1 e4 => q _ _ H4 ((e2.trans e3).trans e4) (.int k) ⟨k, rfl, k0, k1⟩⟩
/-- texts joined -/
theorem txt_join (ys : List Str) : (Txt.join "" ys).cps.toList = (ys.map fun y => y.cps.toList).flatten := by
  rw [TL.join_eq]
  have h : TL.tl (Str.join "" ys) = _ := TL.tl_join "" ys
  have e : TL.tl ("" : Str) = [] := by decide +kernel
  rw [e] at h
  refine h.trans ?_
  clear h
  induction ys with
  | nil => rfl
  | cons y ys ih =>
    cases ys with
    | nil =>
      show TL.tl y = y.cps.toList ++ []
      rw [List.append_nil]
    | cons z zs =>
      show TL.tl y ++ ([] ++ TL.joinL [] ((z :: zs).map TL.tl)) = y.cps.toList ++ _
      rw [ih]
      rfl
theorem evp_join {PY : List Str → Prop} (h : EvP K M te σ H (fun d => ∃ ys : List Str, d = .list (ys.map PyData.str) ∧ PY ys)) (hz : ∀ ys, PY ys → (ys.map (·.length)).sum ≤ 16777216) :
    EvP K M (tM1 (fun x xs H Q => ∃ a p, ∃ ys : List Str, x = .str a ∧ xs = [.ref p] ∧ (SqL K H p (ys.map V.str) ∨ SqT K H p (ys.map V.str)) ∧ (ys.map (·.length)).sum + ys.length * a.length ≤ 16777216 ∧ Q (.str (Txt.join a ys)) H) (tC (.str "")) te) σ H
      (fun d => ∃ ys, PY ys ∧ d = .str (Txt.join "" ys)) := fun H1 e Q q => ⟨⟨_, rfl⟩, h H1 e _ fun v d H2 e2 dv pd => by
    obtain ⟨ys, rfl, py⟩ := pd
    cases dv with
    | lst k1 k2 k3 =>
      have e := k3.strs
      subst e
      refine ⟨_, _, ys, rfl, rfl, .inl (sq_of k1), ?_, q _ _ H2 e2 (.str _) ⟨ys, py, rfl⟩⟩
      have e0 : ("" : Str).length = 0 := by decide +kernel
      rw [e0, Nat.mul_zero, Nat.add_zero]
      exact hz ys py⟩
/-- in, not in a list of texts -/
theorem inV_str (z : Str) (ys : List Str) : inV (.str z) (ys.map V.str) = decide (z ∈ ys) := by
  unfold inV
  rw [List.any_map, Bool.eq_iff_iff]
  simp only [List.any_eq_true, decide_eq_true_eq, Function.comp]
  constructor
  · rintro ⟨y, hy, h⟩
    have : y = z := by
      have h : (y == z) = true := h
      simpa using h
    subst this
    exact hy
  · intro h
    refine ⟨z, h, ?_⟩
    show (z == z) = true
    simp
theorem flat_strs (ys : List Str) : (ys.map V.str).all flatV = true := by
  rw [List.all_map, List.all_eq_true]
  intro y _
  rfl
theorem flat_ints (ys : List Int) : (ys.map V.int).all flatV = true := by
  rw [List.all_map, List.all_eq_true]
  intro y _
  rfl
theorem evd_notInS {z : Str} {ys : List Str} (ha : EvD K M ta σ H (.str z)) (hb : EvD K M tb σ H (.list (ys.map PyData.str))) : EvD K M (tOp (rIn K true) ta tb) σ H (.bool (!decide (z ∈ ys))) :=
  evp_op ha hb fun x y a b H1 e dx dy px py Q q => by
    subst px py
    cases dx
    cases dy with
    | lst k1 k2 k3 =>
      have e := k3.strs
      subst e
      refine ⟨_, _, rfl, .inl (sq_of k1), rfl, flat_strs ys, ?_⟩
      rw [inV_str]
      exact q _ _ H1 (Ex.refl _) (.bl _) rfl
theorem inV_int (z : Int) (ys : List Int) : inV (.int z) (ys.map V.int) = decide (z ∈ ys) := by
  unfold inV
  rw [List.any_map, Bool.eq_iff_iff]
  simp only [List.any_eq_true, decide_eq_true_eq, Function.comp]
  constructor
  · rintro ⟨y, hy, h⟩
    have : y = z := by
      have h : (y == z) = true := h
      simpa using h
    subst this
    exact hy
  · intro h
    refine ⟨z, h, ?_⟩
    show (z == z) = true
    simp
theorem evd_inI {z : Int} {ys : List Int} (ha : EvD K M ta σ H (.int z)) (hb : EvD K M tb σ H (.list (ys.map PyData.int))) : EvD K M (tOp (rIn K false) ta tb) σ H (.bool (decide (z ∈ ys))) :=
  evp_op ha hb fun x y a b H1 e dx dy px py Q q => by
    subst px py
    cases dx
    cases dy with
    | lst k1 k2 k3 =>
      have e := k3.ints
      subst e
      refine ⟨_, _, rfl, .inl (sq_of k1), rfl, flat_ints ys, ?_⟩
      rw [inV_int]
      exact q _ _ H1 (Ex.refl _) (.bl _) rfl
/-- min of a list of ints -/
theorem evp_min {ta : TA} {ns : List Int} (h : EvDA K M ta σ H [.list (ns.map PyData.int)]) (hn : 0 < ns.length) : EvP K M (tCB (rMin K) ta) σ H (fun d => ∃ m, d = .int m ∧ m ∈ ns ∧ ∀ y ∈ ns, m ≤ y) :=
  evp_cb h fun vs ds H1 e dv pd Q q => by
    subst pd
    cases dv with
    | cons h1 h2 =>
      cases h2
      cases h1 with
      | lst k1 k2 k3 =>
        have e := k3.ints
        subst e
        exact ⟨_, ns, rfl, sq_of k1, hn, fun m hm hl => q _ _ H1 (Ex.refl _) (.int m) ⟨m, rfl, hm, hl⟩⟩
/-- an int in a comparison, where the left one is not fixed -/
theorem evp_cmp {g : Int → Int → Bool} {PA PB : PyData → Prop} (ha : EvP K M ta σ H PA) (hb : EvP K M tb σ H PB) (hi : ∀ a, PA a → ∃ i, a = .int i) (hj : ∀ a, PB a → ∃ i, a = .int i) :
    EvP K M (tOp (rI0 fun i j => .bl (g i j)) ta tb) σ H (fun d => ∃ i j, PA (.int i) ∧ PB (.int j) ∧ d = .bool (g i j)) :=
  evp_I0 ha hb fun a b pa pb => by
    obtain ⟨i, rfl⟩ := hi a pa
    obtain ⟨j, rfl⟩ := hj b pb
    exact ⟨i, j, rfl, rfl, _, ⟨i, j, pa, pb, rfl⟩, fun _ => .bl _⟩
/-- a test that is one or the other -/
theorem EvP.test {D : Ends} {tu tw : TS} {tz : TS} {PB : Bool → Prop} (h : EvP K M te σ H (fun d => ∃ b, d = .bool b ∧ PB b)) (k : ∀ b H1, Ex H H1 → PB b → if b = true then tu { D with nx := tz D } σ H1 else tw { D with nx := tz D } σ H1) : tSeq (tIfS (tTest te) tu tw) tz D σ H :=
  h.use fun v d H1 e dv pd => by
    obtain ⟨b, rfl, pb⟩ := pd
    cases dv
    exact ⟨b, rfl, k b H1 e pb⟩
end
theorem EvPA.mono {K : PySem.W.Frag} {M : Addr → Prop} {ta : TA} {σ : L2.St} {H : Hp} {P Q : List PyData → Prop} (h : EvPA K M ta σ H P) (k : ∀ d, P d → Q d) : EvPA K M ta σ H Q := fun H1 e R q => h H1 e R fun v d H2 e2 hd hp => q v d H2 e2 hd (k d hp)
/-- nothing changes -/
abbrev MF : Addr → Prop := fun _ => False
theorem okF {H : Hp} : Ok MF H := fun _ h => h.elim
section
variable {K : PySem.W.Frag} {M : Addr → Prop} {H H' : Hp} {σ : L2.St} {te : TE} {P : PyData → Prop} {D : Ends} {tz : TS} {i i' : Nat} {l : Addr} {xs : List V}
/-- l.append(e) -/
theorem s_appP (hl : H l = some (.lst xs)) (hs : σ[i]? = some (some (.ref l))) (h : EvP K M te σ H P) (hz : xs.length < sizeLine) (k : ∀ v d H1, Ex H H1 → Dt K M H1 v d → P d → D.nx σ (upd H1 l (.lst (xs ++ [v])))) :
    tDrop (tBM K "list" rAppend (tVar i) (tCons te tNil)) D σ H :=
  ⟨_, hs, .inl ⟨rfl, _, SqL.of hl⟩, h.use fun v d H1 e dv pd => ⟨l, xs, v, rfl, rfl, e _ _ hl, hz, k v d H1 e dv pd⟩⟩
theorem q_appP (hl : H l = some (.lst xs)) (hs : σ[i]? = some (some (.ref l))) (h : EvP K M te σ H P) (hz : xs.length < sizeLine) (k : ∀ v d H1, Ex H H1 → Dt K M H1 v d → P d → tz D σ (upd H1 l (.lst (xs ++ [v])))) :
    tSeq (tDrop (tBM K "list" rAppend (tVar i) (tCons te tNil))) tz D σ H := s_appP (D := { D with nx := tz D }) hl hs h hz k
/-- l[j] = e -/
theorem s_setP {j : Nat} (hl : H l = some (.lst xs)) (hs : σ[i]? = some (some (.ref l))) (hj : σ[i']? = some (some (.int (j : Int)))) (hz : j < xs.length) (h : EvP K M te σ H P) (k : ∀ v d H1, Ex H H1 → Dt K M H1 v d → P d → D.nx σ (upd H1 l (.lst (xs.set j v)))) :
    tAsg te (gSub (tVar i) (tVar i') rSetL) D σ H := h.use fun v d H1 e dv pd => ⟨_, hs, _, hj, l, xs, j, j, rfl, rfl, e _ _ hl, ixN_nat hz, k v d H1 e dv pd⟩
end
/-- nothing but flat tuples and values -/
abbrev MT : Addr → Prop := fun _ => True
theorem Dts.flat {K : PySem.W.Frag} {M : Addr → Prop} {H : Hp} {vs : List V} {ds : List PyData} (h : Dts K MT H vs ds) : Dts K M H vs ds := h.weak fun _ _ => trivial
theorem Dt.flat {K : PySem.W.Frag} {M : Addr → Prop} {H : Hp} {v : V} {d : PyData} (h : Dt K MT H v d) : Dt K M H v d := h.weak fun _ _ => trivial
theorem sgs_flat {K : PySem.W.Frag} {M : Addr → Prop} {H : Hp} : ∀ {S : List Sg} {vs : List V}, Dts K M H vs (S.map sgD) → Dts K MT H vs (S.map sgD)
  | [], _, .nil => .nil
  | q :: S, _, .cons h t => by
    refine .cons ?_ (sgs_flat t)
    cases h with
    | tup h1 h2 =>
      cases h2 with
      | cons r1 r2 =>
        cases r1
        cases r2 with
        | cons r3 r4 =>
          cases r3
          cases r4
          exact .tup h1 (.cons (.str _) (.cons (.int _) .nil))
end TH
set_option maxRecDepth 100000
set_option maxHeartbeats 4000000
namespace TH
open PySem L2 Evl
abbrev sSigns : Stmt := top 29
/-! ### good books -/
structure NameOk (z : Str) : Prop where
  lo : 1 ≤ z.length
  hi : z.length ≤ 3
  az : ∀ c ∈ z.cps.toList, 97 ≤ c ∧ c ≤ 122
structure Good0 (S : List Sg) : Prop where
  len : S.length ≤ 6
  name : ∀ q ∈ S, NameOk q.1
  kids : ∀ q ∈ S, 0 ≤ q.2 ∧ q.2 ≤ 2
  nd : (S.map (·.1)).Nodup
structure Good (S : List Sg) : Prop extends Good0 S where
  ne : 1 ≤ S.length
  leaf : ∃ q ∈ S, q.2 = 0
theorem Good0.add {S : List Sg} {z : Str} {k : Int} (h : Good0 S) (hl : S.length < 6) (hz : NameOk z) (hk : 0 ≤ k ∧ k ≤ 2) (hn : z ∉ S.map (·.1)) : Good0 (S ++ [(z, k)]) := by
  refine ⟨by rw [List.length_append]; exact hl, fun q hq => ?_, fun q hq => ?_, ?_⟩
  · rcases List.mem_append.mp hq with hq | hq
    · exact h.name q hq
    · rw [List.mem_singleton.mp hq]
      exact hz
  · rcases List.mem_append.mp hq with hq | hq
    · exact h.kids q hq
    · rw [List.mem_singleton.mp hq]
      exact hk
  · rw [List.map_append, List.nodup_append]
    refine ⟨h.nd, by simp, fun a ha b hb => ?_⟩
    have : b = z := by simpa using hb
    rw [this]
    intro e
    rw [e] at ha
    exact hn ha
theorem Good0.zero {S : List Sg} {j : Nat} {q : Sg} (h : Good0 S) (hj : S[j]? = some q) : Good (S.set j (q.1, 0)) := by
  obtain ⟨hlt, rfl⟩ := List.getElem?_eq_some_iff.mp hj
  have hm : ∀ r ∈ S.set j (S[j].1, 0), r ∈ S ∨ r = (S[j].1, 0) := fun r hr => List.mem_or_eq_of_mem_set hr
  have em : (S.set j (S[j].1, 0)).map (·.1) = S.map (·.1) := by
    rw [List.map_set]
    exact List.set_getElem_self (as := S.map (·.1)) (by rw [List.length_map]; exact hlt) |> fun h => by rw [List.getElem_map] at h; exact h
  refine ⟨⟨by rw [List.length_set]; exact h.len, fun r hr => ?_, fun r hr => ?_, by rw [em]; exact h.nd⟩, by rw [List.length_set]; omega, (S[j].1, 0), ?_, rfl⟩
  · rcases hm r hr with hr | rfl
    · exact h.name r hr
    · exact h.name S[j] (List.getElem_mem hlt)
  · rcases hm r hr with hr | rfl
    · exact h.kids r hr
    · exact ⟨Int.le_refl _, (by show (0 : Int) ≤ 2; decide)⟩
  · exact List.mem_of_getElem? (i := j) (by rw [List.getElem?_set_self hlt])
/-- _law_signs -/
def spSigns (K : PySem.W.Frag) : Sp := fun vs H Q _ => ∃ b : Addr, vs = [.ref b] ∧ H b = some (Box b) ∧
  ∀ l xs S H', Good S → Ex H H' → H l = none → H' l = some (.lst xs) → Dts K MT H' xs (S.map sgD) → Q (.ref l) H'
structure GlobL (mg : Str → Option Value) : Prop extends GlobS mg where
  min : mg "min" = none
/-- one of the letters -/
theorem letter_at {k : Int} (h0 : 0 ≤ k) (h1 : k < 26) : ∃ c, atI ("abcdefghijklmnopqrstuvwxyz" : Str).cps.toList k = some c ∧ 97 ≤ c ∧ c ≤ 122 := by
  obtain ⟨j, rfl⟩ := Int.eq_ofNat_of_zero_le h0
  have hall : ∀ j : _root_.Fin 26, ∃ c, ("abcdefghijklmnopqrstuvwxyz" : Str).cps.toList[j.val]? = some c ∧ 97 ≤ c ∧ c ≤ 122 := by
    intro j
    have e : ("abcdefghijklmnopqrstuvwxyz" : Str).cps.toList = List.range' 97 26 := by decide +kernel
    rw [e, List.getElem?_range' (by exact j.isLt)]
    exact ⟨_, rfl, by omega, by have := j.isLt; omega⟩
  obtain ⟨c, hc, h⟩ := hall ⟨j, by omega⟩
  exact ⟨c, atI_nat hc, h⟩
theorem letters_len : ("abcdefghijklmnopqrstuvwxyz" : Str).length ≤ sizeLine := by
  have e : ("abcdefghijklmnopqrstuvwxyz" : Str).length = 26 := by decide +kernel
  rw [e]
  decide
theorem ones_name {ys : List Str} (h : ∀ y ∈ ys, ∃ c : Nat, y = ⟨#[c]⟩ ∧ 97 ≤ c ∧ c ≤ 122) (h1 : 1 ≤ ys.length) (h3 : ys.length ≤ 3) : NameOk (Txt.join "" ys) := by
  have e := txt_join ys
  have hl : (Txt.join "" ys).length = ys.length := by
    show (Txt.join "" ys).cps.size = _
    rw [← Array.length_toList, e]
    clear e h1 h3
    induction ys with
    | nil => rfl
    | cons y ys ih =>
      obtain ⟨c, rfl, _⟩ := h y List.mem_cons_self
      rw [List.map_cons, List.flatten_cons, List.length_append, ih fun z hz => h z (List.mem_cons_of_mem _ hz)]
      show 1 + ys.length = ys.length + 1
      omega
  refine ⟨by rw [hl]; exact h1, by rw [hl]; exact h3, fun c hc => ?_⟩
  rw [e] at hc
  obtain ⟨l, hl, hc⟩ := List.mem_flatten.mp hc
  obtain ⟨y, hy, rfl⟩ := List.mem_map.mp hl
  obtain ⟨d, rfl, hd⟩ := h y hy
  have : c = d := by simpa using hc
  rw [this]
  exact hd
section
variable {P : Program} {w : World} {K : PySem.W.Frag} {mg : Str → Option Value} {base : Heap}
abbrev nSigns : List Str := ["_law_box_here", "_law_letters", "_law_found", "_law_turn", "_law_name", "_law_spot", "_law_letter", "_law_one", "_law_kids_here"]
theorem scSigns : FnScope nSigns ["_law_box_here"] (defScope sSigns) := ⟨rfl, rfl, rfl, by decide +kernel, rfl, by decide +kernel, by decide +kernel⟩
theorem ok_signs {f fT : Addr} {fd fdT : FuncData} (F : Fun K "_law_signs" "_law_signs" sSigns f fd) (G : GlobL mg)
    (GT : FnOk P w K mg base CX0 2 fT fdT ["_law_box_here", "_law_count"] spTake) (FT : PySem.W.keepIn K (.ref fT) = true) (mT : mg "_law_take" = some (.ref fT)) (bT : Binds K fdT ["_law_box_here", "_law_count"] []) :
    FnOk P w K mg base CX0 3 f fd ["_law_box_here"] (spSigns K) := by
  refine F.ok scSigns (fun vs H Q E h => ?_) (fun cdv A outer s H vs Q E hr h => ?_)
  · obtain ⟨b, rfl, _⟩ := h
    rfl
  · obtain ⟨b, rfl, hb, q⟩ := h
    refine ⟨_, pss_cons (ps_asg (pe_tup (pa_cons pe_str (pa_cons (pe_lst pa_nil) pa_nil))) (pg_tup rfl (pgs_cons (pg_name (i := 1) scSigns.nd rfl (.inr rfl)) (pgs_cons (pg_name (i := 2) scSigns.nd rfl (.inl rfl)) pgs_nil))))
      (pss_cons (ps_for PassesOwn.never rfl (pi_range1 rfl G.range (pa_cons (pe_op op_add pe_int (pe_call GT hr rfl mT FT bT .nil pass0 (pa_cons (pv 0) (pa_cons pe_int pa_nil)))) pa_nil)) (pg_name (i := 3) scSigns.nd rfl (.inl rfl))
        (pss_cons (ps_set (i := 4) scSigns.nd rfl (.inl rfl) (pe_join pe_str (pe_lc (own := [("_law_letter", 6)]) (g := gName 6) (tt := tYes) rfl scSigns.nd
            (pi_range1 rfl G.range (pa_cons (pe_op op_add pe_int (pe_call GT hr rfl mT FT bT .nil pass0 (pa_cons (pv 0) (pa_cons pe_int pa_nil)))) pa_nil))
            (blkOk_by (N := nSigns) (sc := defScope sSigns) (by decide +kernel)) (fun _ _ _ _ _ => pg_name (i := 6) scSigns.nd rfl (.inl rfl)) (fun _ _ _ _ _ => pts_nil)
            (fun _ _ _ _ _ => pe_ix ix_str (pv 1) (pe_call GT hr rfl mT FT bT .nil pass0 (pa_cons (pv 0) (pa_cons pe_int pa_nil))) (fun _ _ => rfl)))))
        (pss_one (ps_if (pt_cmpR op_notIn_seq (pv 4) (pe_lc (own := [("_law_one", 7), ("_law_kids_here", 8)]) (tt := tYes) rfl scSigns.nd (pi_list (pv 2))
            (blkOk_by (N := nSigns) (sc := defScope sSigns) (by decide +kernel)) (fun _ _ _ _ _ => pg_tupK (K := K) (n := 2) rfl rfl (pgs_cons (pg_name (i := 7) scSigns.nd rfl (.inl rfl)) (pgs_cons (pg_name (i := 8) scSigns.nd rfl (.inl rfl)) pgs_nil))) (fun _ _ _ _ _ => pts_nil)
            (fun _ _ _ _ _ => pv 7)) (by rfl))
          (pss_one (ps_expr (pe_bm PySem.F.plainAttrs_list PySem.F.slot_list_append PySem.F.type_list_append mt_append (pv 2) (pa_cons (pe_tup (pa_cons (pv 4) (pa_cons (pe_call GT hr rfl mT FT bT .nil pass0 (pa_cons (pv 0) (pa_cons pe_int pa_nil))) pa_nil))) pa_nil)))) pss_nil))))
      (pss_cons (ps_set (i := 5) scSigns.nd rfl (.inl rfl) (pe_call GT hr rfl mT FT bT .nil pass0 (pa_cons (pv 0) (pa_cons (pe_callB call_len_seq (by rfl) G.len PySem.boot_len (pa_cons (pv 2) pa_nil)) pa_nil))))
      (pss_cons (ps_if (pt_cmpR op_gt (pe_callB (cr_min rfl) (by rfl) G.min (by decide +kernel) (pa_cons (pe_lc (own := [("_law_name", 4), ("_law_kids_here", 8)]) (tt := tYes) rfl scSigns.nd (pi_list (pv 2))
            (blkOk_by (N := nSigns) (sc := defScope sSigns) (by decide +kernel)) (fun _ _ _ _ _ => pg_tupK (K := K) (n := 2) rfl rfl (pgs_cons (pg_name (i := 4) scSigns.nd rfl (.inl rfl)) (pgs_cons (pg_name (i := 8) scSigns.nd rfl (.inl rfl)) pgs_nil))) (fun _ _ _ _ _ => pts_nil)
            (fun _ _ _ _ _ => pv 8)) pa_nil)) pe_int (nomark _))
          (pss_one (ps_asg (pe_tup (pa_cons (pe_ix ix_tup (pe_ix ix_list (pv 2) (pv 5) (fun _ _ => rfl)) pe_int (fun _ _ => rfl)) (pa_cons pe_int pa_nil))) (pg_sub (pv 2) (pv 5) set_list))) pss_nil)
      (pss_one (ps_ret (pv 2)))))), ?_⟩
    refine ⟨by decide, fun l hl => ⟨by show 2 ≤ sizeLine; decide, fun t ht => ⟨t, _, rfl, SqT.of upd_same, rfl, _, _, rfl, _, _, rfl, rfl, ?_⟩⟩⟩
    have e0 : Ex H (upd H l (.lst [])) := Ex.new hl
    have e1 : Ex H (upd (upd H l (.lst [])) t (.tup [.str "abcdefghijklmnopqrstuvwxyz", .ref l])) := e0.trans (Ex.new ht)
    have hl1 : (upd (upd H l (.lst [])) t (.tup [.str "abcdefghijklmnopqrstuvwxyz", .ref l])) l = some (.lst []) := by
      rw [upd_ne (ne_of_none upd_same ht)]
      exact upd_same
    generalize hG1 : upd (upd H l (.lst [])) t (.tup [.str "abcdefghijklmnopqrstuvwxyz", .ref l]) = H1 at e1 hl1
    -- for turn in range(1 + take(box, 6))
    refine ⟨_, rfl, b, 6, rfl, e1 _ _ hb, by decide, by decide, fun d6 H2 d60 d61 e2 => ⟨_, _, rfl, rfl, _, rfl, by omega, by omega, ?_⟩⟩
    refine for_range (lo := 0) (n := (1 + d6).toNat) (fun i σ' H' => Ex H H' ∧ ∃ xs S u v, σ' = [some (.ref b), some (.str "abcdefghijklmnopqrstuvwxyz"), some (.ref l), u, v, none, none, none, none] ∧ H' l = some (.lst xs) ∧ Dts K MT H' xs (S.map sgD) ∧ Good0 S ∧ S.length ≤ i ∧ (0 < i → 1 ≤ S.length))
      ⟨e1.trans e2, [], [], none, none, rfl, e2 _ _ hl1, .nil, ⟨by decide, fun _ h => (nomatch h), fun _ h => (nomatch h), List.nodup_nil⟩, Nat.le_refl _, fun h => absurd h (Nat.lt_irrefl _)⟩ ?_ ?_
    · rintro i σ' H3 hi ⟨e3, xs, S, u, v, rfl, hl3, dS, gS, lS, nS⟩
      have hb3 := e3 _ _ hb
      have hi6 : i < 6 := by omega
      -- the name
      refine q_asgP (K := K) (M := MF) (P := fun d => ∃ z, d = .str z ∧ NameOk z) ?_ fun vz dz H4 e4 dvz hz => ?_
      · refine (evp_join (PY := fun ys => (∀ y ∈ ys, ∃ c : Nat, y = ⟨#[c]⟩ ∧ 97 ≤ c ∧ c ≤ 122) ∧ 1 ≤ ys.length ∧ ys.length ≤ 3) ?_ fun ys hy => ?_).mono fun d ⟨ys, hy, e⟩ => ⟨_, e, ones_name hy.1 hy.2.1 hy.2.2⟩
        · refine (evp_lcR (PN := fun n => 1 ≤ n ∧ n ≤ 3) (fun _ => true) (fun _ d => ∃ c : Nat, d = .str ⟨#[c]⟩ ∧ 97 ≤ c ∧ c ≤ 122) okF ?_ (fun n hn => by omega) fun M' n j H' hm ok' pn hj e Qg qg => ?_).mono ?_
          · refine (evpa_cons (evp_I0 (P := fun d => ∃ n : Int, d = .int n ∧ 1 ≤ n ∧ n ≤ 3) evd_int (evp_take (ev_var rfl) hb3 evd_int (by decide) (by decide)) ?_) eva_nil).mono ?_
            · rintro a _ rfl ⟨k, rfl, k0, k1⟩
              exact ⟨1, k, rfl, rfl, _, ⟨1 + k, rfl, by omega, by omega⟩, fun _ => .int _⟩
            · rintro d ⟨a, ds, rfl, ⟨n, rfl, h⟩, rfl⟩
              exact ⟨n, rfl, h⟩
          · refine qg _ H' (Ex.refl _) ⟨rfl, evt_yes, fun _ => evp_op (evd_var rfl (.str _)) (evp_take (ev_var rfl) (e _ _ hb3) evd_int (by decide) (by decide)) fun x y a d H5 e5 dx dy px py Q q => ?_⟩
            obtain ⟨k, rfl, k0, k1⟩ := py
            subst px
            cases dx
            cases dy
            obtain ⟨c, hc, h⟩ := letter_at k0 k1
            exact ⟨_, k, c, rfl, rfl, letters_len, hc, q _ _ H5 (Ex.refl _) (.str _) ⟨c, rfl, h⟩⟩
          · rintro d ⟨n, es, pn, rfl, pr⟩
            rw [filter_yes] at pr
            have hlen := paired_len pr
            rw [List.length_range] at hlen
            have hm := paired_mem pr
            refine ⟨es.map fun d => match d with | .str z => z | _ => Str.empty, ?_, ?_, ?_, ?_⟩
            · congr 1
              rw [List.map_map]
              refine (List.map_id es).symm.trans (List.map_congr_left fun d hd => ?_)
              obtain ⟨_, _, c, rfl, _⟩ := hm d hd
              rfl
            · intro y hy
              obtain ⟨d, hd, rfl⟩ := List.mem_map.mp hy
              obtain ⟨_, _, c, rfl, h⟩ := hm d hd
              exact ⟨c, rfl, h⟩
            · rw [List.length_map]
              omega
            · rw [List.length_map]
              omega
        · have h1 : ∀ l : List Str, (∀ y ∈ l, ∃ c : Nat, y = ⟨#[c]⟩ ∧ 97 ≤ c ∧ c ≤ 122) → (l.map (·.length)).sum = l.length := by
            intro l
            induction l with
            | nil => intro _; rfl
            | cons y l ih =>
              intro h
              obtain ⟨c, rfl, _⟩ := h y List.mem_cons_self
              rw [List.map_cons, List.sum_cons, ih fun z hz => h z (List.mem_cons_of_mem _ hz), List.length_cons]
              show 1 + l.length = _
              omega
          rw [h1 ys hy.1]
          omega
      · obtain ⟨z, rfl, hz⟩ := hz
        cases dvz
        have hl4 := e4 _ _ hl3
        have dS4 := dS.ex e4
        have hb4 := e4 _ _ hb3
        -- if name not in [one for one, kids in found]
        refine s_when (evt_test (K := K) (M := MF) (evd_notInS (ys := S.map (·.1)) (evd_var rfl (.str z)) ?_)) (fun hn H5 e5 => ?_) (fun hn H5 e5 => ?_)
        · refine (evd_lcL (fun _ => true) (fun d => .str (sgU d).1) okF (evd_var rfl (.lst hl4 (fun h => h) dS4.flat)) (by rw [List.length_map]; exact Nat.lt_of_le_of_lt gS.len (by decide)) fun M' d x H' hm ok' hd e dx Qg qg => ?_).mono fun d h => ?_
          · obtain ⟨p, hp, rfl⟩ := List.mem_map.mp hd
            cases dx with
            | tup k1 k2 =>
              cases k2 with
              | cons r1 r2 =>
                cases r1
                cases r2 with
                | cons r3 r4 =>
                  cases r4
                  exact ⟨_, _, rfl, SqT.of k1, rfl, _, _, rfl, _, _, rfl, rfl, qg _ H' (Ex.refl _) ⟨rfl, evt_yes, fun _ => evd_var rfl (.str _)⟩⟩
          · rw [h, filter_yes, List.map_map, List.map_map]
            rfl
        · have hn' : z ∉ S.map (·.1) := by simpa using hn
          refine s_appP (K := K) (M := MT) (P := fun d => ∃ k : Int, d = .tuple [.str z, .int k] ∧ 0 ≤ k ∧ k < 3) (e5 _ _ hl4) rfl ?_ (Nat.lt_of_le_of_lt (by rw [dS.length, List.length_map]; exact gS.len) (by decide)) fun v d H6 e6 dv hd => ?_
          · refine (evp_tup (evpa_cons (evd_var rfl (.str z)) (evpa_cons (evp_take (ev_var rfl) (e5 _ _ hb4) evd_int (by decide) (by decide)) eva_nil)) ?_).mono ?_
            · rintro ds ⟨a, ds, rfl, rfl, c, ds', rfl, _, rfl⟩
              show 2 ≤ sizeLine
              decide
            · rintro d ⟨ds, rfl, a, ds, rfl, rfl, c, ds', rfl, ⟨k, rfl, h⟩, rfl⟩
              exact ⟨k, rfl, h⟩
          · obtain ⟨k, rfl, k0, k1⟩ := hd
            have hl6 := (e5.trans e6) _ _ hl4
            refine ⟨Ex.mut ((e3.trans e4).trans (e5.trans e6)) hl, xs ++ [v], S ++ [(z, k)], _, _, rfl, upd_same, ?_, gS.add (by omega) hz ⟨k0, by omega⟩ hn', ?_, fun _ => ?_⟩
            · rw [List.map_append]
              exact ((dS4.ex (e5.trans e6)).append (.one dv)).upd hl6 trivial
            · rw [List.length_append]
              exact Nat.succ_le_succ lS
            · rw [List.length_append]
              exact Nat.le_add_left _ _
        · have hn' : z ∈ S.map (·.1) := by simpa using hn
          refine ⟨(e3.trans e4).trans e5, xs, S, _, _, rfl, e5 _ _ hl4, dS4.ex e5, gS, Nat.le_succ_of_le lS, fun _ => ?_⟩
          obtain ⟨p, hp, _⟩ := List.mem_map.mp hn'
          exact List.length_pos_of_mem hp
    · rintro σ' H3 ⟨e3, xs, S, u, v, rfl, hl3, dS, gS, lS, nS⟩
      have ne : 1 ≤ S.length := nS (by omega)
      have hb3 := e3 _ _ hb
      -- spot
      refine q_asgP (K := K) (M := MF) (evp_take (n := ((S.map sgD).length : Int)) (ev_var rfl) hb3 (evd_lenL (eva_cons (evd_var rfl (.lst hl3 (fun h => h) dS.flat)) eva_nil)) (by rw [List.length_map]; omega) (by rw [List.length_map]; exact Nat.lt_of_le_of_lt (show ((S.length : Nat) : Int).natAbs ≤ 6 by have := gS.len; omega) (by decide))) fun vz dz H4 e4 dvz hz => ?_
      obtain ⟨k, rfl, k0, k1⟩ := hz
      cases dvz
      rw [List.length_map] at k1
      obtain ⟨j, rfl⟩ := Int.eq_ofNat_of_zero_le k0
      have hj : j < S.length := by omega
      have hl4 := e4 _ _ hl3
      have dS4 := dS.ex e4
      have e04 := e3.trans e4
      -- min
      refine EvP.test (K := K) (M := MF) (PB := fun b => (b = true → ∀ p ∈ S, 0 < p.2) ∧ (b = false → ∃ p ∈ S, p.2 = 0)) ?_ fun c H5 e5 hc => ?_
      · refine (evp_cmp (g := fun i j => decide (j < i)) (evp_min (ns := S.map (·.2)) (eva_cons ?_ eva_nil) (by rw [List.length_map]; exact ne)) evd_int (fun a ⟨m, e, _⟩ => ⟨m, e⟩) (fun a e => ⟨0, e⟩)).mono ?_
        · refine (evd_lcL (fun _ => true) (fun d => .int (sgU d).2) okF (evd_var rfl (.lst hl4 (fun h => h) dS4.flat)) (by rw [List.length_map]; exact Nat.lt_of_le_of_lt gS.len (by decide)) fun M' d x H' hm ok' hd e dx Qg qg => ?_).mono fun d h => ?_
          · obtain ⟨p, hp, rfl⟩ := List.mem_map.mp hd
            cases dx with
            | tup k1 k2 =>
              cases k2 with
              | cons r1 r2 =>
                cases r1
                cases r2 with
                | cons r3 r4 =>
                  cases r4
                  cases r3
                  exact ⟨_, _, rfl, SqT.of k1, rfl, _, _, rfl, _, _, rfl, rfl, qg _ H' (Ex.refl _) ⟨rfl, evt_yes, fun _ => evd_var rfl (.int _)⟩⟩
          · rw [h, filter_yes, List.map_map, List.map_map]
            rfl
        · rintro d ⟨m, z, ⟨m', em, hm, hall⟩, ez, rfl⟩
          cases em
          cases ez
          refine ⟨_, rfl, fun h p hp => ?_, fun h => ?_⟩
          · have h1 : 0 < m := of_decide_eq_true h
            exact Int.lt_of_lt_of_le h1 (hall _ (List.mem_map_of_mem hp))
          · have h1 : ¬ 0 < m := of_decide_eq_false h
            obtain ⟨p, hp, rfl⟩ := List.mem_map.mp hm
            exact ⟨p, hp, by have := (gS.kids p hp).1; omega⟩
      · have hl5 := e5 _ _ hl4
        have dS5 := dS4.ex e5
        cases c with
        | true =>
          have hjl : j < xs.length := by rw [dS.length, List.length_map]; exact hj
          have hSj : S[j]? = some S[j] := List.getElem?_eq_getElem hj
          refine iteT (s_setP (K := K) (M := MT) (P := (· = sgD (S[j].1, 0))) (j := j) hl5 rfl rfl hjl ?_ fun v d H6 e6 dv hd => ?_)
          · obtain ⟨vj, hvj, dvj⟩ := dS5.at (i := j) (d := sgD S[j]) (by rw [List.getElem?_map, hSj]; rfl)
            exact evd_tup (ds := [.str S[j].1, .int 0]) (eva_cons (evd_ixT (j := 0) (ds := [.str S[j].1, .int S[j].2]) (evd_of (ev_op (ev_var rfl) (ev_var rfl) (rv_ixL (sq_of hl5) (atI_nat hvj))) dvj) evd_int rfl rfl) (eva_cons evd_int eva_nil)) (by show 2 ≤ sizeLine; decide)
          · subst hd
            refine ⟨_, rfl, q l _ (S.set j (S[j].1, 0)) _ (gS.zero hSj) (Ex.mut ((e04.trans e5).trans e6) hl) hl upd_same ?_⟩
            rw [List.map_set]
            exact ((dS5.ex e6).set j dv).upd (e6 _ _ hl5) trivial
        | false =>
          exact iteF ⟨_, rfl, q l xs S H5 ⟨gS, ne, hc.2 rfl⟩ (e04.trans e5) hl hl5 dS5⟩
end
end TH
set_option maxRecDepth 100000
set_option maxHeartbeats 4000000
namespace TH
open PySem L2 Evl
/-- a method that keeps its promise -/
def OneM (P : Program) (w : World) (K : PySem.W.Frag) (mg : Str → Option Value) (base : Heap) (C : Addr) (m : Str) (k : Nat) (ps : List Str) (sp : Sp) : Prop :=
  ∃ (f : Addr) (fd : FuncData), Meth K C m f ∧ FnOk P w K mg base CX0 k f fd ps sp ∧ Binds K fd ps []
/-- a def that keeps its promise -/
def OneF (P : Program) (w : World) (K : PySem.W.Frag) (mg : Str → Option Value) (base : Heap) (x : Str) (k : Nat) (ps : List Str) (sp : Sp) : Prop :=
  ∃ (f : Addr) (fd : FuncData), mg x = some (.ref f) ∧ PySem.W.keepIn K (.ref f) = true ∧ FnOk P w K mg base CX0 k f fd ps sp ∧ Binds K fd ps []
end TH
set_option maxRecDepth 100000
set_option maxHeartbeats 4000000
namespace TH
open PySem L2 Evl LamX
/-! ### what stays where a lambda is made -/
section
variable {K : PySem.W.Frag} {M : Addr → Prop} {H H1 H' : Hp} {C CN p : Addr} {S T : List Sg} {σ : L2.St} {ta : TE} {E : XK} {Q : VK}
theorem extn_sqt {a : Addr} {xs : List V} (e : ExtN H H') (h : SqT K H a xs) : SqT K H' a xs := by
  rcases h with (h | ⟨u, h⟩) | h
  · exact .inl (.inl (e _ _ h fun ps z => by cases z))
  · exact .inl (.inr ⟨u, e _ _ h fun ps z => by cases z⟩)
  · exact .inr h
theorem extn_sql {a : Addr} {xs : List V} (e : ExtN H H') (h : SqL K H a xs) : SqL K H' a xs := by
  rcases h with (h | ⟨u, h⟩) | h
  · exact .inl (.inl (e _ _ h fun ps z => by cases z))
  · exact .inl (.inr ⟨u, e _ _ h fun ps z => by cases z⟩)
  · exact .inr h
theorem dt_extn {v : V} {d : PyData} (h : Dt K M H v d) (e : ExtN H H') : Dt K M H' v d :=
  Dt.move (fun a xs h n => ⟨e _ _ h (fun ps z => by cases z), n⟩) (fun a xs h => e _ _ h (fun ps z => by cases z)) d v h
theorem book_extn (h : BookAt C M H p S) (e : ExtN H H') : BookAt C M H' p S := by
  obtain ⟨dx, l1, l2, h1, h2, h3, h4, h5⟩ := h
  exact ⟨dx, l1, l2, e _ _ h1 (fun ps z => by cases z), e _ _ h2 (fun ps z => by cases z), h3, e _ _ h4 (fun ps z => by cases z), h5⟩
theorem box_extn {b : Addr} (h : H b = some (Box b)) (e : ExtN H H') : H' b = some (Box b) := e _ _ h fun ps z => by
  unfold Box at z
  cases z
theorem ok_extn (h : Ok M H) (hm : ∀ l, M l → ∃ xs, H l = some (.lst xs)) (e : ExtN H H') : Ok M H' := fun l m => by
  obtain ⟨xs, hx⟩ := hm l m
  rw [e _ _ hx (fun ps z => by cases z)]
  simp
/-- Book(..) of a list that is a book, of one that is none -/
theorem made_ex {x dx : Addr} (h1 : H x = none) (h2 : H dx = none) (hne : dx ≠ x) : Ex H (upd (upd H dx (.own x)) x (.ins C dx [])) :=
  (Ex.new h2).trans (Ex.new (by rw [upd_ne hne.symm]; exact h1))
theorem make_book (ok : Ok M H) (h : EvD K M ta σ H (.list (S.map sgD))) (g : validB S = true) (hl : S.length ≤ 100) (hz : ∀ q ∈ S, q.1.length ≤ 100000)
    (q : ∀ x H', Ex H H' → BookAt C M H' x S → Q (.ref x) H') : tMake C (spInit K C CN) [] E (tCons ta tNil) σ H Q := by
  refine h H (Ex.refl H) _ fun v d H1 e1 dv pd x dx hx hdx hne => ?_
  subst pd
  have e2 : Ex H1 (upd (upd H1 dx (.own x)) x (.ins C dx [])) := made_ex hx hdx hne
  refine ⟨M, x, dx, v, S, ok.ex (e1.trans e2), rfl, upd_same, dv.ex e2, hl, hz, fun _ H' hB hk => ⟨rfl, q x H' (e1.trans fun b o hb => ?_) hB⟩, fun g' => by rw [g] at g'; cases g'⟩
  exact hk b o (e2 b o hb) (ne_of_none hb hx)
theorem make_none (ok : Ok M H) (h : EvD K M ta σ H (.list (S.map sgD))) (g : validB S = false) (hl : S.length ≤ 100) (hz : ∀ q ∈ S, q.1.length ≤ 100000)
    (q : ∀ H', Ex H H' → E (.ref CN) none H') : tMake C (spInit K C CN) [] E (tCons ta tNil) σ H Q := by
  refine h H (Ex.refl H) _ fun v d H1 e1 dv pd x dx hx hdx hne => ?_
  subst pd
  have e2 : Ex H1 (upd (upd H1 dx (.own x)) x (.ins C dx [])) := made_ex hx hdx hne
  exact ⟨M, x, dx, v, S, ok.ex (e1.trans e2), rfl, upd_same, dv.ex e2, hl, hz, (fun g' => by rw [g] at g'; cases g'), fun _ H' e3 => q H' ((e1.trans e2).trans e3)⟩
/-! ### two lists that are the same -/
theorem lay_sgs : ∀ S : List Sg, (∀ q ∈ S, PyData.strOk q.1 = true) → PyData.canLayAll0 (S.map sgD) = true
  | [], _ => rfl
  | q :: S, h => by
    rw [List.map_cons, PyData.canLayAll0, lay_sgs S fun r hr => h r (List.mem_cons_of_mem _ hr)]
    have : (sgD q).canLay0 = true := by
      unfold sgD
      rw [PyData.canLay0, PyData.canLayAll0, PyData.canLay0, h q List.mem_cons_self, PyData.canLayAll0, PyData.canLay0, PyData.canLayAll0]
      rfl
    rw [this]
    rfl
theorem depth_sgs : ∀ S : List Sg, PyData.depthAll (S.map sgD) ≤ 1
  | [] => by show 0 ≤ 1; decide
  | q :: S => by
    rw [List.map_cons, PyData.depthAll]
    have h1 := depth_sgs S
    have h2 : (sgD q).depth = 1 := by
      unfold sgD
      rw [PyData.depth, PyData.depthAll, PyData.depth, PyData.depthAll, PyData.depth, PyData.depthAll]
      rfl
    rw [h2]
    exact Nat.max_le.mpr ⟨Nat.le_refl _, h1⟩
theorem shaped_sgs (h : ∀ q ∈ S, PyData.strOk q.1 = true) : SeqAt.shaped (.list (S.map sgD)) = true := by
  unfold SeqAt.shaped
  rw [PyData.canLay0, lay_sgs S h, PyData.depth, decide_eq_true (by have := depth_sgs S; omega)]
  rfl
theorem eqv_sgs (h : ∀ q ∈ S, PyData.strOk q.1 = true) : PyData.eqv (.list (S.map sgD)) (.list (S.map sgD)) = true :=
  SeqAt.eqv_refl _ (by rw [PyData.canLay0]; exact lay_sgs S h)
theorem like_same (S : List Sg) : (decide (S.map (·.1) = S.map (·.1)) && decide (S.map (·.2) = S.map (·.2))) = true := by simp
theorem like_other {S T : List Sg} (h : T ≠ S) : (decide (S.map (·.1) = T.map (·.1)) && decide (S.map (·.2) = T.map (·.2))) = false ∧ (decide (T.map (·.1) = S.map (·.1)) && decide (T.map (·.2) = S.map (·.2))) = false := by
  have key : ¬ (S.map (·.1) = T.map (·.1) ∧ S.map (·.2) = T.map (·.2)) := by
    rintro ⟨h1, h2⟩
    apply h
    have hl : S.length = T.length := by
      have := congrArg List.length h1
      rwa [List.length_map, List.length_map] at this
    refine List.ext_getElem hl.symm fun i hi hi' => ?_
    have a1 : (T.map (·.1))[i]? = (S.map (·.1))[i]? := by rw [h1]
    have a2 : (T.map (·.2))[i]? = (S.map (·.2))[i]? := by rw [h2]
    rw [List.getElem?_map, List.getElem?_map, List.getElem?_eq_getElem hi, List.getElem?_eq_getElem hi'] at a1 a2
    injection a1 with a1
    injection a2 with a2
    exact Prod.ext a1 a2
  constructor
  · rw [← Bool.not_eq_true, Bool.and_eq_true, decide_eq_true_eq, decide_eq_true_eq]
    exact key
  · rw [← Bool.not_eq_true, Bool.and_eq_true, decide_eq_true_eq, decide_eq_true_eq]
    exact fun z => key ⟨z.1.symm, z.2.symm⟩
theorem evd_listOf {ta : TA} {ds : List PyData} (ok : Ok M H) (h : EvDA K M ta σ H [.list ds]) : EvD K M (tCB (fun xs H Q => ∃ p ys, xs = [.ref p] ∧ (SqL K H p ys ∨ SqT K H p ys) ∧ ∀ l, H l = none → Q (.ref l) (upd H l (.lst ys))) ta) σ H (.list ds) :=
  evp_cb h fun vs es H1 e dv pd Q q => by
    subst pd
    cases dv with
    | cons h1 h2 =>
      cases h2
      cases h1 with
      | lst k1 k2 k3 => exact ⟨_, _, rfl, .inl (sq_of k1), fun l hl => q _ _ _ (Ex.new hl) (.lst upd_same ((ok.ex e).new hl) (k3.ex (Ex.new hl))) rfl⟩
theorem q_asgR {te : TE} {i : Nat} {tz : TS} {D : Ends} (h : te σ H fun v H1 => tz D (σ.set i (some v)) H1) : tSeq (tAsg te (gName i)) tz D σ H := h
/-- the book's lists are not the list of signs -/
theorem book_apart {h : Addr} {xs : List V} {y : Addr} (hB : BookAt C MF H p S) (hh : H h = some (.lst xs)) (hy : xs[0]? = some (.ref y)) : BookAt C (· = h) H p S := by
  obtain ⟨dx, l1, l2, h1, h2, _, h4, _⟩ := hB
  refine ⟨dx, l1, l2, h1, h2, fun z => ?_, h4, fun z => ?_⟩
  · rw [z, hh] at h2
    injection h2 with h2
    injection h2 with h2
    rw [h2, List.getElem?_map] at hy
    cases hS : S[0]? with
    | none =>
      rw [hS] at hy
      cases hy
    | some q =>
      rw [hS] at hy
      cases hy
  · rw [z, hh] at h4
    injection h4 with h4
    injection h4 with h4
    rw [h4, List.getElem?_map] at hy
    cases hS : S[0]? with
    | none =>
      rw [hS] at hy
      cases hy
    | some q =>
      rw [hS] at hy
      cases hy
end
end TH
set_option maxRecDepth 100000
set_option maxHeartbeats 4000000
namespace TH
open PySem L2 Evl
/-! ### which lists are books -/
theorem ca : ("a" : Str).cps.toList = [97] := by decide +kernel
theorem cz : ("z" : Str).cps.toList = [122] := by decide +kernel
theorem okc_iff (c : Nat) : okc c = true ↔ 97 ≤ c ∧ c ≤ 122 := by
  unfold okc
  rw [ca, cz]
  simp only [Bool.and_eq_true, Bool.not_eq_true', decide_eq_false_iff_not, List.cons_lt_cons_iff, List.not_lt_nil, and_false, or_false]
  omega
theorem nameB_iff (z : Str) : isNameB z = true ↔ NameOk z := by
  unfold isNameB
  simp only [Bool.and_eq_true, decide_eq_true_eq, List.all_eq_true, okc_iff]
  constructor
  · rintro ⟨⟨h1, h2⟩, h3⟩
    exact ⟨by omega, by omega, h3⟩
  · rintro ⟨h1, h2, h3⟩
    exact ⟨⟨by omega, by omega⟩, h3⟩
theorem nodup_key (S : List Sg) : (S.map fun p => (Sum.inr p.1 : Key)).Nodup ↔ (S.map (·.1)).Nodup := by
  have e : (S.map fun p => (Sum.inr p.1 : Key)) = (S.map (·.1)).map Sum.inr := by rw [List.map_map]; rfl
  rw [e]
  constructor
  · intro h
    exact List.Pairwise.of_map Sum.inr (fun a b hab e => hab (by rw [e])) h
  · intro h
    exact List.Pairwise.map _ (fun a b hab e => hab (Sum.inr.inj e)) h
theorem valid_split (S : List Sg) : validB S = true ↔ (1 ≤ S.length ∧ S.length ≤ 6) ∧ (∀ p ∈ S, isSignB p = true) ∧ (S.map (·.1)).Nodup ∧ ∃ p ∈ S, p.2 = 0 := by
  unfold validB
  have h := sall_lt (S.map fun p => (Sum.inr p.1 : Key))
  rw [List.length_map] at h
  have h2 : ((sall (S.map fun p => (Sum.inr p.1 : Key))).2 : Int) < (S.length : Int) ↔ ¬ (S.map (·.1)).Nodup := by
    rw [← nodup_key, ← h]
    exact Int.ofNat_lt
  simp only [Bool.and_eq_true, decide_eq_true_eq, List.all_eq_true, Bool.not_eq_true', decide_eq_false_iff_not, List.any_eq_true]
  rw [h2, Classical.not_not]
  constructor
  · rintro ⟨⟨a, b⟩, c, d, e⟩
    exact ⟨⟨by omega, by omega⟩, c, d, e⟩
  · rintro ⟨⟨a, b⟩, c, d, e⟩
    exact ⟨⟨by omega, by omega⟩, c, d, e⟩
theorem sign_iff (p : Sg) : isSignB p = true ↔ NameOk p.1 ∧ 0 ≤ p.2 ∧ p.2 ≤ 2 := by
  unfold isSignB
  simp only [Bool.and_eq_true, decide_eq_true_eq, nameB_iff]
theorem valid_good {S : List Sg} (h : Good S) : validB S = true := by
  rw [valid_split]
  exact ⟨⟨h.ne, h.len⟩, fun p hp => (sign_iff p).mpr ⟨h.name p hp, h.kids p hp⟩, h.nd, h.leaf⟩
theorem bad_of {S : List Sg} (h : ¬ ((1 ≤ S.length ∧ S.length ≤ 6) ∧ (∀ p ∈ S, isSignB p = true) ∧ (S.map (·.1)).Nodup ∧ ∃ p ∈ S, p.2 = 0)) : validB S = false := by
  rw [← Bool.not_eq_true, valid_split]
  exact h
theorem bad_sign {S : List Sg} {p : Sg} (hp : p ∈ S) (h : ¬ (NameOk p.1 ∧ 0 ≤ p.2 ∧ p.2 ≤ 2)) : validB S = false :=
  bad_of fun z => h ((sign_iff p).mp (z.2.1 p hp))
/-- what may be told again and held against another -/
structure Sane (S : List Sg) : Prop where
  len : S.length ≤ 100
  name : ∀ q ∈ S, q.1.length ≤ 1000
  ok : ∀ q ∈ S, PyData.strOk q.1 = true
theorem strOk_iff (z : Str) : PyData.strOk z = true ↔ ∀ c ∈ z.cps.toList, c < 0x110000 := by
  unfold PyData.strOk
  rw [← Array.all_toList, List.all_eq_true]
  simp only [decide_eq_true_eq]
theorem NameOk.strOk {z : Str} (h : NameOk z) : PyData.strOk z = true := by
  rw [strOk_iff]
  intro c hc
  have := (h.az c hc).2
  omega
theorem Good0.sane {S : List Sg} (h : Good0 S) : Sane S :=
  ⟨Nat.le_trans h.len (by decide), fun q hq => Nat.le_trans (h.name q hq).hi (by decide), fun q hq => (h.name q hq).strOk⟩
theorem Sane.append {S T : List Sg} (h : Sane S) (k : Sane T) (hl : S.length + T.length ≤ 100) : Sane (S ++ T) :=
  ⟨by rw [List.length_append]; exact hl, fun q hq => (List.mem_append.mp hq).elim (h.name q) (k.name q), fun q hq => (List.mem_append.mp hq).elim (h.ok q) (k.ok q)⟩
theorem Sane.sub {S T : List Sg} (h : Sane S) (hs : ∀ q ∈ T, q ∈ S) (hl : T.length ≤ 100) : Sane T := ⟨hl, fun q hq => h.name q (hs q hq), fun q hq => h.ok q (hs q hq)⟩
theorem Sane.one {q : Sg} (h1 : q.1.length ≤ 1000) (h2 : PyData.strOk q.1 = true) : Sane [q] :=
  ⟨by show 1 ≤ 100; decide, fun r hr => by rw [List.mem_singleton.mp hr]; exact h1, fun r hr => by rw [List.mem_singleton.mp hr]; exact h2⟩
/-- one sign of the list otherwise -/
def bent (S : List Sg) (j : Nat) (q : Sg) : List Sg := S.take j ++ [q] ++ S.drop (j + 1)
theorem bent_mem (S : List Sg) (j : Nat) (q : Sg) : q ∈ bent S j q := by
  unfold bent
  exact List.mem_append_left _ (List.mem_append_right _ (List.mem_singleton.mpr rfl))
theorem Sane.bent {S : List Sg} {j : Nat} {q : Sg} (h : Sane S) (hl : S.length ≤ 50) (h1 : q.1.length ≤ 1000) (h2 : PyData.strOk q.1 = true) : Sane (bent S j q) := by
  have h3 := Sane.one h1 h2
  unfold TH.bent
  have l1 : (S.take j).length ≤ 50 := Nat.le_trans (by rw [List.length_take]; exact Nat.min_le_right _ _) hl
  have l2 : (S.drop (j + 1)).length ≤ 49 := by rw [List.length_drop]; omega
  refine ((h.sub (fun q hq => List.mem_of_mem_take hq) (by omega)).append h3 ?_).append (h.sub (fun q hq => List.mem_of_mem_drop hq) (by omega)) ?_
  · show (S.take j).length + 1 ≤ 100
    omega
  · rw [List.length_append]
    show (S.take j).length + 1 + (S.drop (j + 1)).length ≤ 100
    omega
/-- parts of lists -/
theorem cutG_take {α : Type} (xs : List α) (j : Nat) : cutG xs none (some (j : Int)) = xs.take j := by
  unfold cutG
  rw [HT.sIx_none, HT.sIx_nat, List.drop_zero, Nat.sub_zero, List.take_eq_take_min]
  rw [Nat.min_assoc, Nat.min_self, ← List.take_eq_take_min]
theorem cutG_drop {α : Type} (xs : List α) (j : Nat) : cutG xs (some (j : Int)) none = xs.drop j := by
  unfold cutG
  rw [HT.sIx_none, HT.sIx_nat]
  by_cases h : j ≤ xs.length
  · rw [Nat.min_eq_left h]
    exact List.take_of_length_le (by rw [List.length_drop]; omega)
  · rw [Nat.min_eq_right (by omega), List.drop_eq_nil_of_le (Nat.le_refl _), List.drop_eq_nil_of_le (by omega), List.take_nil]
theorem cutS_len (z : Str) (lo hi : Option Int) : (cutS z lo hi).length ≤ z.length := by
  show (cutS z lo hi).cps.size ≤ _
  unfold cutS
  rw [List.size_toArray, List.length_take, List.length_drop, Array.length_toList]
  show _ ≤ z.cps.size
  omega
theorem cutS_mem (z : Str) (lo hi : Option Int) : ∀ c ∈ (cutS z lo hi).cps.toList, c ∈ z.cps.toList := by
  intro c hc
  exact List.mem_of_mem_drop (List.mem_of_mem_take hc)
theorem app_len (x y : Str) : (x ++ y).length = x.length + y.length := by
  show (x ++ y).cps.size = _
  rw [Str.cps_append, Array.size_append]
  rfl
theorem app_mem (x y : Str) (c : Nat) : c ∈ (x ++ y).cps.toList ↔ c ∈ x.cps.toList ∨ c ∈ y.cps.toList := by
  rw [Str.cps_append, Array.toList_append, List.mem_append]
theorem strOk_app {x y : Str} (h : PyData.strOk x = true) (k : PyData.strOk y = true) : PyData.strOk (x ++ y) = true := by
  rw [strOk_iff] at *
  intro c hc
  rcases (app_mem x y c).mp hc with hc | hc
  · exact h c hc
  · exact k c hc
theorem strOk_cut {x : Str} (lo hi : Option Int) (h : PyData.strOk x = true) : PyData.strOk (cutS x lo hi) = true := by
  rw [strOk_iff] at *
  exact fun c hc => h c (cutS_mem x lo hi c hc)
end TH
namespace TH
/-! ### trees, their rows, their sizes -/
inductive Tr where
  | n0 (s : Nat)
  | n1 (s : Nat) (t : Tr)
  | n2 (s : Nat) (t u : Tr)
  deriving DecidableEq
namespace Tr
def root : Tr → Nat
  | n0 s => s
  | n1 s _ => s
  | n2 s _ _ => s
def kids : Tr → List Tr
  | n0 _ => []
  | n1 _ t => [t]
  | n2 _ t u => [t, u]
def row : Tr → List Nat
  | n0 s => [s]
  | n1 s t => s :: row t
  | n2 s t u => s :: (row t ++ row u)
def rowF (ts : List Tr) : List Nat := (ts.map row).flatten
def size (t : Tr) : Nat := t.row.length
def sizeF (ts : List Tr) : Nat := (rowF ts).length
def sizes : Tr → List Nat
  | n0 _ => [1]
  | n1 s t => (1 + size t) :: sizes t
  | n2 s t u => (1 + (size t + size u)) :: (sizes t ++ sizes u)
def sizesF (ts : List Tr) : List Nat := (ts.map sizes).flatten
theorem rowF_nil : rowF [] = [] := rfl
theorem rowF_cons (t : Tr) (ts : List Tr) : rowF (t :: ts) = t.row ++ rowF ts := by
  unfold rowF
  rw [List.map_cons, List.flatten_cons]
theorem rowF_app (ts us : List Tr) : rowF (ts ++ us) = rowF ts ++ rowF us := by
  unfold rowF
  rw [List.map_append, List.flatten_append]
theorem sizesF_cons (t : Tr) (ts : List Tr) : sizesF (t :: ts) = t.sizes ++ sizesF ts := by
  unfold sizesF
  rw [List.map_cons, List.flatten_cons]
theorem sizesF_app (ts us : List Tr) : sizesF (ts ++ us) = sizesF ts ++ sizesF us := by
  unfold sizesF
  rw [List.map_append, List.flatten_append]
theorem sizeF_cons (t : Tr) (ts : List Tr) : sizeF (t :: ts) = t.size + sizeF ts := by
  unfold sizeF size
  rw [rowF_cons, List.length_append]
theorem sizeF_app (ts us : List Tr) : sizeF (ts ++ us) = sizeF ts + sizeF us := by
  unfold sizeF
  rw [rowF_app, List.length_append]
theorem sizeF_nil : sizeF [] = 0 := rfl
theorem row_eq (t : Tr) : t.row = t.root :: rowF t.kids := by
  cases t with
  | n0 s => rfl
  | n1 s t => show s :: row t = s :: rowF [t]; rw [rowF_cons, rowF_nil, List.append_nil]
  | n2 s t u => show s :: (row t ++ row u) = s :: rowF [t, u]; rw [rowF_cons, rowF_cons, rowF_nil, List.append_nil]
theorem size_eq (t : Tr) : t.size = 1 + sizeF t.kids := by
  unfold size sizeF
  rw [row_eq, List.length_cons, Nat.add_comm]
theorem sizes_eq (t : Tr) : t.sizes = t.size :: sizesF t.kids := by
  cases t with
  | n0 s => rfl
  | n1 s t => 
    rw [size_eq]
    show (1 + size t) :: sizes t = (1 + sizeF [t]) :: sizesF [t]
    rw [sizeF_cons, sizesF_cons]
    show _ = (1 + (t.size + 0)) :: (t.sizes ++ [])
    rw [List.append_nil, Nat.add_zero]
  | n2 s t u => 
    rw [size_eq]
    show (1 + (size t + size u)) :: (sizes t ++ sizes u) = (1 + sizeF [t, u]) :: sizesF [t, u]
    rw [sizeF_cons, sizesF_cons, sizeF_cons, sizesF_cons]
    show _ = (1 + (t.size + (u.size + 0))) :: (t.sizes ++ (u.sizes ++ []))
    rw [List.append_nil, Nat.add_zero]
theorem kids_le (t : Tr) : t.kids.length ≤ 2 := by
  cases t with
  | n0 s => exact Nat.zero_le _
  | n1 s t => exact Nat.le_succ _
  | n2 s t u => exact Nat.le_refl _
theorem size_pos (t : Tr) : 0 < t.size := by
  rw [size_eq]
  omega
/-- an induction by kids -/
theorem ind {P : Tr → Prop} (h : ∀ t, (∀ k ∈ t.kids, P k) → P t) : ∀ t, P t
  | n0 s => h _ fun k hk => nomatch hk
  | n1 s t => by
    have h1 := ind h t
    refine h _ fun k hk => ?_
    rw [List.mem_singleton.mp hk]
    exact h1
  | n2 s t u => by
    have h1 := ind h t
    have h2 := ind h u
    refine h _ fun k hk => ?_
    rcases List.mem_cons.mp hk with hk | hk
    · rw [hk]
      exact h1
    · rw [List.mem_singleton.mp hk]
      exact h2
theorem sizes_len : ∀ t : Tr, t.sizes.length = t.size
  | n0 s => rfl
  | n1 s t => by
    rw [sizes_eq, List.length_cons, size_eq]
    show (sizesF [t]).length + 1 = 1 + sizeF [t]
    rw [sizesF_cons, sizeF_cons, List.length_append, sizes_len t]
    show t.size + 0 + 1 = 1 + (t.size + 0)
    omega
  | n2 s t u => by
    rw [sizes_eq, List.length_cons, size_eq]
    show (sizesF [t, u]).length + 1 = 1 + sizeF [t, u]
    rw [sizesF_cons, sizeF_cons, List.length_append, sizes_len t, sizesF_cons, sizeF_cons, List.length_append, sizes_len u]
    show t.size + (u.size + 0) + 1 = 1 + (t.size + (u.size + 0))
    omega
theorem sizesF_len (ts : List Tr) : (sizesF ts).length = sizeF ts := by
  induction ts with
  | nil => rfl
  | cons t ts ih => rw [sizesF_cons, sizeF_cons, List.length_append, ih, sizes_len]
/-- where the j-th of them begins -/
theorem sizesF_at {ts : List Tr} {j : Nat} {u : Tr} (h : ts[j]? = some u) (r : List Nat) : (sizesF ts ++ r)[sizeF (ts.take j)]? = some u.size := by
  induction ts generalizing j with
  | nil => cases h
  | cons t ts ih =>
    cases j with
    | zero =>
      have h : some t = some u := h
      cases h
      rw [sizesF_cons, sizes_eq]
      rfl
    | succ j =>
      have h : ts[j]? = some u := h
      rw [List.take_succ_cons, sizeF_cons, sizesF_cons, List.append_assoc, List.getElem?_append_right (by rw [sizes_len]; omega), sizes_len, Nat.add_sub_cancel_left]
      exact ih h
theorem take_snoc {α : Type} {ts : List α} {j : Nat} {u : α} (h : ts[j]? = some u) : ts.take (j + 1) = ts.take j ++ [u] := by
  rw [List.take_add_one, h]
  rfl
theorem sizeF_take {ts : List Tr} {j : Nat} {u : Tr} (h : ts[j]? = some u) : sizeF (ts.take (j + 1)) = sizeF (ts.take j) + u.size := by
  rw [take_snoc h, sizeF_app, sizeF_cons, sizeF_nil, Nat.add_zero]
theorem rowF_drop {ts : List Tr} {j : Nat} : (rowF ts).drop (sizeF (ts.take j)) = rowF (ts.drop j) := by
  have e : rowF ts = rowF (ts.take j) ++ rowF (ts.drop j) := by rw [← rowF_app, List.take_append_drop]
  rw [e]
  exact List.drop_left
/-! ### what is left of a wood from the n-th sign on -/
def next : List Tr → List Tr
  | [] => []
  | t :: ts => t.kids ++ ts
def suf : Nat → List Tr → List Tr
  | 0, ts => ts
  | n + 1, ts => suf n (next ts)
theorem rowF_next (ts : List Tr) : rowF (next ts) = (rowF ts).drop 1 := by
  cases ts with
  | nil => rfl
  | cons t ts =>
    show rowF (t.kids ++ ts) = _
    rw [rowF_app, rowF_cons, row_eq]
    rfl
theorem rowF_suf (n : Nat) : ∀ ts : List Tr, rowF (suf n ts) = (rowF ts).drop n := by
  induction n with
  | zero => intro ts; rfl
  | succ n ih =>
    intro ts
    show rowF (suf n (next ts)) = _
    rw [ih, rowF_next, List.drop_drop, Nat.add_comm]
theorem suf_succ (n : Nat) : ∀ ts : List Tr, suf (n + 1) ts = next (suf n ts) := by
  induction n with
  | zero => intro ts; rfl
  | succ n ih =>
    intro ts
    show suf (n + 1) (next ts) = next (suf n (next ts))
    exact ih _
theorem suf_add (m n : Nat) (ts : List Tr) : suf (m + n) ts = suf n (suf m ts) := by
  induction n with
  | zero => rfl
  | succ n ih => rw [← Nat.add_assoc, suf_succ, suf_succ, ih]
theorem rowF_empty {ts : List Tr} : rowF ts = [] ↔ ts = [] := by
  cases ts with
  | nil => exact ⟨fun _ => rfl, fun _ => rfl⟩
  | cons t ts =>
    rw [rowF_cons, row_eq]
    exact ⟨fun h => by simp at h, fun h => by simp at h⟩
theorem suf_nil {n : Nat} {ts : List Tr} : suf n ts = [] ↔ sizeF ts ≤ n := by
  rw [← rowF_empty, rowF_suf, List.drop_eq_nil_iff]
  rfl
theorem suf_cons {n : Nat} {ts : List Tr} (h : n < sizeF ts) : ∃ u us, suf n ts = u :: us ∧ (rowF ts)[n]? = some u.root := by
  cases e : suf n ts with
  | nil => exact absurd (suf_nil.mp e) (by omega)
  | cons u us =>
    refine ⟨u, us, rfl, ?_⟩
    have q := rowF_suf n ts
    rw [e, rowF_cons, row_eq] at q
    have q2 : ((rowF ts).drop n)[0]? = some u.root := by rw [← q]; rfl
    rwa [List.getElem?_drop, Nat.add_zero] at q2
theorem row_one (t : Tr) : rowF [t] = t.row := by rw [rowF_cons, rowF_nil, List.append_nil]
theorem size_one (t : Tr) : sizeF [t] = t.size := by rw [sizeF_cons, sizeF_nil, Nat.add_zero]
theorem sizes_one (t : Tr) : sizesF [t] = t.sizes := by rw [sizesF_cons]; exact List.append_nil _
/-- past the whole of a wood -/
theorem suf_app (ts us : List Tr) : suf (sizeF ts) (ts ++ us) = us := by
  have key : ∀ n : Nat, ∀ ts : List Tr, sizeF ts = n → suf n (ts ++ us) = us := by
    intro n
    induction n with
    | zero =>
      intro ts h
      have : ts = [] := by
        have := (suf_nil (n := 0) (ts := ts)).mpr (by omega)
        exact this
      rw [this]
      rfl
    | succ n ih =>
      intro ts h
      cases ts with
      | nil => rw [sizeF_nil] at h; omega
      | cons t ts =>
        show suf n (next (t :: (ts ++ us))) = us
        show suf n (t.kids ++ (ts ++ us)) = us
        rw [← List.append_assoc]
        refine ih _ ?_
        rw [sizeF_cons, size_eq] at h
        rw [sizeF_app]
        omega
  exact key _ ts rfl
theorem suf_in (n : Nat) : ∀ (ts us : List Tr), n ≤ sizeF ts → suf n (ts ++ us) = suf n ts ++ us := by
  induction n with
  | zero => intro ts us _; rfl
  | succ n ih =>
    intro ts us h
    cases ts with
    | nil => rw [sizeF_nil] at h; omega
    | cons t ts =>
      show suf n (t.kids ++ (ts ++ us)) = suf n (t.kids ++ ts) ++ us
      rw [← List.append_assoc]
      refine ih _ _ ?_
      rw [sizeF_cons, size_eq] at h
      rw [sizeF_app]
      omega
/-- the j-th kid of what stands at p -/
theorem suf_kid {n j : Nat} {ts us : List Tr} {u k : Tr} (h : suf n ts = u :: us) (hk : u.kids[j]? = some k) : suf (n + 1 + sizeF (u.kids.take j)) ts = k :: (u.kids.drop (j + 1) ++ us) := by
  rw [suf_add, suf_succ, h]
  show suf (sizeF (u.kids.take j)) (u.kids ++ us) = _
  obtain ⟨hlt, e⟩ := List.getElem?_eq_some_iff.mp hk
  have e2 : u.kids ++ us = u.kids.take j ++ (u.kids.drop j ++ us) := by rw [← List.append_assoc, List.take_append_drop]
  rw [e2, suf_app, List.drop_eq_getElem_cons hlt, e]
  rfl
/-- a part's row within the whole one -/
theorem suf_row {n : Nat} {ts us : List Tr} {u : Tr} (h : suf n ts = u :: us) : ((rowF ts).drop n).take u.size = u.row ∧ n + u.size ≤ sizeF ts ∧ (rowF ts).drop (n + u.size) = rowF us := by
  have e : (rowF ts).drop n = u.row ++ rowF us := by rw [← rowF_suf, h, rowF_cons]
  have hl : (rowF ts).length - n = u.size + (rowF us).length := by
    have := congrArg List.length e
    rwa [List.length_drop, List.length_append] at this
  have hp := size_pos u
  refine ⟨by rw [e]; exact List.take_left, by unfold sizeF; omega, ?_⟩
  rw [← List.drop_drop, e]
  exact List.drop_left
theorem sizesF_next (ts : List Tr) : sizesF (next ts) = (sizesF ts).drop 1 := by
  cases ts with
  | nil => rfl
  | cons t ts =>
    show sizesF (t.kids ++ ts) = _
    rw [sizesF_app, sizesF_cons, sizes_eq]
    rfl
theorem sizesF_suf (n : Nat) : ∀ ts : List Tr, sizesF (suf n ts) = (sizesF ts).drop n := by
  induction n with
  | zero => intro ts; rfl
  | succ n ih =>
    intro ts
    show sizesF (suf n (next ts)) = _
    rw [ih, sizesF_next, List.drop_drop, Nat.add_comm]
theorem sizes_at {n : Nat} {t u : Tr} {us : List Tr} (h : suf n [t] = u :: us) : t.sizes[n]? = some u.size := by
  have q := sizesF_suf n [t]
  rw [h, sizes_one, sizesF_cons, sizes_eq u] at q
  have q2 : ((t.sizes).drop n)[0]? = some u.size := by rw [← q]; rfl
  rwa [List.getElem?_drop, Nat.add_zero] at q2
theorem row_at {n : Nat} {t u : Tr} {us : List Tr} (h : suf n [t] = u :: us) : t.row[n]? = some u.root := by
  have q := rowF_suf n [t]
  rw [h, row_one, rowF_cons, row_eq u] at q
  have q2 : ((t.row).drop n)[0]? = some u.root := by rw [← q]; rfl
  rwa [List.getElem?_drop, Nat.add_zero] at q2
/-! ### rows that are rows of trees -/
/-- the trees of a book: each sign with as many kids as the book says -/
def Ok (n : Nat) (ar : Nat → Nat) : Tr → Prop
  | n0 s => s < n ∧ ar s = 0
  | n1 s t => s < n ∧ ar s = 1 ∧ Ok n ar t
  | n2 s t u => s < n ∧ ar s = 2 ∧ Ok n ar t ∧ Ok n ar u
variable {n : Nat} {ar : Nat → Nat}
theorem Ok.root {t : Tr} (h : Ok n ar t) : t.root < n := by
  cases t with
  | n0 s => exact h.1
  | n1 s t => exact h.1
  | n2 s t u => exact h.1
theorem Ok.kids {t : Tr} (h : Ok n ar t) : ∀ k ∈ t.kids, Ok n ar k := by
  cases t with
  | n0 s => intro k hk; cases hk
  | n1 s t =>
    intro k hk
    rw [List.mem_singleton.mp hk]
    exact h.2.2
  | n2 s t u =>
    intro k hk
    rcases List.mem_cons.mp hk with rfl | hk
    · exact h.2.2.1
    · rw [List.mem_singleton.mp hk]
      exact h.2.2.2
theorem Ok.ark {t : Tr} (h : Ok n ar t) : ar t.root = t.kids.length := by
  cases t with
  | n0 s => exact h.2
  | n1 s t => exact h.2.1
  | n2 s t u => exact h.2.1
theorem okF_next {ts : List Tr} (h : ∀ t ∈ ts, Ok n ar t) : ∀ t ∈ next ts, Ok n ar t := by
  cases ts with
  | nil => exact h
  | cons t ts =>
    intro u hu
    rcases List.mem_append.mp hu with hu | hu
    · exact (h t List.mem_cons_self).kids u hu
    · exact h u (List.mem_cons_of_mem _ hu)
theorem okF_suf (m : Nat) : ∀ {ts : List Tr}, (∀ t ∈ ts, Ok n ar t) → ∀ t ∈ suf m ts, Ok n ar t := by
  induction m with
  | zero => intro ts h; exact h
  | succ m ih => intro ts h; exact ih (okF_next h)
/-- the count of trees that are due -/
def run (n : Nat) (ar : Nat → Nat) : Nat → List Nat → Option Nat
  | d, [] => some d
  | d, s :: r => if d = 0 then none else if s < n then run n ar (d - 1 + ar s) r else none
theorem run_app (r1 r2 : List Nat) : ∀ {d e : Nat}, run n ar d r1 = some e → run n ar d (r1 ++ r2) = run n ar e r2 := by
  induction r1 with
  | nil =>
    intro d e h
    cases h
    rfl
  | cons s r ih =>
    intro d e h
    rw [run] at h
    rw [List.cons_append, run]
    split at h
    · cases h
    · split at h
      · rename_i h1 h2
        rw [if_neg h1, if_pos h2]
        exact ih h
      · cases h
theorem run_snoc {r : List Nat} {d e s : Nat} (h : run n ar d r = some e) (he : 0 < e) (hs : s < n) : run n ar d (r ++ [s]) = some (e - 1 + ar s) := by
  rw [run_app r [s] h, run, if_neg (by omega), if_pos hs, run]
/-- a row without any due is the row of a tree -/
theorem run_wood (ha : ∀ s, ar s ≤ 2) : ∀ (r : List Nat) (d : Nat), run n ar d r = some 0 → ∃ ts : List Tr, ts.length = d ∧ (∀ t ∈ ts, Ok n ar t) ∧ rowF ts = r
  | [], d, h => by
    cases h
    exact ⟨[], rfl, fun t ht => (nomatch ht), rfl⟩
  | s :: r, d, h => by
    rw [run] at h
    split at h
    · cases h
    · split at h
      · rename_i h1 h2
        obtain ⟨ts, hl, ho, hr⟩ := run_wood ha r _ h
        have h3 := ha s
        rcases (show ar s = 0 ∨ ar s = 1 ∨ ar s = 2 by omega) with e | e | e
        · refine ⟨n0 s :: ts, by rw [List.length_cons]; omega, fun t ht => ?_, ?_⟩
          · rcases List.mem_cons.mp ht with rfl | ht
            · exact ⟨h2, e⟩
            · exact ho t ht
          · rw [rowF_cons, hr]
            rfl
        · match ts, hl, ho, hr with
          | a :: us, hl, ho, hr =>
            refine ⟨n1 s a :: us, by rw [List.length_cons] at hl ⊢; omega, fun t ht => ?_, ?_⟩
            · rcases List.mem_cons.mp ht with rfl | ht
              · exact ⟨h2, e, ho a List.mem_cons_self⟩
              · exact ho t (List.mem_cons_of_mem _ ht)
            · rw [rowF_cons] at hr ⊢
              rw [← hr]
              rfl
          | [], hl, _, _ => rw [List.length_nil] at hl; omega
        · match ts, hl, ho, hr with
          | a :: b :: us, hl, ho, hr =>
            refine ⟨n2 s a b :: us, by rw [List.length_cons, List.length_cons] at hl; rw [List.length_cons]; omega, fun t ht => ?_, ?_⟩
            · rcases List.mem_cons.mp ht with rfl | ht
              · exact ⟨h2, e, ho a List.mem_cons_self, ho b (List.mem_cons_of_mem _ List.mem_cons_self)⟩
              · exact ho t (List.mem_cons_of_mem _ (List.mem_cons_of_mem _ ht))
            · rw [rowF_cons, rowF_cons] at hr
              rw [rowF_cons, ← hr, row, List.cons_append, List.append_assoc]
          | [], hl, _, _ => rw [List.length_nil] at hl; omega
          | [_], hl, _, _ => rw [List.length_cons, List.length_nil] at hl; omega
      · cases h
theorem run_rowF : ∀ (m : Nat) (ts : List Tr), sizeF ts ≤ m → (∀ t ∈ ts, Ok n ar t) → run n ar ts.length (rowF ts) = some 0
  | m, [], _, _ => rfl
  | 0, t :: ts, hm, _ => by
    rw [sizeF_cons] at hm
    have := size_pos t
    omega
  | m + 1, t :: ts, hm, ho => by
    have ht := ho t List.mem_cons_self
    rw [rowF_cons, row_eq, List.cons_append, run, if_neg (by rw [List.length_cons]; omega), if_pos ht.root, ht.ark, ← rowF_app, List.length_cons]
    have e : ts.length + 1 - 1 + t.kids.length = (t.kids ++ ts).length := by rw [List.length_append]; omega
    rw [e]
    refine run_rowF m _ ?_ fun u hu => ?_
    · rw [sizeF_cons, size_eq] at hm
      rw [sizeF_app]
      omega
    · rcases List.mem_append.mp hu with hu | hu
      · exact ht.kids u hu
      · exact ho u (List.mem_cons_of_mem _ hu)
theorem run_row {t : Tr} (h : Ok n ar t) : run n ar 1 t.row = some 0 := by
  have := run_rowF (n := n) (ar := ar) _ [t] (Nat.le_refl _) fun u hu => by rw [List.mem_singleton.mp hu]; exact h
  rwa [row_one] at this
theorem run_tree (ha : ∀ s, ar s ≤ 2) {r : List Nat} (h : run n ar 1 r = some 0) : ∃ t, Ok n ar t ∧ t.row = r := by
  obtain ⟨ts, hl, ho, hr⟩ := run_wood ha r 1 h
  match ts, hl with
  | [t], _ => exact ⟨t, ho t List.mem_cons_self, by rw [← hr, row_one]⟩
theorem row_lt {t : Tr} (h : Ok n ar t) : ∀ s ∈ t.row, s < n := by
  intro s hs
  obtain ⟨j, hj⟩ := List.mem_iff_getElem?.mp hs
  have hlt : j < sizeF [t] := by
    rw [size_one]
    exact (List.getElem?_eq_some_iff.mp hj).1
  obtain ⟨u, us, e, er⟩ := suf_cons hlt
  rw [row_one, hj] at er
  cases er
  exact (okF_suf j (ts := [t]) (fun v hv => by rw [List.mem_singleton.mp hv]; exact h) u (by rw [e]; exact List.mem_cons_self)).root
end Tr
end TH
set_option maxRecDepth 100000
set_option maxHeartbeats 4000000
namespace TH
open PySem L2 Evl
abbrev sIsRow : Stmt := top 7
abbrev sIsTree : Stmt := top 8
abbrev sCheck : Stmt := top 9
abbrev sSizes : Stmt := top 10
/-! ### books and rows -/
/-- how many kids the j-th sign has -/
def ks (S : List Sg) (j : Nat) : Nat := match S[j]? with
  | some q => q.2.toNat
  | none => 0
def KidsOk (S : List Sg) : Prop := ∀ q ∈ S, 0 ≤ q.2 ∧ q.2 ≤ 2
theorem ks_of {S : List Sg} {j : Nat} {q : Sg} (h : S[j]? = some q) : ks S j = q.2.toNat := by
  unfold ks
  rw [h]
theorem ks_le {S : List Sg} (h : KidsOk S) (j : Nat) : ks S j ≤ 2 := by
  unfold ks
  split
  · rename_i q e
    have := h q (List.mem_of_getElem? e)
    omega
  · exact Nat.zero_le _
theorem Good.kidsOk {S : List Sg} (h : Good S) : KidsOk S := h.kids
abbrev OkT (S : List Sg) (t : Tr) : Prop := Tr.Ok S.length (ks S) t
/-- a tuple, a list of ints -/
def tupI (ns : List Int) : PyData := .tuple (ns.map PyData.int)
def ofN (r : List Nat) : List Int := r.map fun (s : Nat) => (s : Int)
theorem ofN_len (r : List Nat) : (ofN r).length = r.length := List.length_map _
theorem ofN_at {r : List Nat} {j s : Nat} (h : r[j]? = some s) : (ofN r)[j]? = some (s : Int) := by
  unfold ofN
  rw [List.getElem?_map, h]
  rfl
def rowD (t : Tr) : PyData := tupI (ofN t.row)
section
variable {K : PySem.W.Frag} {M M' : Addr → Prop} {H H1 H' : Hp} {σ : L2.St} {ta tb te tc : TE} {v : V} {ns : List Int}
theorem dt_tupS (h : Dt K M H v (tupI ns)) : ∃ a, v = .ref a ∧ H a = some (.tup (ns.map V.int)) := by
  unfold tupI at h
  cases h with
  | tup h1 h2 =>
    rw [h2.ints] at h1
    exact ⟨_, rfl, h1⟩
theorem dt_tup (h : Dt K M H v (tupI ns)) : ∃ a, v = .ref a ∧ SqT K H a (ns.map V.int) := by
  obtain ⟨a, e, h1⟩ := dt_tupS h
  exact ⟨a, e, SqT.of h1⟩
theorem dt_of_tup {a : Addr} (h : H a = some (.tup (ns.map V.int))) : Dt K M H (.ref a) (tupI ns) := .tup h (Dts.of_ints ns)
theorem dt_any (h : Dt K M H v (tupI ns)) : Dt K M' H v (tupI ns) := by
  obtain ⟨a, rfl, h1⟩ := dt_tupS h
  exact dt_of_tup h1
/-! ### the book asked -/
theorem evd_many {C p : Addr} {S : List Sg} {i : Nat} {E : XK} (hs : σ[i]? = some (some (.ref p))) (hB : BookAt C M H p S) : EvD K M' (tMeth C "many" (spMany C) [] E (tVar i) tNil) σ H (.int S.length) := fun H1 e Q q => by
  have h := hB.ex e
  have h' := h
  obtain ⟨dx, l1, l2, h1, _⟩ := h'
  exact ⟨_, hs, p, dx, _, rfl, h1, flds_no _ _ (by decide +kernel) (by decide +kernel), M, p, S, rfl, h, q _ _ H1 (Ex.refl _) (.int _) rfl⟩
theorem evd_has {C p : Addr} {S : List Sg} {i : Nat} {z : Int} {E : XK} (hs : σ[i]? = some (some (.ref p))) (hB : BookAt C M H p S) (ha : EvD K M' ta σ H (.int z)) :
    EvD K M' (tMeth C "has" (spHas C) [] E (tVar i) (tCons ta tNil)) σ H (.bool (decide (0 ≤ z) && decide (z < (S.length : Int)))) := fun H1 e Q q => by
  have h := hB.ex e
  have h' := h
  obtain ⟨dx, l1, l2, h1, _⟩ := h'
  refine ⟨_, hs, p, dx, _, rfl, h1, flds_no _ _ (by decide +kernel) (by decide +kernel), ha H1 e _ fun v d H2 e2 dv pd => ?_⟩
  subst pd
  cases dv
  exact ⟨M, p, S, z, rfl, h.ex e2, fun H3 e3 => q _ _ H3 (e2.trans e3) (.bl _) rfl⟩
theorem evd_kids {C p : Addr} {S : List Sg} {i j : Nat} {z : Int} {r : Sg} {E : XK} (hs : σ[i]? = some (some (.ref p))) (hB : BookAt C M H p S) (ha : EvD K M' ta σ H (.int z)) (hz : z = (j : Int)) (hj : S[j]? = some r) :
    EvD K M' (tMeth C "kids" (spKd C) [] E (tVar i) (tCons ta tNil)) σ H (.int r.2) := fun H1 e Q q => by
  have h := hB.ex e
  have h' := h
  obtain ⟨dx, l1, l2, h1, _⟩ := h'
  refine ⟨_, hs, p, dx, _, rfl, h1, flds_no _ _ (by decide +kernel) (by decide +kernel), ha H1 e _ fun v d H2 e2 dv pd => ?_⟩
  subst pd
  cases dv
  subst hz
  exact ⟨M, p, S, j, r, rfl, h.ex e2, hj, q _ _ H2 e2 (.int _) rfl⟩
end
structure BookK (P : Program) (w : World) (K : PySem.W.Frag) (mg : Str → Option Value) (base : Heap) (C : Addr) : Prop where
  T : BookT K mg C
  many : OneM P w K mg base C "many" 1 ["self"] (spMany C)
  kids : OneM P w K mg base C "kids" 1 ["self", "sign"] (spKd C)
/-! ### is_row -/
def runB (S : List Sg) : Nat → List Int → Bool
  | d, [] => decide (d = 0)
  | d, z :: r => if d = 0 then false else if 0 ≤ z ∧ z < S.length then runB S (d - 1 + ks S z.toNat) r else false
theorem runB_run {S : List Sg} : ∀ (r : List Nat) (d : Nat), runB S d (ofN r) = decide (Tr.run S.length (ks S) d r = some 0)
  | [], d => by
    show decide (d = 0) = decide (some d = some 0)
    simp
  | s :: r, d => by
    show runB S d ((s : Int) :: ofN r) = _
    rw [runB, Tr.run]
    by_cases h : d = 0
    · rw [if_pos h, if_pos h]
      rfl
    · rw [if_neg h, if_neg h]
      by_cases h2 : s < S.length
      · rw [if_pos ⟨by omega, by omega⟩, if_pos h2]
        exact runB_run r _
      · rw [if_neg (by omega), if_neg h2]
        rfl
theorem runB_row {S : List Sg} {t : Tr} (h : OkT S t) : runB S 1 (ofN t.row) = true := by
  rw [runB_run, decide_eq_true_eq]
  exact Tr.run_row h
/-- a row of ints without any due is the row of a tree -/
theorem runB_tree {S : List Sg} (hk : KidsOk S) {ns : List Int} (h : runB S 1 ns = true) : ∃ t, OkT S t ∧ ns = ofN t.row := by
  have hn : ∀ (ns : List Int) (d : Nat), runB S d ns = true → ∃ r : List Nat, ns = ofN r := by
    intro ns
    induction ns with
    | nil => exact fun d _ => ⟨[], rfl⟩
    | cons z ns ih =>
      intro d h
      rw [runB] at h
      split at h
      · cases h
      · split at h
        · rename_i h2
          obtain ⟨r, rfl⟩ := ih _ h
          refine ⟨z.toNat :: r, ?_⟩
          show z :: ofN r = (z.toNat : Int) :: ofN r
          rw [Int.toNat_of_nonneg h2.1]
        · cases h
  obtain ⟨r, rfl⟩ := hn ns 1 h
  rw [runB_run, decide_eq_true_eq] at h
  obtain ⟨t, ht, rfl⟩ := Tr.run_tree (ks_le hk) h
  exact ⟨t, ht, rfl⟩
def spIsRow (K : PySem.W.Frag) (C : Addr) : Sp := fun vs H Q _ => ∃ (p : Addr) (v : V) (S : List Sg) (ns : List Int), vs = [.ref p, v] ∧ BookAt C MF H p S ∧ KidsOk S ∧ Dt K MF H v (tupI ns) ∧ ∀ H', Ex H H' → Q (.bl (runB S 1 ns)) H'
section
variable {P : Program} {w : World} {K : PySem.W.Frag} {mg : Str → Option Value} {base : Heap} {C : Addr}
abbrev nIsRow : List Str := ["book", "row", "due", "sign"]
theorem scIsRow : FnScope nIsRow ["book", "row"] (defScope sIsRow) := ⟨rfl, rfl, rfl, by decide +kernel, rfl, by decide +kernel, by decide +kernel⟩
theorem ok_isrow {f : Addr} {fd : FuncData} (F : Fun K "is_row" "is_row" sIsRow f fd) (B : BookK P w K mg base C) (BH : OneM P w K mg base C "has" 1 ["self", "sign"] (spHas C)) : FnOk P w K mg base CX0 2 f fd ["book", "row"] (spIsRow K C) := by
  obtain ⟨T, _, ⟨f2, d2, m2, g2, b2⟩⟩ := B
  obtain ⟨f1, d1, m1, g1, b1⟩ := BH
  refine F.ok scIsRow (fun vs H Q E h => ?_) (fun cdv A outer s H vs Q E hr h => ?_)
  · obtain ⟨p, v, S, ns, rfl, _⟩ := h
    rfl
  · obtain ⟨p, v, S, ns, rfl, hB, hK, hv, q⟩ := h
    refine ⟨_, pss_cons (ps_set (i := 2) scIsRow.nd rfl (.inl rfl) pe_int)
      (pss_cons (ps_for PassesOwn.never rfl (pi_tup (pv 1)) (pg_name (i := 3) scIsRow.nd rfl (.inl rfl))
        (pss_cons (ps_if (PW.pt (pw_or (pt_cmpR op_eq (pv 2) pe_int (nomark _)) (pw_or1 (pt_not (pt_val (pe_meth (pv 0) T.cl m1 g1 hr b1 .nil pass0 (pa_cons (pv 3) pa_nil))))))) (pss_one (ps_ret pe_bl)) pss_nil)
        (pss_one (ps_set (i := 2) scIsRow.nd rfl (.inl rfl) (pe_op op_sub (pe_op op_add (pv 2) (pe_meth (pv 0) T.cl m2 g2 hr b2 .nil pass0 (pa_cons (pv 3) pa_nil))) pe_int)))))
      (pss_one (ps_ret (pe_cmpR op_eq (pv 2) pe_int (nomark _))))), ?_⟩
    obtain ⟨a, rfl, hS⟩ := dt_tup hv
    refine ⟨_, rfl, a, rfl, ⟨_, hS⟩, for_tup (K := K) (a := a) (xs := ns.map V.int) (fun i σ' H' => Ex H H' ∧ ∃ (d : Nat) (u : Option V), σ' = [some (.ref p), some (.ref a), some (.int (d : Int)), u] ∧ runB S 1 ns = runB S d (ns.drop i))
      ⟨Ex.refl H, 1, none, rfl, rfl⟩ (fun i σ' H' _ z => ex_t z.1 hS) ?_ ?_⟩
    · rintro i x σ' H1 hx ⟨e, d, u, rfl, hd⟩
      rw [List.getElem?_map] at hx
      cases hz : ns[i]? with
      | none =>
        rw [hz] at hx
        cases hx
      | some z =>
      rw [hz] at hx
      cases hx
      obtain ⟨hlt, ez⟩ := List.getElem?_eq_some_iff.mp hz
      have ed : ns.drop i = z :: ns.drop (i + 1) := by rw [List.drop_eq_getElem_cons hlt, ez]
      rw [ed, runB] at hd
      have hB1 := hB.ex e
      refine q_when (et_or (evt_test (K := K) (M := MF) (evd_eqI (evd_var rfl (.int (d : Int))) evd_int)) fun _ => evt_not (evt_B (K := K) (M := MF) (evd_has rfl hB1 (evd_var rfl (.int z))))) (fun hb H2 e2 => ?_) (fun hb H2 e2 => ?_)
      · rw [Bool.or_eq_true, Bool.not_eq_true', Bool.and_eq_false_iff, decide_eq_true_eq, decide_eq_false_iff_not, decide_eq_false_iff_not] at hb
        have hf : runB S 1 ns = false := by
          rw [hd]
          by_cases h0 : d = 0
          · rw [if_pos h0]
          · rw [if_neg h0, if_neg]
            omega
        have := q H2 (e.trans e2)
        rw [hf] at this
        exact this
      · rw [Bool.or_eq_false_iff, Bool.not_eq_false', Bool.and_eq_true, decide_eq_false_iff_not, decide_eq_true_eq, decide_eq_true_eq] at hb
        obtain ⟨h0, h1, h2⟩ := hb
        rw [if_neg (by omega), if_pos ⟨h1, h2⟩] at hd
        obtain ⟨j, rfl⟩ := Int.eq_ofNat_of_zero_le h1
        have hj : S[j]? = some (S[j]'(by omega)) := List.getElem?_eq_getElem _
        have hk := hK _ (List.mem_of_getElem? hj)
        refine s_asgP (K := K) (M := MF) (evd_sub (evd_add (evd_var rfl (.int (d : Int))) (evd_kids rfl (hB1.ex e2) (evd_var rfl (.int (j : Int))) rfl hj)) evd_int) fun v d' H3 e3 dv pd => ?_
        subst pd
        cases dv
        refine ⟨(e.trans e2).trans e3, d - 1 + ks S j, some (.int (j : Int)), ?_, hd⟩
        rw [ks_of hj]
        have hc : (d : Int) + (S[j]'(by omega)).2 - 1 = ((d - 1 + (S[j]'(by omega)).2.toNat : Nat) : Int) := by omega
        exact congrArg (fun z => [some (V.ref p), some (V.ref a), some (V.int z), some (V.int (j : Int))]) hc
    · rintro σ' H1 ⟨e, d, u, rfl, hd⟩
      rw [List.length_map, List.drop_length, runB] at hd
      refine s_retP (K := K) (M := MF) (evd_eqI (evd_var rfl (.int (d : Int))) evd_int) fun v d' H3 e3 dv pd => ?_
      subst pd
      cases dv
      have := q H3 (e.trans e3)
      rw [hd] at this
      have e0 : decide (d = 0) = decide ((d : Int) = 0) := by
        by_cases h : d = 0
        · rw [decide_eq_true h, decide_eq_true (by omega)]
        · rw [decide_eq_false h, decide_eq_false (by omega)]
      rw [e0] at this
      exact this
end
end TH
set_option maxRecDepth 100000
set_option maxHeartbeats 4000000
namespace TH
open PySem L2 Evl
structure GlobR (mg : Str → Option Value) : Prop where
  mostT : ∃ t, mg "MOST_SIGNS_trees" = some (.int 40 t)
  reversed : mg "reversed" = none
section
variable {K : PySem.W.Frag} {M M' : Addr → Prop} {H H1 H' : Hp} {σ : L2.St} {ta tb te tc : TE} {v : V} {ns : List Int} {D : Ends} {tu tz : TS}
theorem ev_ofI {i : Int} (h : EvD K M te σ H (.int i)) : Ev te σ H (.int i) := fun H1 e Q q => h H1 e _ fun v d H2 e2 dv pd => by
  subst pd
  cases dv
  exact q H2 e2
theorem ev_ofB {i : Bool} (h : EvD K M te σ H (.bool i)) : Ev te σ H (.bl i) := fun H1 e Q q => h H1 e _ fun v d H2 e2 dv pd => by
  subst pd
  cases dv
  exact q H2 e2
theorem s_forRev {j n : Nat} (h : Ev te σ H (.int (n : Int))) (hn : n ≤ 100000) (Pv : Nat → L2.St → Hp → Prop) (h0 : ∀ H1, Ex H H1 → Pv 0 σ H1)
    (hs : ∀ (i : Nat) σ' H', i < n → Pv i σ' H' → tu { D with nx := Pv (i + 1), ct := Pv (i + 1), bk := D.nx } (σ'.set j (some (.int ((n - 1 - i : Nat) : Int)))) H') (hd : ∀ σ' H', Pv n σ' H' → D.nx σ' H') : tFor (iRevR (tRg1 te)) (gName j) tu D σ H :=
  h H (Ex.refl H) _ fun H1 e => ⟨_, rfl, by omega, by omega, by omega, by omega, by
    have e0 : ((n : Int) - 0).toNat = n := by omega
    rw [e0]
    exact for_rangeC (lo := 0 + (n : Int) - 1) (c := -1) (n := n) Pv (h0 H1 e) (fun i σ' H' hi p => by
      have e1 : (0 : Int) + (n : Int) - 1 + (i : Int) * (-1) = ((n - 1 - i : Nat) : Int) := by omega
      show tu { D with nx := Pv (i + 1), ct := Pv (i + 1), bk := D.nx } (σ'.set j (some (.int ((0 : Int) + (n : Int) - 1 + (i : Int) * (-1))))) H'
      rw [e1]
      exact hs i σ' H' hi p) hd⟩
theorem q_forRev {j n : Nat} (h : Ev te σ H (.int (n : Int))) (hn : n ≤ 100000) (Pv : Nat → L2.St → Hp → Prop) (h0 : ∀ H1, Ex H H1 → Pv 0 σ H1)
    (hs : ∀ (i : Nat) σ' H', i < n → Pv i σ' H' → tu { D with nx := Pv (i + 1), ct := Pv (i + 1), bk := tz D } (σ'.set j (some (.int ((n - 1 - i : Nat) : Int)))) H') (hd : ∀ σ' H', Pv n σ' H' → tz D σ' H') : tSeq (tFor (iRevR (tRg1 te)) (gName j) tu) tz D σ H :=
  s_forRev (D := { D with nx := tz D }) h hn Pv h0 hs hd
end
/-! ### is_tree, check_tree -/
def treeB (S : List Sg) (ns : List Int) : Bool := decide ((ns.length : Int) ≤ 40) && runB S 1 ns
theorem treeB_row {S : List Sg} {t : Tr} (h : OkT S t) (hl : t.size ≤ 40) : treeB S (ofN t.row) = true := by
  unfold treeB
  rw [runB_row h, ofN_len, decide_eq_true (by unfold Tr.size at hl; omega)]
  rfl
def spIsTree (K : PySem.W.Frag) (C : Addr) : Sp := fun vs H Q _ => ∃ (p : Addr) (v : V) (S : List Sg) (ns : List Int), vs = [.ref p, v] ∧ BookAt C MF H p S ∧ KidsOk S ∧ Dt K MF H v (tupI ns) ∧ ∀ H', Ex H H' → Q (.bl (treeB S ns)) H'
def spCheck (K : PySem.W.Frag) (C CT : Addr) : Sp := fun vs H Q E => ∃ (p : Addr) (v : V) (S : List Sg) (ns : List Int), vs = [.ref p, v] ∧ BookAt C MF H p S ∧ KidsOk S ∧ Dt K MF H v (tupI ns) ∧
  (treeB S ns = true → ∀ H', Ex H H' → Q .non H') ∧ (treeB S ns = false → ∀ H', Ex H H' → E (.ref CT) none H')
section
variable {P : Program} {w : World} {K : PySem.W.Frag} {mg : Str → Option Value} {base : Heap} {C : Addr}
theorem scIsTree : FnScope ["book", "tree"] ["book", "tree"] (defScope sIsTree) := ⟨rfl, rfl, rfl, by decide +kernel, rfl, by decide +kernel, by decide +kernel⟩
theorem ok_istree {f : Addr} {fd : FuncData} (F : Fun K "is_tree" "is_tree" sIsTree f fd) (G : Glob mg) (GR : GlobR mg) (B : OneF P w K mg base "is_row" 2 ["book", "row"] (spIsRow K C)) : FnOk P w K mg base CX0 3 f fd ["book", "tree"] (spIsTree K C) := by
  obtain ⟨f1, d1, m1, k1, g1, b1⟩ := B
  obtain ⟨t, hL⟩ := GR.mostT
  refine F.ok scIsTree (fun vs H Q E h => ?_) (fun cdv A outer s H vs Q E hr h => ?_)
  · obtain ⟨p, v, S, ns, rfl, _⟩ := h
    rfl
  · obtain ⟨p, v, S, ns, rfl, hB, hK, hv, q⟩ := h
    refine ⟨_, pss_one (ps_ret (pe_and (pe_cmpR op_le (pe_callB call_len_seq (by rfl) G.len PySem.boot_len (pa_cons (pv 1) pa_nil)) (pe_glob rfl hL (show RelV (.int 40) _ from ⟨_, rfl⟩)) (nomark _)) (pe_one (pe_call g1 hr rfl m1 k1 b1 .nil pass0 (pa_cons (pv 0) (pa_cons (pv 1) pa_nil)))))), ?_⟩
    obtain ⟨a, rfl, hS⟩ := dt_tup hv
    refine ⟨_, rfl, a, _, rfl, .inr hS, _, _, rfl, rfl, _, rfl, ?_⟩
    rw [List.length_map]
    by_cases h : (ns.length : Int) ≤ 40
    · rw [decide_eq_true h]
      refine iteT ⟨_, rfl, _, rfl, p, .ref a, S, ns, rfl, hB, hK, hv, fun H' e => ?_⟩
      have := q H' e
      unfold treeB at this
      rw [decide_eq_true h] at this
      exact this
    · rw [decide_eq_false h]
      refine iteF ?_
      have := q H (Ex.refl _)
      unfold treeB at this
      rw [decide_eq_false h] at this
      exact this
theorem scCheck : FnScope ["book", "tree"] ["book", "tree"] (defScope sCheck) := ⟨rfl, rfl, rfl, by decide +kernel, rfl, by decide +kernel, by decide +kernel⟩
theorem ok_check {f CT : Addr} {fd : FuncData} (F : Fun K "check_tree" "check_tree" sCheck f fd) (TN : ExcT K mg "NoTree" CT) (B : OneF P w K mg base "is_tree" 3 ["book", "tree"] (spIsTree K C)) : FnOk P w K mg base (L2.CX P w) 4 f fd ["book", "tree"] (spCheck K C CT) := by
  obtain ⟨f1, d1, m1, k1, g1, b1⟩ := B
  refine F.okX scCheck (fun vs H Q E h => ?_) (fun cdv A outer s H vs Q E hr h => ?_)
  · obtain ⟨p, v, S, ns, rfl, _⟩ := h
    rfl
  · obtain ⟨p, v, S, ns, rfl, hB, hK, hv, qy, qn⟩ := h
    refine ⟨_, pss_one (ps_if (pt_not (pt_val (pe_call g1 hr rfl m1 k1 b1 .nil pass0 (pa_cons (pv 0) (pa_cons (pv 1) pa_nil))))) (pss_one (ps_raise rfl (takes_of rfl rfl rfl rfl) (pmk_own PySem.F.excBase_ValueError TN.x TN.g TN.k (raises_own TN.b TN.t) rfl))) pss_nil), ?_⟩
    refine ⟨_, rfl, _, rfl, p, v, S, ns, rfl, hB, hK, hv, fun H' e => ⟨_, rfl, ?_⟩⟩
    cases h : treeB S ns with
    | true => exact iteF (qy h H' e)
    | false => exact iteT (qn h H' e)
end
/-! ### sizes_of -/
def nums (r : List Nat) : List V := r.map fun (s : Nat) => V.int (s : Int)
theorem nums_len (r : List Nat) : (nums r).length = r.length := List.length_map _
theorem nums_app (r q : List Nat) : nums (r ++ q) = nums r ++ nums q := List.map_append
theorem nums_at {r : List Nat} {j s : Nat} (h : r[j]? = some s) : (nums r)[j]? = some (.int (s : Int)) := by
  unfold nums
  rw [List.getElem?_map, h]
  rfl
theorem nums_dts {K : PySem.W.Frag} {M : Addr → Prop} {H : Hp} (r : List Nat) : Dts K M H (nums r) ((ofN r).map PyData.int) := by
  have e : nums r = (ofN r).map V.int := by
    unfold nums ofN
    rw [List.map_map]
    rfl
  rw [e]
  exact Dts.of_ints _
def intsD (r : List Nat) : PyData := .list ((ofN r).map PyData.int)
def spSizes (K : PySem.W.Frag) (C : Addr) : Sp := fun vs H Q _ => ∃ (p : Addr) (v : V) (S : List Sg) (t : Tr), vs = [.ref p, v] ∧ BookAt C MF H p S ∧ KidsOk S ∧ Dt K MF H v (rowD t) ∧ OkT S t ∧ t.size ≤ 100000 ∧
  ∀ l H', H l = none → Ex H H' → H' l = some (.lst (nums t.sizes)) → Q (.ref l) H'
section
variable {P : Program} {w : World} {K : PySem.W.Frag} {mg : Str → Option Value} {base : Heap} {C : Addr}
abbrev nSizes : List Str := ["book", "row", "sizes", "start", "_"]
theorem scSizes : FnScope nSizes ["book", "row"] (defScope sSizes) := ⟨rfl, rfl, rfl, by decide +kernel, rfl, by decide +kernel, by decide +kernel⟩
theorem ok_sizes {f : Addr} {fd : FuncData} (F : Fun K "sizes_of" "sizes_of" sSizes f fd) (G : Glob mg) (GR : GlobR mg) (B : BookK P w K mg base C) : FnOk P w K mg base CX0 2 f fd ["book", "row"] (spSizes K C) := by
  obtain ⟨T, _, ⟨f2, d2, m2, g2, b2⟩⟩ := B
  refine F.ok scSizes (fun vs H Q E h => ?_) (fun cdv A outer s H vs Q E hr h => ?_)
  · obtain ⟨p, v, S, t, rfl, _⟩ := h
    rfl
  · obtain ⟨p, v, S, t, rfl, hB, hK, hv, hO, hN, q⟩ := h
    refine ⟨_, pss_cons (ps_set (i := 2) scSizes.nd rfl (.inl rfl) (pe_op op_rep (pe_lst (pa_cons pe_int pa_nil)) (pe_callB call_len_seq (by rfl) G.len PySem.boot_len (pa_cons (pv 1) pa_nil))))
      (pss_cons (ps_for PassesOwn.never rfl (pi_revR rfl GR.reversed (prg_1 rfl G.range (pe_callB call_len_seq (by rfl) G.len PySem.boot_len (pa_cons (pv 1) pa_nil)))) (pg_name (i := 3) scSizes.nd rfl (.inl rfl))
        (pss_one (ps_for PassesOwn.never rfl (pi_range1 rfl G.range (pa_cons (pe_meth (pv 0) T.cl m2 g2 hr b2 .nil pass0 (pa_cons (pe_ix ix_tup (pv 1) (pv 3) (fun _ _ => rfl)) pa_nil)) pa_nil)) (pg_name (i := 4) scSizes.nd rfl (.inl rfl))
          (pss_one (ps_asg (pe_op op_add (pe_ix ix_list (pv 2) (pv 3) (fun _ _ => rfl)) (pe_ix ix_list (pv 2) (pe_op op_add (pv 3) (pe_ix ix_list (pv 2) (pv 3) (fun _ _ => rfl))) (fun _ _ => rfl))) (pg_sub (pv 2) (pv 3) set_list))))))
      (pss_one (ps_ret (pv 2)))), ?_⟩
    obtain ⟨a, rfl, hS⟩ := dt_tup hv
    have hlen : ((ofN t.row).map V.int).length = t.size := by rw [List.length_map, ofN_len]; rfl
    have hz : t.size ≤ sizeLine := sz_of hN
    refine ⟨(by show 1 ≤ sizeLine; decide), fun l0 hl0 => ⟨_, rfl, a, _, rfl, .inr (ex_t (Ex.new hl0) hS), l0, _, _, rfl, rfl, upd_same, by omega, by rw [hlen]; omega, ?_, fun l hl => ?_⟩⟩
    · rw [hlen]
      show 1 * _ ≤ _
      rw [Nat.one_mul]
      exact hz
    have eR : (List.replicate ((((ofN t.row).map V.int).length : Nat) : Int).toNat [V.int 1]).flatten = List.replicate t.size (V.int 1) := by
      rw [hlen, Int.toNat_natCast]
      clear hlen hN hz
      generalize t.size = n
      induction n with
      | zero => rfl
      | succ n ih =>
        rw [List.replicate_succ, List.flatten_cons, ih]
        rfl
    rw [eR]
    have e1 : Ex H (upd (upd H l0 (.lst [.int 1])) l (.lst (List.replicate t.size (V.int 1)))) := (Ex.new hl0).trans (Ex.new hl)
    have hlH : H l = none := fresh_back (Ex.new hl0) hl
    have hl1 : (upd (upd H l0 (.lst [.int 1])) l (.lst (List.replicate t.size (V.int 1)))) l = some (.lst (List.replicate t.size (V.int 1))) := upd_same
    generalize upd (upd H l0 (.lst [.int 1])) l (.lst (List.replicate t.size (V.int 1))) = H1 at e1 hl1
    have evlen : ∀ {H'}, Ex H H' → Ev (tCB (fun xs H Q => ∃ p ys, xs = [.ref p] ∧ (SqL K H p ys ∨ SqT K H p ys) ∧ Q (.int ys.length) H) (tCons (tVar 1) tNil)) [some (.ref p), some (.ref a), some (.ref l), none, none] H' (.int (t.size : Int)) := fun {H'} e => by
      have h := ev_ofI (K := K) (M := MF) (evd_lenT (K := K) (M := MF) (σ := [some (.ref p), some (.ref a), some (.ref l), none, none]) (ta := tCons (tVar 1) tNil) (eva_cons (evd_var (d := rowD t) rfl (hv.ex e)) eva_nil))
      rw [List.length_map, ofN_len] at h
      exact h
    refine q_forRev (evlen e1) hN (fun i σ' H' => Ex H H' ∧ ∃ u3 u4, σ' = [some (.ref p), some (.ref a), some (.ref l), u3, u4] ∧ H' l = some (.lst (List.replicate (t.size - i) (V.int 1) ++ nums (Tr.sizesF (Tr.suf (t.size - i) [t])))))
      (fun H2 e2 => ⟨e1.trans e2, none, none, rfl, ?_⟩) ?_ ?_
    · rw [e2 _ _ hl1, Nat.sub_zero, Tr.suf_nil.mpr (by rw [Tr.size_one]; exact Nat.le_refl _)]
      show some (HO.lst _) = some (HO.lst (_ ++ []))
      rw [List.append_nil]
    · rintro i σ' H2 hi ⟨e2, u3, u4, rfl, hl2⟩
      have hpN : t.size - 1 - i < Tr.sizeF [t] := by rw [Tr.size_one]; omega
      obtain ⟨u, us, hu, hroot⟩ := Tr.suf_cons hpN
      generalize hp : t.size - 1 - i = p' at hpN hu hroot
      have e0 : t.size - i = p' + 1 := by omega
      rw [Tr.row_one] at hroot
      have hOu : OkT S u := Tr.okF_suf p' (ts := [t]) (fun x hx => by rw [List.mem_singleton.mp hx]; exact hO) u (by rw [hu]; exact List.mem_cons_self)
      have hsuc : Tr.suf (p' + 1) [t] = u.kids ++ us := by rw [Tr.suf_succ, hu]; rfl
      rw [e0, hsuc, List.replicate_succ'] at hl2
      have hrt : u.root < S.length := hOu.root
      have hSr : S[u.root]? = some (S[u.root]'hrt) := List.getElem?_eq_getElem hrt
      have hkn : (S[u.root]'hrt).2 = (u.kids.length : Int) := by
        have h1 := hOu.ark
        rw [ks_of hSr] at h1
        have := hK _ (List.mem_of_getElem? hSr)
        omega
      have hk2 := Tr.kids_le u
      refine s_forR1 (ea_cons (ev_ofI (K := K) (M := MF) (evd_kids (j := u.root) rfl (hB.ex e2) (evd_ixT (j := p') (ds := (ofN t.row).map PyData.int) (evd_var (d := rowD t) rfl (hv.ex e2)) (evd_var rfl (.int _)) rfl (by rw [List.getElem?_map, ofN_at hroot]; rfl)) rfl hSr)) ea_nil) (by omega)
        (fun j σ' H' => Ex H H' ∧ ∃ u4, σ' = [some (.ref p), some (.ref a), some (.ref l), some (.int (p' : Int)), u4] ∧ H' l = some (.lst (List.replicate p' (V.int 1) ++ V.int ((1 + Tr.sizeF (u.kids.take j) : Nat) : Int) :: nums (Tr.sizesF (u.kids ++ us)))))
        (fun H3 e3 => ⟨e2.trans e3, _, rfl, ?_⟩) ?_ ?_
      · rw [e3 _ _ hl2, List.append_assoc]
        rfl
      · rintro j σ'' H3 hj ⟨e3, u5, rfl, hl3⟩
        rw [hkn] at hj
        obtain ⟨k, hk⟩ : ∃ k, u.kids[j]? = some k := ⟨_, List.getElem?_eq_getElem (by omega)⟩
        have hs := Tr.sizesF_at hk (Tr.sizesF us)
        rw [← Tr.sizesF_app] at hs
        have hd3 : Dts K MF H3 (List.replicate p' (V.int 1) ++ V.int ((1 + Tr.sizeF (u.kids.take j) : Nat) : Int) :: nums (Tr.sizesF (u.kids ++ us))) (List.replicate p' (PyData.int 1) ++ PyData.int ((1 + Tr.sizeF (u.kids.take j) : Nat) : Int) :: (ofN (Tr.sizesF (u.kids ++ us))).map PyData.int) := by
          refine Dts.append ?_ (.cons (.int _) (nums_dts _))
          generalize p' = n
          induction n with
          | zero => exact .nil
          | succ n ih => exact .cons (.int _) ih
        have hdl : Dt K MF H3 (.ref l) (.list (List.replicate p' (PyData.int 1) ++ PyData.int ((1 + Tr.sizeF (u.kids.take j) : Nat) : Int) :: (ofN (Tr.sizesF (u.kids ++ us))).map PyData.int)) := .lst hl3 (fun h => h) hd3
        have at1 : (List.replicate p' (PyData.int 1) ++ PyData.int ((1 + Tr.sizeF (u.kids.take j) : Nat) : Int) :: (ofN (Tr.sizesF (u.kids ++ us))).map PyData.int)[p']? = some (PyData.int ((1 + Tr.sizeF (u.kids.take j) : Nat) : Int)) := by
          rw [List.getElem?_append_right (by rw [List.length_replicate]; exact Nat.le_refl _), List.length_replicate, Nat.sub_self]
          rfl
        have at2 : (List.replicate p' (PyData.int 1) ++ PyData.int ((1 + Tr.sizeF (u.kids.take j) : Nat) : Int) :: (ofN (Tr.sizesF (u.kids ++ us))).map PyData.int)[p' + (1 + Tr.sizeF (u.kids.take j))]? = some (PyData.int (k.size : Int)) := by
          rw [List.getElem?_append_right (by rw [List.length_replicate]; omega), List.length_replicate, Nat.add_sub_cancel_left, Nat.add_comm 1, List.getElem?_cons_succ, List.getElem?_map, ofN_at hs]
          rfl
        refine s_setP (K := K) (M := MF) (j := p') (P := (· = .int _)) hl3 rfl rfl (by rw [List.length_append, List.length_replicate, List.length_cons]; omega)
          (evd_add (evd_ixL (j := p') (evd_var rfl hdl) (evd_var rfl (.int _)) rfl at1) (evd_ixL (j := p' + (1 + Tr.sizeF (u.kids.take j))) (evd_var rfl hdl) (evd_add (evd_var rfl (.int _)) (evd_ixL (j := p') (evd_var rfl hdl) (evd_var rfl (.int _)) rfl at1)) (by omega) at2)) fun v d H4 e4 dv pd => ?_
        subst pd
        cases dv
        refine ⟨Ex.mut (e3.trans e4) hlH, _, rfl, ?_⟩
        rw [upd_same, Tr.sizeF_take hk]
        congr 2
        rw [List.set_append_right _ _ (by rw [List.length_replicate]; exact Nat.le_refl _), List.length_replicate, Nat.sub_self, List.set_cons_zero]
        congr 3
        omega
      · rintro σ'' H3 ⟨e3, u5, rfl, hl3⟩
        refine ⟨e3, _, _, rfl, ?_⟩
        rw [hl3, hkn, Int.toNat_natCast, List.take_length, ← Tr.size_eq]
        have e5 : t.size - (i + 1) = p' := by omega
        rw [e5, hu, Tr.sizesF_cons, Tr.sizes_eq, List.cons_append, ← Tr.sizesF_app]
        rfl
    · rintro σ' H2 ⟨e2, u3, u4, rfl, hl2⟩
      rw [Nat.sub_self] at hl2
      refine ⟨_, rfl, q l H2 hlH e2 ?_⟩
      rw [hl2]
      show some (HO.lst ([] ++ nums (Tr.sizesF [t]))) = _
      rw [Tr.sizes_one]
      rfl
end
end TH
set_option maxRecDepth 100000
set_option maxHeartbeats 4000000
namespace TH
open PySem L2 Evl
abbrev sLRow : Stmt := top 30
/-! ### data by its size and its depth -/
theorem lay_all : ∀ {ds : List PyData}, (∀ d ∈ ds, d.canLay0 = true) → PyData.canLayAll0 ds = true
  | [], _ => rfl
  | d :: ds, h => by
    rw [PyData.canLayAll0, h d List.mem_cons_self, lay_all fun e he => h e (List.mem_cons_of_mem _ he)]
    rfl
theorem depth_all {n : Nat} : ∀ {ds : List PyData}, (∀ d ∈ ds, d.depth ≤ n) → PyData.depthAll ds ≤ n
  | [], _ => Nat.zero_le _
  | d :: ds, h => by
    rw [PyData.depthAll]
    exact Nat.max_le.mpr ⟨h d List.mem_cons_self, depth_all fun e he => h e (List.mem_cons_of_mem _ he)⟩
/-- data that may be laid, of a small depth -/
structure Flat (n : Nat) (d : PyData) : Prop where
  lay : d.canLay0 = true
  depth : d.depth ≤ n
theorem flat_int (i : Int) : Flat 0 (.int i) := ⟨rfl, Nat.le_refl _⟩
theorem flat_list {n : Nat} {ds : List PyData} (h : ∀ d ∈ ds, Flat n d) : Flat (n + 1) (.list ds) :=
  ⟨by rw [PyData.canLay0]; exact lay_all fun d hd => (h d hd).lay, by rw [PyData.depth]; have := depth_all fun d hd => (h d hd).depth; omega⟩
theorem flat_tup {n : Nat} {ds : List PyData} (h : ∀ d ∈ ds, Flat n d) : Flat (n + 1) (.tuple ds) :=
  ⟨by rw [PyData.canLay0]; exact lay_all fun d hd => (h d hd).lay, by rw [PyData.depth]; have := depth_all fun d hd => (h d hd).depth; omega⟩
theorem flat_tupI (ns : List Int) : Flat 1 (tupI ns) := flat_tup fun d hd => by
  obtain ⟨i, _, rfl⟩ := List.mem_map.mp hd
  exact flat_int i
theorem Flat.shaped {n : Nat} {d : PyData} (h : Flat n d) (hn : n ≤ 20) : SeqAt.shaped d = true := by
  unfold SeqAt.shaped
  rw [h.lay, decide_eq_true (by have := h.depth; omega)]
  rfl
theorem Flat.self {n : Nat} {d : PyData} (h : Flat n d) : PyData.eqv d d = true := SeqAt.eqv_refl _ h.lay
section
variable {K : PySem.W.Frag} {M M' : Addr → Prop} {H H1 H' : Hp} {σ : L2.St} {ta tb te tc : TE} {v : V} {d1 d2 : PyData}
theorem evd_eqD {n m : Nat} (ha : EvD K M ta σ H d1) (hb : EvD K M tb σ H d2) (f1 : Flat n d1) (f2 : Flat m d2) (hn : n ≤ 20 := by decide) (hm : m ≤ 20 := by decide) : EvD K M (tOp (rEqD K) ta tb) σ H (.bool (PyData.eqv d1 d2)) :=
  evp_op ha hb fun x y a b H1 e dx dy px py Q q => by
    subst px py
    exact ⟨_, _, dx.dp, dy.dp, f1.shaped hn, f2.shaped hm, q _ _ H1 (Ex.refl _) (.bl _) rfl⟩
theorem evd_neD {n m : Nat} (ha : EvD K M ta σ H d1) (hb : EvD K M tb σ H d2) (f1 : Flat n d1) (f2 : Flat m d2) (hn : n ≤ 20 := by decide) (hm : m ≤ 20 := by decide) : EvD K M (tOp (rNeD K) ta tb) σ H (.bool (!PyData.eqv d1 d2)) :=
  evp_op ha hb fun x y a b H1 e dx dy px py Q q => by
    subst px py
    exact ⟨_, _, dx.dp, dy.dp, f1.shaped hn, f2.shaped hm, q _ _ H1 (Ex.refl _) (.bl _) rfl⟩
/-- tuples put together, a part of a tuple -/
theorem evd_catA {ds es : List PyData} (ha : EvD K M ta σ H (.tuple ds)) (hb : EvD K M tb σ H (.tuple es)) (hs : ds.length + es.length ≤ 100000) : EvD K M (tOp (rCatA K) ta tb) σ H (.tuple (ds ++ es)) :=
  evp_op ha hb fun x y a b H1 e dx dy px py Q q => by
    subst px py
    cases dx with
    | tup h1 h3 =>
      cases dy with
      | tup k1 k3 =>
        refine ⟨_, _, _, _, rfl, rfl, SqT.of h1, SqT.of k1, by rw [h3.length, k3.length]; exact sz_of hs, fun e0 => ?_, fun _ e0 => ?_, fun _ _ p hp => q _ _ _ (Ex.new hp) (.tup upd_same ((h3.append k3).ex (Ex.new hp))) rfl⟩
        · subst e0
          cases h3
          exact q _ _ H1 (Ex.refl _) (.tup k1 k3) rfl
        · subst e0
          cases k3
          exact q _ _ H1 (Ex.refl _) (.tup h1 h3) (by rw [List.append_nil])
theorem evd_slT {ds : List PyData} {tl th : TO} {lo hi : Option Int} (ha : EvD K M ta σ H (.tuple ds)) (hl : EvPO K M tl σ H lo) (hh : EvPO K M th σ H hi) : EvD K M (tSl (rSlA K) ta tl th) σ H (.tuple (cutG ds lo hi)) := fun H1 e Q q =>
  ha H1 e _ fun v d H2 e2 dv pd => hl H2 (e.trans e2) _ fun H3 e3 => hh H3 ((e.trans e2).trans e3) _ fun H4 e4 => by
    subst pd
    cases dv.ex (e3.trans e4) with
    | tup h1 h3 =>
      refine ⟨_, _, rfl, SqT.of h1, fun hw => q _ _ H4 ((e2.trans e3).trans e4) (.tup h1 h3) ?_, fun _ p hp => q _ _ _ (((e2.trans e3).trans e4).trans (Ex.new hp)) (.tup upd_same (h3.cut.ex (Ex.new hp))) rfl⟩
      unfold cutG
      rw [h3.length] at hw
      rw [hw.1, hw.2, List.drop_zero, Nat.sub_zero, List.take_length]
theorem cutG_nat {α : Type} (xs : List α) (i j : Nat) (h : i ≤ j) (hj : j ≤ xs.length) : cutG xs (some (i : Int)) (some (j : Int)) = (xs.drop i).take (j - i) := by
  unfold cutG
  rw [HT.sIx_nat, HT.sIx_nat, Nat.min_eq_left (Nat.le_trans h hj), Nat.min_eq_left hj]
theorem cutG_to {α : Type} (xs : List α) (j : Nat) (hj : j ≤ xs.length) : cutG xs none (some (j : Int)) = xs.take j := by
  unfold cutG
  rw [HT.sIx_nat, HT.sIx_none, Nat.min_eq_left hj]
  rfl
theorem cutG_from {α : Type} (xs : List α) (i : Nat) (hj : i ≤ xs.length) : cutG xs (some (i : Int)) none = xs.drop i := by
  unfold cutG
  rw [HT.sIx_nat, HT.sIx_none, Nat.min_eq_left hj, List.take_of_length_le (by rw [List.length_drop]; exact Nat.le_refl _)]
/-- a test of which something is known -/
def EvTP (tt : TT) (σ : L2.St) (H : Hp) (PB : Bool → Prop) : Prop := ∀ H1, Ex H H1 → ∀ Q : Bool → Hp → Prop, (∀ b H2, Ex H1 H2 → PB b → Q b H2) → tt σ H1 Q
theorem evtp_of {t : TT} {b : Bool} (h : EvT t σ H b) : EvTP t σ H (· = b) := fun H1 e Q q => h H1 e Q fun H2 e2 => q b H2 e2 rfl
theorem evtp_test {PB : Bool → Prop} (h : EvP K M te σ H (fun d => ∃ b, d = .bool b ∧ PB b)) : EvTP (tTest te) σ H PB := fun H1 e Q q => h H1 e _ fun v d H2 e2 dv pd => by
  obtain ⟨b, rfl, pb⟩ := pd
  cases dv
  exact ⟨b, rfl, q b H2 e2 pb⟩
theorem evtp_or {t u : TT} {PA PB : Bool → Prop} (h1 : EvTP t σ H PA) (h2 : PA false → EvTP u σ H PB) : EvTP (tOr t u) σ H (fun b => PA true ∧ b = true ∨ PA false ∧ PB b) := fun H1 e Q q => h1 H1 e _ fun b H2 e2 pb => by
  cases b with
  | true => exact q true H2 e2 (.inl ⟨pb, rfl⟩)
  | false => exact h2 pb H2 (e.trans e2) Q fun b H3 e3 p3 => q b H3 (e2.trans e3) (.inr ⟨pb, p3⟩)
theorem EvTP.mono {t : TT} {PA PB : Bool → Prop} (h : EvTP t σ H PA) (k : ∀ b, PA b → PB b) : EvTP t σ H PB := fun H1 e Q q => h H1 e Q fun b H2 e2 pb => q b H2 e2 (k b pb)
theorem s_whenP {t : TT} {tu : TS} {D : Ends} {PB : Bool → Prop} (h : EvTP t σ H PB) (h1 : PB true → ∀ H1, Ex H H1 → tu D σ H1) (h2 : PB false → ∀ H1, Ex H H1 → D.nx σ H1) : tIfS t tu tNext D σ H := h H (Ex.refl H) _ fun b H1 e pb => by
  cases b with
  | true => exact h1 pb H1 e
  | false => exact h2 pb H1 e
theorem eqv_list (ds es : List PyData) : PyData.eqv (.list ds) (.list es) = PyData.eqvAll ds es := by rw [PyData.eqv]
theorem eqv_tup (ds es : List PyData) : PyData.eqv (.tuple ds) (.tuple es) = PyData.eqvAll ds es := by rw [PyData.eqv]
theorem eqv_tupI (ns ms : List Int) : PyData.eqv (tupI ns) (tupI ms) = decide (ns = ms) := by
  unfold tupI
  rw [eqv_tup, eqv_ints]
theorem flat_intsD (c : List Nat) : Flat 1 (intsD c) := flat_list fun d hd => by
  obtain ⟨i, _, rfl⟩ := List.mem_map.mp hd
  exact flat_int i
theorem eqv_nil (c : List Nat) : PyData.eqv (intsD c) (.list []) = decide (c = []) := by
  unfold intsD
  rw [eqv_list, show ([] : List PyData) = ([] : List Int).map PyData.int from rfl, eqv_ints]
  unfold ofN
  cases c with
  | nil => rfl
  | cons a c => rfl
/-- how many kids, by the list of signs -/
theorem evd_ar {S : List Sg} {i k j : Nat} {z : Int} {v : V} {q : Sg} (hs : σ[i]? = some (some v)) (hv : Dt K M H v (.list (S.map sgD))) (hz : EvD K M te σ H (.int z)) (ez : z = (j : Int)) (hq : S[j]? = some q) :
    EvD K M (tOp (rIxT K) (tOp (rIxL K) (tVar i) te) (tC (.int 1))) σ H (.int q.2) :=
  evd_ixT (j := 1) (ds := [.str q.1, .int q.2]) ((evd_ixL (j := j) (d := sgD q) (evd_var hs hv) hz ez (by rw [List.getElem?_map, hq]; rfl)).mono fun d h => h) evd_int rfl rfl
end
/-! ### a tree is drawn -/
def spLRow (K : PySem.W.Frag) : Sp := fun vs H Q _ => ∃ (M : Addr → Prop) (b : Addr) (v : V) (S : List Sg) (m : Nat), vs = [.ref b, v, .int (m : Int)] ∧ Ok M H ∧ H b = some (Box b) ∧ Dt K M H v (.list (S.map sgD)) ∧ Good S ∧ 1 ≤ m ∧ m ≤ 1000 ∧
  ∀ (u : V) (t : Tr) (H' : Hp), Ex H H' → OkT S t → t.size ≤ m → Dt K MF H' u (rowD t) → Q u H'
structure GlobU (mg : Str → Option Value) : Prop where
  tuple : mg "tuple" = none
section
variable {P : Program} {w : World} {K : PySem.W.Frag} {mg : Str → Option Value} {base : Heap} {C : Addr}
abbrev nLRow : List Str := ["_law_box_here", "_law_signs_here", "_law_most", "_law_row_here", "_law_wanted", "_law_room", "_law_some", "_law_sign"]
theorem scLRow : FnScope nLRow ["_law_box_here", "_law_signs_here", "_law_most"] (defScope sLRow) := ⟨rfl, rfl, rfl, by decide +kernel, rfl, by decide +kernel, by decide +kernel⟩
theorem ok_lrow {f fT : Addr} {fd fdT : FuncData} (F : Fun K "_law_row" "_law_row" sLRow f fd) (G : Glob mg) (GU : GlobU mg)
    (GT : FnOk P w K mg base CX0 2 fT fdT ["_law_box_here", "_law_count"] spTake) (FT : PySem.W.keepIn K (.ref fT) = true) (mT : mg "_law_take" = some (.ref fT)) (bT : Binds K fdT ["_law_box_here", "_law_count"] []) :
    FnOk P w K mg base CX0 3 f fd ["_law_box_here", "_law_signs_here", "_law_most"] (spLRow K) := by
  refine F.ok scLRow (fun vs H Q E h => ?_) (fun cdv A outer s H vs Q E hr h => ?_)
  · obtain ⟨M, b, v, S, m, rfl, _⟩ := h
    rfl
  · obtain ⟨M, b, v, S, m, rfl, ok, hb, hv, gS, m1, m2, q⟩ := h
    have hu := hu64 hr
    refine ⟨_, pss_cons (ps_par (by rfl) scLRow.nd (i := 3) (j := 4) rfl rfl (by decide) rfl rfl (pa_cons (pe_lst pa_nil) (pa_cons pe_int pa_nil)) (by rfl))
      (pss_cons (ps_while PassesOwn.never (pt_cmpR op_gt (pv 4) pe_int (nomark _))
        (pss_cons (ps_set (i := 5) scLRow.nd rfl (.inr rfl) (pe_op op_sub (pe_op op_sub (pv 2) (pe_callB call_len_seq (by rfl) G.len PySem.boot_len (pa_cons (pv 3) pa_nil))) (pv 4)))
        (pss_cons (ps_setLc (i := 6) (own := [("_law_sign", 7)]) (g := gName 7) (by rfl) scLRow.nd rfl rfl (sw_true rfl rfl rfl (by decide +kernel)) (pi_range1 rfl G.range (pa_cons (pe_callB call_len_seq (by rfl) G.len PySem.boot_len (pa_cons (pv 1) pa_nil)) pa_nil))
            (blkOk_by (N := nLRow) (sc := defScope sLRow) (by decide +kernel)) (fun _ _ _ _ _ => pg_name (i := 7) scLRow.nd rfl (.inl rfl))
            (fun _ _ _ _ _ => pts_one (pt_chain op_lt op_le pe_int (pe_ix (ix_tupK (K := K) rfl) (pe_ix (ix_listK (K := K) rfl) (pv 1) (pv 7) (fun _ _ => rfl)) pe_int (fun _ _ => rfl)) (pv 5))) (fun _ _ _ _ _ => pv 7))
        (pss_cut (ps_if (PW.pt (pw_or (pt_cmpR (op_eqD hu) (pv 6) (pe_lst pa_nil) (nomark _)) (pw_or1 (pt_cmpR op_eq (pe_call GT hr rfl mT FT bT .nil pass0 (pa_cons (pv 0) (pa_cons pe_int pa_nil))) pe_int (nomark _)))))
          (pss_one (ps_setLc (i := 6) (own := [("_law_sign", 7)]) (g := gName 7) (by rfl) scLRow.nd rfl rfl (sw_true rfl rfl rfl (by decide +kernel)) (pi_range1 rfl G.range (pa_cons (pe_callB call_len_seq (by rfl) G.len PySem.boot_len (pa_cons (pv 1) pa_nil)) pa_nil))
            (blkOk_by (N := nLRow) (sc := defScope sLRow) (by decide +kernel)) (fun _ _ _ _ _ => pg_name (i := 7) scLRow.nd rfl (.inl rfl))
            (fun _ _ _ _ _ => pts_one (pt_cmpR op_eq (pe_ix (ix_tupK (K := K) rfl) (pe_ix (ix_listK (K := K) rfl) (pv 1) (pv 7) (fun _ _ => rfl)) pe_int (fun _ _ => rfl)) pe_int (nomark _))) (fun _ _ _ _ _ => pv 7))) pss_nil)
        (pss_cons (ps_set (i := 7) scLRow.nd rfl (.inl rfl) (pe_ix ix_list (pv 6) (pe_call GT hr rfl mT FT bT .nil pass0 (pa_cons (pv 0) (pa_cons (pe_callB call_len_seq (by rfl) G.len PySem.boot_len (pa_cons (pv 6) pa_nil)) pa_nil))) (fun _ _ => rfl)))
        (pss_cons (ps_expr (pe_bm PySem.F.plainAttrs_list PySem.F.slot_list_append PySem.F.type_list_append mt_append (pv 3) (pa_cons (pv 7) pa_nil)))
        (pss_one (ps_set (i := 4) scLRow.nd rfl (.inl rfl) (pe_op op_add (pe_op op_sub (pv 4) pe_int) (pe_ix ix_tup (pe_ix ix_list (pv 1) (pv 7) (fun _ _ => rfl)) pe_int (fun _ _ => rfl)))))))))))
      (pss_one (ps_ret (pe_callTy call_tuple_of (by rfl) GU.tuple (by decide +kernel) (pa_cons (pv 3) pa_nil))))), ?_⟩
    refine ⟨by decide, fun l hl => ⟨_, _, rfl, ?_⟩⟩
    have e1 : Ex H (upd H l (.lst [])) := Ex.new hl
    have hl1 : (upd H l (.lst [])) l = some (.lst []) := upd_same
    generalize upd H l (.lst []) = H1 at e1 hl1
    have kl := gS.len
    have kn : ∀ {j : Nat} {r : Sg}, S[j]? = some r → 0 ≤ r.2 ∧ r.2 ≤ 2 := fun h => gS.kids _ (List.mem_of_getElem? h)
    refine q_while (fun k σ' H' => Ex H H' ∧ ∃ (r : List Nat) (d : Nat) (u5 u6 u7 : Option V), σ' = [some (.ref b), some v, some (.int (m : Int)), some (.ref l), some (.int (d : Int)), u5, u6, u7] ∧ H' l = some (.lst (nums r)) ∧ Tr.run S.length (ks S) 1 r = some d ∧ r.length + d ≤ m ∧ k = m - r.length)
      m ⟨e1, [], 1, none, none, none, rfl, hl1, rfl, m1, rfl⟩ ?_
    rintro k σ' H2 ⟨e2, r, d, u5, u6, u7, rfl, hl2, hrun, hm, rfl⟩
    refine ⟨decide (0 < (d : Int)), evt_test (K := K) (M := MF) (evd_cmp (g := fun i j => decide (j < i)) (evd_var rfl (.int (d : Int))) evd_int), fun hd H3 e3 => ?_, fun hd H3 e3 => ?_⟩
    · have hd : 0 < d := by have := of_decide_eq_true hd; omega
      refine ⟨fun σ' H' => Ex H H' ∧ ∃ (r' : List Nat) (d' : Nat) (u5 u6 u7 : Option V), σ' = [some (.ref b), some v, some (.int (m : Int)), some (.ref l), some (.int (d' : Int)), u5, u6, u7] ∧ H' l = some (.lst (nums r')) ∧ Tr.run S.length (ks S) 1 r' = some d' ∧ r'.length + d' ≤ m ∧ r'.length = r.length + 1,
        fun σ2 H4 ⟨e4, r', d', u5, u6, u7, h1, h2, h3, h4, h5⟩ => ⟨m - r'.length, by omega, e4, r', d', u5, u6, u7, h1, h2, h3, h4, rfl⟩, ?_⟩
      have e23 := e2.trans e3
      have hl3 := e3 _ _ hl2
      have lD : ∀ {H'}, Ex H3 H' → Dt K MF H' (.ref l) (intsD r) := fun e => .lst (e _ _ hl3) (fun h => h) (nums_dts _)
      have ev3 : ∀ {H' σ}, σ[3]? = some (some (.ref l)) → Ex H3 H' → EvD K MF (tCB (fun xs H Q => ∃ p ys, xs = [.ref p] ∧ (SqL K H p ys ∨ SqT K H p ys) ∧ Q (.int ys.length) H) (tCons (tVar 3) tNil)) σ H' (.int (r.length : Int)) := fun {H' σ} hs e => by
        have h := evd_lenL (K := K) (M := MF) (σ := σ) (ta := tCons (tVar 3) tNil) (eva_cons (evd_var (d := intsD r) hs (lD e)) eva_nil)
        rw [List.length_map, ofN_len] at h
        exact h
      have evS : ∀ {M' : Addr → Prop} {H' σ}, σ[1]? = some (some v) → Dt K M' H' v (.list (S.map sgD)) → EvD K M' (tCB (fun xs H Q => ∃ p ys, xs = [.ref p] ∧ (SqL K H p ys ∨ SqT K H p ys) ∧ Q (.int ys.length) H) (tCons (tVar 1) tNil)) σ H' (.int (S.length : Int)) := fun {M' H' σ} hs hv => by
        have h := evd_lenL (K := K) (M := M') (σ := σ) (ta := tCons (tVar 1) tNil) (eva_cons (evd_var (d := .list (S.map sgD)) hs hv) eva_nil)
        rw [List.length_map] at h
        exact h
      -- room
      refine q_asgP (K := K) (M := MF) (evd_sub (evd_sub (evd_var rfl (.int (m : Int))) (ev3 rfl (Ex.refl _))) (evd_var rfl (.int (d : Int)))) fun vr dr H4 e4 dvr pr => ?_
      subst pr
      cases dvr
      have hv4 : Dt K M H4 v (.list (S.map sgD)) := hv.ex (e23.trans e4)
      have ok4 := ok.ex (e23.trans e4)
      -- the signs for which there is room
      have key : ∀ (f : Nat → Bool) (tt : TT) (H4 : Hp) (u6 u7 : Option V), Ok M H4 → Dt K M H4 v (.list (S.map sgD)) →
          (∀ (M' : Addr → Prop) (i : Nat) (H' : Hp), Dt K M' H' v (.list (S.map sgD)) → (i : Int) < (S.length : Int) → ∀ σ2 : L2.St, σ2[1]? = some (some v) → σ2[5]? = some (some (.int ((m : Int) - r.length - d))) → σ2[7]? = some (some (.int (i : Int))) → EvT tt σ2 H' (f i)) →
          EvD K M (tLc (iRng1 (tCons (tCB (fun xs H Q => ∃ p ys, xs = [.ref p] ∧ (SqL K H p ys ∨ SqT K H p ys) ∧ Q (.int ys.length) H) (tCons (tVar 1) tNil)) tNil)) (gName 7) tt (tVar 7) [7])
            [some (.ref b), some v, some (.int (m : Int)), some (.ref l), some (.int (d : Int)), some (.int ((m : Int) - r.length - d)), u6, u7] H4 (intsD ((List.range S.length).filter f)) := by
        intro f tt H4 u6 u7 ok4 hv4 ht
        refine (evp_lcR (PN := fun n => n = (S.length : Int)) f (fun i e => e = .int (i : Int)) ok4 ((eva_cons (evS rfl hv4) eva_nil).mono fun ds h => ⟨_, h, rfl⟩) (fun n hn => by omega) fun M' n i H' hm ok' pn hi e Qg qg => ?_).mono ?_
        · subst pn
          refine qg _ H' (Ex.refl _) ⟨rfl, ht M' i H' ((hm _ _ hv4)) hi _ rfl rfl rfl, fun _ => evd_var rfl (.int _)⟩
        · rintro dd ⟨n, es, rfl, rfl, pr⟩
          rw [Int.toNat_natCast] at pr
          rw [paired_map pr]
          show _ = PyData.list ((ofN _).map PyData.int)
          unfold ofN
          rw [List.map_map]
          rfl
      have arE : ∀ {M' : Addr → Prop} {i : Nat} {H' : Hp} {σ2 : L2.St}, Dt K M' H' v (.list (S.map sgD)) → (i : Int) < (S.length : Int) → σ2[1]? = some (some v) → σ2[7]? = some (some (.int (i : Int))) →
          EvD K M' (tOp (rIxT K) (tOp (rIxL K) (tVar 1) (tVar 7)) (tC (.int 1))) σ2 H' (.int (ks S i : Int)) := fun {M' i H' σ2} hv hi h1 h7 => by
        have hq : S[i]? = some (S[i]'(by omega)) := List.getElem?_eq_getElem _
        have h := evd_ar (k := 0) (K := K) (M := M') (σ := σ2) (te := tVar 7) h1 hv (evd_var h7 (.int (i : Int))) rfl hq
        have := kn hq
        rw [ks_of hq, Int.toNat_of_nonneg this.1]
        exact h
      refine q_asgP (K := K) (M := M) (key (fun i => decide (0 < ks S i) && decide ((ks S i : Int) ≤ (m : Int) - r.length - d)) _ H4 _ _ ok4 hv4 ?_) fun vs ds H5 e5 dvs pds => ?_
      · intro M' i H' hv hi σ2 h1 h5 h7
        refine et_is (evt_test (K := K) (M := M') (evd_chainI (g := fun i j => decide (i < j)) (g' := fun i j => decide (i ≤ j)) evd_int (arE hv hi h1 h7) (evd_var h5 (.int _)))) ?_
        congr 1
        by_cases h : 0 < ks S i
        · rw [decide_eq_true h, decide_eq_true (by omega)]
        · rw [decide_eq_false h, decide_eq_false (by omega)]
      subst pds
      have e05 := (e23.trans e4).trans e5
      have hv5 := hv4.ex e5
      have ok5 := ok4.ex e5
      have hb5 := e05 _ _ hb
      refine q_cut (M := fun σ' H6 => Ex H5 H6 ∧ ∃ (c : List Nat) (vc : V) (u7 : Option V), σ' = [some (.ref b), some v, some (.int (m : Int)), some (.ref l), some (.int (d : Int)), some (.int ((m : Int) - r.length - d)), some vc, u7] ∧ Dt K M H6 vc (intsD c) ∧ c ≠ [] ∧ c.length ≤ 6 ∧ ∀ j ∈ c, j < S.length ∧ ((ks S j : Int) ≤ (m : Int) - r.length - d ∨ ks S j = 0)) ?_ ?_
      · have memf : ∀ (f : Nat → Bool), ∀ j ∈ (List.range S.length).filter f, j < S.length ∧ f j = true := fun f j hj => by
          obtain ⟨h1, h2⟩ := List.mem_filter.mp hj
          exact ⟨List.mem_range.mp h1, h2⟩
        have lenf : ∀ (f : Nat → Bool), ((List.range S.length).filter f).length ≤ 6 := fun f => by
          have h := List.length_filter_le f (List.range S.length)
          rw [List.length_range] at h
          omega
        refine s_whenP (PB := fun b => b = false → (List.range S.length).filter (fun i => decide (0 < ks S i) && decide ((ks S i : Int) ≤ (m : Int) - r.length - d)) ≠ []) ?_ (fun _ H6 e6 => ?_) (fun hne H6 e6 => ?_)
        · refine (evtp_or (PB := fun _ => True) (evtp_of (evt_test (K := K) (M := M) (evd_eqD (evd_var rfl dvs) (evd_lst (ds := []) ok5 eva_nil) (flat_intsD _) (flat_list (n := 0) fun d hd => nomatch hd)))) fun _ => evtp_test (K := K) (M := M) ?_).mono ?_
          · refine evp_op (evp_take (ev_var rfl) hb5 evd_int (by decide) (by decide)) evd_int fun x y a dd H7 e7 dx dy px py Q q => ?_
            obtain ⟨k, rfl, k0, k1⟩ := px
            subst py
            cases dx
            cases dy
            exact ⟨rfl, q _ _ H7 (Ex.refl _) (.bl _) ⟨_, rfl, trivial⟩⟩
          · rintro b (⟨_, rfl⟩ | ⟨h, _⟩) hb
            · cases hb
            · rw [eqv_nil] at h
              exact of_decide_eq_false h.symm
        · refine s_asgP (K := K) (M := M) (key (fun i => decide (ks S i = 0)) _ H6 _ _ (ok5.ex e6) (hv5.ex e6) ?_) fun vc dc H7 e7 dvc pc => ?_
          · intro M' i H' hv hi σ2 h1 h5 h7
            refine et_is (evt_test (K := K) (M := M') (evd_eqI (arE hv hi h1 h7) evd_int)) ?_
            by_cases h : ks S i = 0
            · rw [decide_eq_true h, decide_eq_true (by omega)]
            · rw [decide_eq_false h, decide_eq_false (by omega)]
          subst pc
          refine ⟨e6.trans e7, _, vc, u7, rfl, dvc, ?_, lenf _, fun j hj => ?_⟩
          · obtain ⟨p, hp, hz⟩ := gS.leaf
            obtain ⟨j, hj⟩ := List.mem_iff_getElem?.mp hp
            intro h
            have : j ∈ (List.range S.length).filter (fun i => decide (ks S i = 0)) := List.mem_filter.mpr ⟨List.mem_range.mpr (List.getElem?_eq_some_iff.mp hj).1, by rw [ks_of hj, hz]; rfl⟩
            rw [h] at this
            cases this
          · obtain ⟨h1, h2⟩ := memf _ j hj
            exact ⟨h1, .inr (of_decide_eq_true h2)⟩
        · refine ⟨e6, _, vs, u7, rfl, dvs.ex e6, hne rfl, lenf _, fun j hj => ?_⟩
          obtain ⟨h1, h2⟩ := memf _ j hj
          rw [Bool.and_eq_true, decide_eq_true_eq, decide_eq_true_eq] at h2
          exact ⟨h1, .inl h2.2⟩
      · rintro σ' H6 ⟨e6, c, vc, u7, rfl, hc, hne, hc6, hfit⟩
        have lenc : 0 < c.length := List.length_pos_iff.mpr hne
        have hb6 := e6 _ _ hb5
        have ev6 : EvD K M (tCB (fun xs H Q => ∃ p ys, xs = [.ref p] ∧ (SqL K H p ys ∨ SqT K H p ys) ∧ Q (.int ys.length) H) (tCons (tVar 6) tNil)) [some (.ref b), some v, some (.int (m : Int)), some (.ref l), some (.int (d : Int)), some (.int ((m : Int) - r.length - d)), some vc, u7] H6 (.int (c.length : Int)) := by
          have h := evd_lenL (K := K) (M := M) (σ := [some (.ref b), some v, some (.int (m : Int)), some (.ref l), some (.int (d : Int)), some (.int ((m : Int) - r.length - d)), some vc, u7]) (ta := tCons (tVar 6) tNil) (eva_cons (evd_var (d := intsD c) rfl hc) eva_nil)
          rw [List.length_map, ofN_len] at h
          exact h
        -- sign = some[take(box, len(some))]
        refine q_asgP (K := K) (M := M) (P := fun dd => ∃ j : Nat, dd = .int (j : Int) ∧ j ∈ c) ?_ fun vj dj H7 e7 dvj pj => ?_
        · refine evp_op (evd_var rfl hc) (evp_take (ev_var rfl) hb6 ev6 (by omega) (Nat.lt_of_le_of_lt (show ((c.length : Nat) : Int).natAbs ≤ 6 by omega) (by decide))) fun x y a dd H7 e7 dx dy px py Q q => ?_
          obtain ⟨k, rfl, k0, k1⟩ := py
          subst px
          cases dy
          cases dx with
          | lst w1 w2 w3 =>
          obtain ⟨n, rfl⟩ := Int.eq_ofNat_of_zero_le k0
          have hn : c[n]? = some (c[n]'(by omega)) := List.getElem?_eq_getElem _
          obtain ⟨vv, hvv, dvv⟩ := w3.at (i := n) (d := .int ((c[n]'(by omega) : Nat) : Int)) (by rw [List.getElem?_map, ofN_at hn]; rfl)
          exact ⟨_, _, _, vv, rfl, rfl, sq_of w1, atI_nat hvv, q vv _ H7 (Ex.refl _) dvv ⟨_, rfl, List.mem_of_getElem? hn⟩⟩
        obtain ⟨j, rfl, hj⟩ := pj
        cases dvj
        obtain ⟨hjS, hjf⟩ := hfit j hj
        have e57 := e6.trans e7
        have hl7 : H7 l = some (.lst (nums r)) := (e57) _ _ (e5 _ _ (e4 _ _ hl3))
        -- row.append(sign)
        refine q_appP (K := K) (M := M) (P := (· = .int (j : Int))) hl7 rfl (evd_var rfl (.int _)) (by rw [nums_len]; exact Nat.lt_of_le_of_lt (show r.length ≤ 1000 by omega) (by decide)) fun va da H8 e8 dva pa => ?_
        subst pa
        cases dva
        have hlH : H l = none := hl
        have e08 : Ex H (upd H8 l (.lst (nums r ++ [V.int (j : Int)]))) := Ex.mut ((e05.trans e57).trans e8) hlH
        have hv8 : Dt K (more M l) H8 v (.list (S.map sgD)) := (hv.more hlH).ex ((e05.trans e57).trans e8)
        have hl8 := e8 _ _ hl7
        have hv9 : Dt K (more M l) (upd H8 l (.lst (nums r ++ [V.int (j : Int)]))) v (.list (S.map sgD)) := hv8.upd hl8 (.inr rfl)
        refine s_asgP (K := K) (M := more M l) (evd_add (evd_sub (evd_var rfl (.int (d : Int))) evd_int) (arE hv9 (by omega) rfl rfl)) fun vw dw H9 e9 dvw pw => ?_
        subst pw
        cases dvw
        have hrun' := Tr.run_snoc hrun hd hjS
        refine ⟨e08.trans e9, r ++ [j], d - 1 + ks S j, some (.int ((m : Int) - r.length - d)), some vc, some (.int (j : Int)), ?_, ?_, hrun', ?_, by rw [List.length_append]; rfl⟩
        · have hc : (d : Int) - 1 + (ks S j : Int) = ((d - 1 + ks S j : Nat) : Int) := by omega
          exact congrArg (fun z => [some (.ref b), some v, some (.int (m : Int)), some (.ref l), some (V.int z), some (.int ((m : Int) - r.length - d)), some vc, some (.int (j : Int))]) hc
        · rw [e9 _ _ upd_same, nums_app]
          rfl
        · rw [List.length_append, List.length_singleton]
          omega
    · have hd : d = 0 := by have := of_decide_eq_false hd; omega
      subst hd
      obtain ⟨t, ht, rfl⟩ := Tr.run_tree (ks_le gS.kidsOk) hrun
      refine ⟨_, rfl, l, _, rfl, .inl ⟨sq_of (e3 _ _ hl2), fun tp htp => ?_⟩⟩
      have hsz : t.size ≤ m := by unfold Tr.size; omega
      exact q (.ref tp) t _ ((e2.trans e3).trans (Ex.new htp)) ht hsz (.tup upd_same ((nums_dts _)))
end
end TH
set_option maxRecDepth 100000
set_option maxHeartbeats 4000000
namespace TH
open PySem L2 Evl
abbrev sKidSt : Stmt := top 11
abbrev sLKids : Stmt := top 31
/-- where the kids begin of the part u that begins at n -/
def kst (n : Nat) (u : Tr) : List Nat := (List.range u.kids.length).map fun j => n + 1 + Tr.sizeF (u.kids.take j)
theorem kst_len (n : Nat) (u : Tr) : (kst n u).length = u.kids.length := by unfold kst; rw [List.length_map, List.length_range]
theorem kst_at {n j : Nat} {u : Tr} (h : j < u.kids.length) : (kst n u)[j]? = some (n + 1 + Tr.sizeF (u.kids.take j)) := by
  unfold kst
  rw [List.getElem?_map, List.getElem?_range h]
  rfl
theorem kids_num {S : List Sg} {u : Tr} (hK : KidsOk S) (hO : OkT S u) : ∃ r, S[u.root]? = some r ∧ r.2 = (u.kids.length : Int) := by
  have hrt : u.root < S.length := hO.root
  have hSr : S[u.root]? = some (S[u.root]'hrt) := List.getElem?_eq_getElem hrt
  refine ⟨_, hSr, ?_⟩
  have h1 := hO.ark
  rw [ks_of hSr] at h1
  have := hK _ (List.mem_of_getElem? hSr)
  omega
theorem okT_suf {S : List Sg} {t u : Tr} {us : List Tr} {n : Nat} (hO : OkT S t) (h : Tr.suf n [t] = u :: us) : OkT S u :=
  Tr.okF_suf n (ts := [t]) (fun x hx => by rw [List.mem_singleton.mp hx]; exact hO) u (by rw [h]; exact List.mem_cons_self)
def spKidSt (K : PySem.W.Frag) (C : Addr) : Sp := fun vs H Q _ => ∃ (p : Addr) (v z : V) (S : List Sg) (t u : Tr) (us : List Tr) (n : Nat), vs = [.ref p, v, z, .int (n : Int)] ∧ BookAt C MF H p S ∧ KidsOk S ∧ Dt K MF H v (rowD t) ∧ Dt K MF H z (intsD t.sizes) ∧ OkT S t ∧ Tr.suf n [t] = u :: us ∧
  ∀ l H', H l = none → Ex H H' → H' l = some (.lst (nums (kst n u))) → Q (.ref l) H'
section
variable {P : Program} {w : World} {K : PySem.W.Frag} {mg : Str → Option Value} {base : Heap} {C : Addr}
abbrev nKidSt : List Str := ["book", "row", "sizes", "start", "starts", "behind", "_"]
theorem scKidSt : FnScope nKidSt ["book", "row", "sizes", "start"] (defScope sKidSt) := ⟨rfl, rfl, rfl, by decide +kernel, rfl, by decide +kernel, by decide +kernel⟩
theorem ok_kidst {f : Addr} {fd : FuncData} (F : Fun K "kid_starts" "kid_starts" sKidSt f fd) (G : Glob mg) (B : BookK P w K mg base C) : FnOk P w K mg base CX0 2 f fd ["book", "row", "sizes", "start"] (spKidSt K C) := by
  obtain ⟨T, _, ⟨f2, d2, m2, g2, b2⟩⟩ := B
  refine F.ok scKidSt (fun vs H Q E h => ?_) (fun cdv A outer s H vs Q E hr h => ?_)
  · obtain ⟨p, v, z, S, t, u, us, n, rfl, _⟩ := h
    rfl
  · obtain ⟨p, v, z, S, t, u, us, n, rfl, hB, hK, hv, hzs, hO, hsu, q⟩ := h
    refine ⟨_, pss_cons (ps_set (i := 4) scKidSt.nd rfl (.inl rfl) (pe_lst pa_nil))
      (pss_cons (ps_set (i := 5) scKidSt.nd rfl (.inl rfl) (pe_op op_add (pv 3) pe_int))
      (pss_cons (ps_for PassesOwn.never rfl (pi_range1 rfl G.range (pa_cons (pe_meth (pv 0) T.cl m2 g2 hr b2 .nil pass0 (pa_cons (pe_ix ix_tup (pv 1) (pv 3) (fun _ _ => rfl)) pa_nil)) pa_nil)) (pg_name (i := 6) scKidSt.nd rfl (.inl rfl))
        (pss_cons (ps_expr (pe_bm PySem.F.plainAttrs_list PySem.F.slot_list_append PySem.F.type_list_append mt_append (pv 4) (pa_cons (pv 5) pa_nil)))
        (pss_one (ps_set (i := 5) scKidSt.nd rfl (.inl rfl) (pe_op op_add (pv 5) (pe_ix ix_list (pv 2) (pv 5) (fun _ _ => rfl)))))))
      (pss_one (ps_ret (pv 4))))), ?_⟩
    refine ⟨by decide, fun l hl => ?_⟩
    have e1 : Ex H (upd H l (.lst [])) := Ex.new hl
    have hl1 : (upd H l (.lst [])) l = some (.lst []) := upd_same
    generalize upd H l (.lst []) = H1 at e1 hl1
    have hOu := okT_suf hO hsu
    obtain ⟨r, hr1, hr2⟩ := kids_num hK hOu
    have hk2 := Tr.kids_le u
    refine q_asgP (K := K) (M := MF) (evd_add (evd_var rfl (.int (n : Int))) evd_int) fun v5 d5 H2 e2 dv5 pd5 => ?_
    subst pd5
    cases dv5
    have hl2 := e2 _ _ hl1
    have e12 := e1.trans e2
    refine q_forR1 (ea_cons (ev_ofI (K := K) (M := MF) (evd_kids (j := u.root) rfl (hB.ex e12) (evd_ixT (j := n) (ds := (ofN t.row).map PyData.int) (evd_var (d := rowD t) rfl (hv.ex e12)) (evd_var rfl (.int _)) rfl (by rw [List.getElem?_map, ofN_at (Tr.row_at hsu)]; rfl)) rfl hr1)) ea_nil) (by omega)
      (fun j σ' H' => Ex H H' ∧ ∃ u6, σ' = [some (.ref p), some v, some z, some (.int (n : Int)), some (.ref l), some (.int ((n + 1 + Tr.sizeF (u.kids.take j) : Nat) : Int)), u6] ∧ H' l = some (.lst (nums ((kst n u).take j))))
      (fun H3 e3 => ⟨e12.trans e3, none, rfl, e3 _ _ hl2⟩) ?_ ?_
    · rintro j σ' H3 hj ⟨e3, u6, rfl, hl3⟩
      rw [hr2] at hj
      have hjn : j < u.kids.length := by omega
      have hk : u.kids[j]? = some (u.kids[j]'hjn) := List.getElem?_eq_getElem _
      have hjz := Tr.sizes_at (Tr.suf_kid hsu hk)
      refine q_appP (K := K) (M := MF) (P := (· = .int _)) hl3 rfl (evd_var rfl (.int ((n + 1 + Tr.sizeF (u.kids.take j) : Nat) : Int))) (by rw [nums_len, List.length_take, kst_len]; exact Nat.lt_of_le_of_lt (Nat.le_trans (Nat.min_le_right _ _) hk2) (by decide)) fun va da H4 e4 dva pa => ?_
      subst pa
      cases dva
      have e34 : Ex H (upd H4 l (.lst (nums ((kst n u).take j) ++ [V.int ((n + 1 + Tr.sizeF (u.kids.take j) : Nat) : Int)]))) := Ex.mut (e3.trans e4) hl
      have hz4 : Dt K (more MF l) (upd H4 l (.lst (nums ((kst n u).take j) ++ [V.int ((n + 1 + Tr.sizeF (u.kids.take j) : Nat) : Int)]))) z (intsD t.sizes) := ((hzs.more hl).ex (e3.trans e4)).upd (e4 _ _ hl3) (.inr rfl)
      refine s_asgP (K := K) (M := more MF l) (evd_add (evd_var rfl (.int _)) (evd_ixL (j := n + 1 + Tr.sizeF (u.kids.take j)) (ds := (ofN t.sizes).map PyData.int) (evd_var (d := intsD t.sizes) rfl hz4) (evd_var rfl (.int _)) rfl (by rw [List.getElem?_map, ofN_at hjz]; rfl))) fun vb db H5 e5 dvb pb => ?_
      subst pb
      cases dvb
      refine ⟨e34.trans e5, some (.int (j : Int)), ?_, ?_⟩
      · rw [Tr.sizeF_take hk]
        have hc : ((n + 1 + Tr.sizeF (u.kids.take j) : Nat) : Int) + ((u.kids[j]'hjn).size : Int) = ((n + 1 + (Tr.sizeF (u.kids.take j) + (u.kids[j]'hjn).size) : Nat) : Int) := by omega
        exact congrArg (fun x => [some (.ref p), some v, some z, some (.int (n : Int)), some (.ref l), some (V.int x), some (.int (j : Int))]) hc
      · rw [e5 _ _ upd_same, Tr.take_snoc (kst_at hjn), nums_app]
        rfl
    · rintro σ' H3 ⟨e3, u6, rfl, hl3⟩
      rw [hr2, Int.toNat_natCast, ← kst_len n u, List.take_length] at hl3
      exact ⟨_, rfl, q l H3 hl e3 hl3⟩
end
/-! ### the kids' rows, by the law -/
def spLKids (K : PySem.W.Frag) : Sp := fun vs H Q _ => ∃ (M : Addr → Prop) (v z : V) (S : List Sg) (u : Tr), vs = [v, z] ∧ Ok M H ∧ Dt K M H v (.list (S.map sgD)) ∧ KidsOk S ∧ Dt K MF H z (rowD u) ∧ OkT S u ∧
  ∀ l xs H', H l = none → Ex H H' → H' l = some (.lst xs) → Dts K MF H' xs (u.kids.map rowD) → Q (.ref l) H'
theorem rowD_cut {t u : Tr} {us : List Tr} {n : Nat} (h : Tr.suf n [t] = u :: us) : PyData.tuple (cutG ((ofN t.row).map PyData.int) (some (n : Int)) (some ((n + u.size : Nat) : Int))) = rowD u := by
  obtain ⟨h1, h2, _⟩ := Tr.suf_row h
  rw [Tr.row_one] at h1
  rw [Tr.size_one] at h2
  rw [cutG_nat _ _ _ (by omega) (by rw [List.length_map, ofN_len]; exact h2), Nat.add_sub_cancel_left]
  unfold rowD tupI ofN
  rw [← h1]
  simp only [List.map_drop, List.map_take]
section
variable {P : Program} {w : World} {K : PySem.W.Frag} {mg : Str → Option Value} {base : Heap} {C : Addr}
abbrev nLKids : List Str := ["_law_signs_here", "_law_row_here", "_law_found", "_law_begin", "_law_turn", "_law_stop", "_law_wanted"]
theorem scLKids : FnScope nLKids ["_law_signs_here", "_law_row_here"] (defScope sLKids) := ⟨rfl, rfl, rfl, by decide +kernel, rfl, by decide +kernel, by decide +kernel⟩
theorem ok_lkids {f : Addr} {fd : FuncData} (F : Fun K "_law_kids" "_law_kids" sLKids f fd) (G : Glob mg) : FnOk P w K mg base CX0 1 f fd ["_law_signs_here", "_law_row_here"] (spLKids K) := by
  refine F.ok scLKids (fun vs H Q E h => ?_) (fun cdv A outer s H vs Q E hr h => ?_)
  · obtain ⟨M, v, z, S, u, rfl, _⟩ := h
    rfl
  · obtain ⟨M, v, z, S, u, rfl, ok, hv, hK, hz, hO, q⟩ := h
    refine ⟨_, pss_cons (ps_par (by rfl) scLKids.nd (i := 2) (j := 3) rfl rfl (by decide) rfl rfl (pa_cons (pe_lst pa_nil) (pa_cons pe_int pa_nil)) (by rfl))
      (pss_cons (ps_for PassesOwn.never rfl (pi_range1 rfl G.range (pa_cons (pe_ix ix_tup (pe_ix ix_list (pv 0) (pe_ix ix_tup (pv 1) pe_int (fun _ _ => rfl)) (fun _ _ => rfl)) pe_int (fun _ _ => rfl)) pa_nil)) (pg_name (i := 4) scLKids.nd rfl (.inl rfl))
        (pss_cons (ps_par (by rfl) scLKids.nd (i := 5) (j := 6) rfl rfl (by decide) rfl rfl (pa_cons (pv 3) (pa_cons pe_int pa_nil)) (by rfl))
        (pss_cons (ps_while PassesOwn.never (pt_cmpR op_gt (pv 6) pe_int (nomark _))
          (pss_cons (ps_set (i := 6) scLKids.nd rfl (.inl rfl) (pe_op op_add (pe_op op_sub (pv 6) pe_int) (pe_ix ix_tup (pe_ix ix_list (pv 0) (pe_ix ix_tup (pv 1) (pv 5) (fun _ _ => rfl)) (fun _ _ => rfl)) pe_int (fun _ _ => rfl))))
          (pss_one (ps_set (i := 5) scLKids.nd rfl (.inl rfl) (pe_op op_add (pv 5) pe_int)))))
        (pss_cons (ps_expr (pe_bm PySem.F.plainAttrs_list PySem.F.slot_list_append PySem.F.type_list_append mt_append (pv 2) (pa_cons (pe_slice sl_tupA (pv 1) (po_some (pv 3)) (po_some (pv 5))) pa_nil)))
        (pss_one (ps_set (i := 3) scLKids.nd rfl (.inl rfl) (pv 5)))))))
      (pss_one (ps_ret (pv 2)))), ?_⟩
    refine ⟨by decide, fun l hl => ⟨_, _, rfl, ?_⟩⟩
    have e1 : Ex H (upd H l (.lst [])) := Ex.new hl
    have hl1 : (upd H l (.lst [])) l = some (.lst []) := upd_same
    generalize upd H l (.lst []) = H1 at e1 hl1
    obtain ⟨r, hr1, hr2⟩ := kids_num hK hO
    have hk2 := Tr.kids_le u
    have s0 : Tr.suf 0 [u] = u :: [] := rfl
    -- how many kids the sign at a place has
    have arE : ∀ {M' : Addr → Prop} {i n : Nat} {x : Tr} {xs : List Tr} {te : TE} {H' : Hp} {σ2 : L2.St}, Dt K M' H' v (.list (S.map sgD)) → Dt K M' H' z (rowD u) → Tr.suf n [u] = x :: xs → σ2[0]? = some (some v) → σ2[1]? = some (some z) → EvD K M' te σ2 H' (.int (n : Int)) →
        EvD K M' (tOp (rIxT K) (tOp (rIxL K) (tVar 0) (tOp (rIxT K) (tVar 1) te)) (tC (.int 1))) σ2 H' (.int (x.kids.length : Int)) := fun {M' i n x xs te H' σ2} hv hz hs h0 h1 ht => by
      obtain ⟨r, hr1, hr2⟩ := kids_num hK (okT_suf hO hs)
      have h := evd_ar (k := 0) (K := K) (M := M') (σ := σ2) (te := tOp (rIxT K) (tVar 1) te) h0 hv (evd_ixT (j := n) (ds := (ofN u.row).map PyData.int) (evd_var (d := rowD u) h1 hz) ht rfl (by rw [List.getElem?_map, ofN_at (Tr.row_at hs)]; rfl)) rfl hr1
      rw [hr2] at h
      exact h
    have hv0 : Dt K (more M l) H v (.list (S.map sgD)) := hv.more hl
    have hz0 : Dt K (more M l) H z (rowD u) := dt_any hz
    refine q_forR1 (ea_cons (ev_ofI (K := K) (M := more M l) (arE (i := 0) (hv0.ex e1) (hz0.ex e1) s0 rfl rfl evd_int)) ea_nil) (by omega)
      (fun j σ' H' => Ex H H' ∧ ∃ xs u4 u5 u6, σ' = [some v, some z, some (.ref l), some (.int ((1 + Tr.sizeF (u.kids.take j) : Nat) : Int)), u4, u5, u6] ∧ H' l = some (.lst xs) ∧ Dts K MF H' xs ((u.kids.take j).map rowD))
      (fun H3 e3 => ⟨e1.trans e3, [], none, none, none, rfl, e3 _ _ hl1, .nil⟩) ?_ ?_
    · rintro j σ' H3 hj ⟨e3, xs, u4, u5, u6, rfl, hl3, dxs⟩
      have hjn : j < u.kids.length := by omega
      have hk : u.kids[j]? = some (u.kids[j]'hjn) := List.getElem?_eq_getElem _
      generalize u.kids[j]'hjn = k at hk
      have hsk := Tr.suf_kid s0 hk
      rw [Nat.zero_add] at hsk
      generalize hB : 1 + Tr.sizeF (u.kids.take j) = n at hsk
      refine ⟨_, rfl, _, _, rfl, ?_⟩
      refine q_while (fun m σ' H' => Ex H3 H' ∧ ∃ i : Nat, σ' = [some v, some z, some (.ref l), some (.int (n : Int)), some (.int (j : Int)), some (.int ((n + i : Nat) : Int)), some (.int ((Tr.suf i [k]).length : Int))] ∧ i ≤ k.size ∧ m = k.size - i)
        k.size ⟨Ex.refl _, 0, rfl, Nat.zero_le _, rfl⟩ ?_
      rintro m σ' H4 ⟨e4, i, rfl, hi, rfl⟩
      have hv4 := hv0.ex (e3.trans e4)
      have hz4 := hz0.ex (e3.trans e4)
      refine ⟨decide (0 < ((Tr.suf i [k]).length : Int)), evt_test (K := K) (M := MF) (evd_cmp (g := fun i j => decide (j < i)) (evd_var rfl (.int _)) evd_int), fun hd H5 e5 => ?_, fun hd H5 e5 => ?_⟩
      · have hd := of_decide_eq_true hd
        have hlt : i < Tr.sizeF [k] := by
          rw [← Nat.not_le]
          intro h
          rw [Tr.suf_nil.mpr h] at hd
          exact absurd hd (by decide)
        obtain ⟨x, xs', hx, _⟩ := Tr.suf_cons hlt
        refine ⟨fun σ' H' => Ex H3 H' ∧ σ' = [some v, some z, some (.ref l), some (.int (n : Int)), some (.int (j : Int)), some (.int ((n + (i + 1) : Nat) : Int)), some (.int ((Tr.suf (i + 1) [k]).length : Int))],
          fun σ2 H6 ⟨e6, h⟩ => ⟨k.size - (i + 1), by rw [Tr.size_one] at hlt; omega, e6, i + 1, h, by rw [Tr.size_one] at hlt; omega, rfl⟩, ?_⟩
        have hxu : Tr.suf (n + i) [u] = x :: (xs' ++ (u.kids.drop (j + 1) ++ [])) := by
          rw [Tr.suf_add, hsk, show k :: (u.kids.drop (j + 1) ++ []) = [k] ++ (u.kids.drop (j + 1) ++ []) from rfl, Tr.suf_in _ _ _ (Nat.le_of_lt hlt), hx]
          rfl
        refine q_asgP (K := K) (M := more M l) (evd_add (evd_sub (evd_var rfl (.int _)) evd_int) (arE (i := 0) (hv4.ex e5) (hz4.ex e5) hxu rfl rfl (evd_var rfl (.int _)))) fun v6 d6 H6 e6 dv6 pd6 => ?_
        subst pd6
        cases dv6
        refine s_asgP (K := K) (M := MF) (evd_add (evd_var rfl (.int _)) evd_int) fun v7 d7 H7 e7 dv7 pd7 => ?_
        subst pd7
        cases dv7
        refine ⟨((e4.trans e5).trans e6).trans e7, ?_⟩
        have hc1 : ((n + i : Nat) : Int) + 1 = ((n + (i + 1) : Nat) : Int) := by omega
        have hc2 : ((Tr.suf i [k]).length : Int) - 1 + (x.kids.length : Int) = ((Tr.suf (i + 1) [k]).length : Int) := by
          rw [Tr.suf_succ, hx]
          show (((x :: xs').length : Nat) : Int) - 1 + _ = ((x.kids ++ xs').length : Int)
          rw [List.length_append, List.length_cons]
          omega
        rw [← hc1, ← hc2]
        rfl
      · have hd := of_decide_eq_false hd
        have hle : Tr.sizeF [k] ≤ i := by
          refine Tr.suf_nil.mp ?_
          cases h : Tr.suf i [k] with
          | nil => rfl
          | cons x xs =>
            rw [h, List.length_cons] at hd
            omega
        have hik : i = k.size := by rw [Tr.size_one] at hle; omega
        subst hik
        have e35 := e4.trans e5
        have hl5 := e35 _ _ hl3
        refine q_appP (K := K) (M := MF) (P := (· = rowD k)) hl5 rfl ((evd_slT (ds := (ofN u.row).map PyData.int) (evd_var (d := rowD u) rfl (dt_any (hz4.ex e5))) (evo_some (evd_var rfl (.int _))) (evo_some (evd_var rfl (.int _)))).mono fun d h => h.trans (rowD_cut hsk))
          (by rw [dxs.length, List.length_map, List.length_take]; exact Nat.lt_of_le_of_lt (Nat.le_trans (Nat.min_le_right _ _) hk2) (by decide)) fun va da H6 e6 dva pa => ?_
        subst pa
        have hl6 := e6 _ _ hl5
        refine ⟨_, rfl, Ex.mut ((e3.trans e35).trans e6) hl, xs ++ [va], some (.int (j : Int)), some (.int ((n + k.size : Nat) : Int)), some (.int ((Tr.suf k.size [k]).length : Int)), ?_, upd_same, ?_⟩
        · rw [Tr.sizeF_take hk, ← Nat.add_assoc, hB]
          rfl
        · rw [Tr.take_snoc hk, List.map_append]
          have hnl : ∀ {d : PyData} {x : V} {ns : List Int}, Dt K MF H6 x (tupI ns) → Dt K MF (upd H6 l (.lst (xs ++ [va]))) x (tupI ns) := fun {d x ns} h => by
            obtain ⟨a, rfl, h1⟩ := dt_tupS h
            exact dt_of_tup (by rw [upd_ne (ne_of h1 hl6 (by intro z; cases z))]; exact h1)
          have key : ∀ {ys : List V} {ts : List Tr}, Dts K MF H6 ys (ts.map rowD) → Dts K MF (upd H6 l (.lst (xs ++ [va]))) ys (ts.map rowD) := by
            intro ys ts h
            induction ts generalizing ys with
            | nil => cases h; exact .nil
            | cons t ts ih =>
              cases h with
              | cons h1 h2 => exact .cons (hnl (d := .none) h1) (ih h2)
          exact (key (dxs.ex (e35.trans e6))).append (.one (hnl (d := .none) dva))
    · rintro σ' H3 ⟨e3, xs, u4, u5, u6, rfl, hl3, dxs⟩
      rw [Int.toNat_natCast, List.take_length] at dxs
      exact ⟨_, rfl, q l xs H3 hl e3 hl3 dxs⟩
end
end TH
set_option maxRecDepth 100000
set_option maxHeartbeats 4000000
namespace TH
open PySem PySem.Spec PyProof.Rows L2 Evl
/-! ### a zip of two iterators, its first tuple kept by the list that it fills -/
section
variable {prog : Program} {w : World} {A : Around} {E : Value → Shared → Prop} {s : Shared} {z TI TO T i1 i2 : Addr} {fp1 fp2 : List Addr} {n1 n2 i : Nat} {P1 P2 : Nat → Value → Prop} {St1 St2 : Nat → Heap → Prop} {f : Bool} {oT : Obj}
theorem held_item {Q : Value → Shared → Prop} (S : ZipSep2 z TI TO i1 i2 fp1 fp2) (D1 : Draws prog w A i1 fp1 n1 P1 St1) (D2 : Draws prog w A i2 fp2 n2 P2 St2)
    (hz : IsZipHeld s.heap z TI TO T f) (hT : s.heap.get? T = some oT) (hTI : IsTupOf2 s.heap TI (.ref i1) (.ref i2)) (st1 : St1 i s.heap) (st2 : St2 i s.heap) (l1 : i < n1) (l2 : i < n2)
    (hQ : ∀ x y h' tk, P1 i x → P2 i y → IsZipHeld h' z TI TO T true → St1 (i + 1) h' → St2 (i + 1) h' → IsTupOf2 h' s.heap.objs.size x y → h'.objs.size = s.heap.objs.size + 1 → (∀ c o, c ≠ z → c ≠ i1 → c ≠ i2 → s.heap.get? c = some o → h'.get? c = some o) → Q (.ref s.heap.objs.size) { s with heap := h', toks := tk }) :
    wpAny (model prog w) A (Builtin.«zip.__next__» ⟨[.ref z], []⟩) (fun fin s' => ∃ v, fin = .done (.ret v) ∧ Q v s') E s := by
  show wpAny _ _ (field (.ref z) 2 >>= _) _ _ _; refine wpAny_bind (wpAny_field hz rfl (x := .bool false) rfl ?_)
  show wpAny _ _ (field (.ref z) 3 >>= _) _ _ _; refine wpAny_bind (wpAny_field hz rfl (x := .ref TI) rfl (wpAny_bind (wpAny_seqItems hTI rfl ?_)))
  show wpAny _ _ (Builtin.SmallTypes.ownedTupleIsFree (.ref z) >>= _) _ _ _; refine wpAny_bind (wpAny_tupleHeld_zip hz hT fun g1 z1 k1 => ?_)
  simp only [Bool.false_eq_true, if_false]; refine wpAny_bind ?_
  rw [← Array.forIn_toList]; simp only [List.forIn_cons, List.forIn_nil]; refine wpAny_bind (wpAny_bind (wpAny_holding ?_))
  show wpAny _ _ (Builtin.SmallTypes.nextOf (.ref i1) >>= _) _ _ _; refine wpAny_bind (D1.item i { s with heap := g1 } _ _ l1 (D1.over st1 k1 S.zf1) fun x g2 t2 hx sn1 k2 => wpAny_pure ?_)
  refine wpAny_pure (wpAny_bind (wpAny_bind (wpAny_holding ?_)))
  show wpAny _ _ (Builtin.SmallTypes.nextOf (.ref i2) >>= _) _ _ _; refine wpAny_bind (D2.item i { s with heap := g2, toks := t2 } _ _ l2 (D2.over (D2.over st2 k1 S.zf2) k2 S.sep1_2) fun y g3 t3 hy sn2 k3 => wpAny_pure ?_)
  refine wpAny_pure (wpAny_pure ?_)
  show wpAny _ _ (newTuple [x, y] >>= _) _ _ _; refine wpAny_bind (wpAny_newTuple (wpAny_pure ⟨_, rfl, ?_⟩))
  replace k2 : Heap.SameBut i1 g1 g2 := k2
  replace k3 : Heap.SameBut i2 g2 g3 := k3
  have sz : g3.objs.size = s.heap.objs.size := by rw [k3.1, k2.1, k1.1]
  have zz : IsZipHeld g3 z TI TO T true := k3.extBut _ _ S.zi2 (k2.extBut _ _ S.zi1 z1)
  have hk : ∀ c o, c ≠ z → c ≠ i1 → c ≠ i2 → s.heap.get? c = some o → g3.get? c = some o := fun c o c1 c2 c3 e => k3.extBut _ _ c3 (k2.extBut _ _ c2 (k1.extBut _ _ c1 e))
  show Q (.ref g3.objs.size) _
  have up : ∀ c o, g3.get? c = some o → (g3.push { cls := .type "tuple", data := .seq #[x, y] }).get? c = some o := fun c o e => Heap.get?_push_of_some _ e
  have hp : IsTupOf2 (g3.push { cls := .type "tuple", data := .seq #[x, y] }) g3.objs.size x y := Heap.get?_push_size _ rfl
  have s4 : (g3.push { cls := .type "tuple", data := .seq #[x, y] }).objs.size = g3.objs.size + 1 := Heap.size_push ..
  rw [sz] at hp s4 ⊢
  exact hQ x y _ t3 hx hy (up _ _ zz) (D1.frame _ _ _ (D1.over sn1 k3 S.sep2_1) fun b _ o e => up b o e) (D2.frame _ _ _ sn2 fun b _ o e => up b o e) hp s4 fun c o c1 c2 c3 e => up c o (hk c o c1 c2 c3 e)
theorem held_end {Q : PySem.Fin → Shared → Prop} (S : ZipSep2 z TI TO i1 i2 fp1 fp2) (D1 : Draws prog w A i1 fp1 i P1 St1)
    (hz : IsZipHeld s.heap z TI TO T f) (hT : s.heap.get? T = some oT) (hTI : IsTupOf2 s.heap TI (.ref i1) (.ref i2)) (st1 : St1 i s.heap)
    (hE : ∀ h' e, (∀ c o, c ≠ z → c ≠ i1 → s.heap.get? c = some o → h'.get? c = some o) → (∃ o, h'.get? e = some o ∧ o.cls = .type "StopIteration") → E (.ref e) { s with heap := h' }) :
    wpAny (model prog w) A (Builtin.«zip.__next__» ⟨[.ref z], []⟩) Q E s := by
  show wpAny _ _ (field (.ref z) 2 >>= _) _ _ _; refine wpAny_bind (wpAny_field hz rfl (x := .bool false) rfl ?_)
  show wpAny _ _ (field (.ref z) 3 >>= _) _ _ _; refine wpAny_bind (wpAny_field hz rfl (x := .ref TI) rfl (wpAny_bind (wpAny_seqItems hTI rfl ?_)))
  show wpAny _ _ (Builtin.SmallTypes.ownedTupleIsFree (.ref z) >>= _) _ _ _; refine wpAny_bind (wpAny_tupleHeld_zip hz hT fun g1 z1 k1 => ?_)
  simp only [Bool.false_eq_true, if_false]; refine wpAny_bind ?_
  rw [← Array.forIn_toList]; simp only [List.forIn_cons, List.forIn_nil]; refine wpAny_bind (wpAny_bind (wpAny_holding ?_))
  show wpAny _ _ (Builtin.SmallTypes.nextOf (.ref i1) >>= _) _ _ _
  exact wpAny_bind (D1.done { s with heap := g1 } _ _ (D1.over st1 k1 S.zf1) fun g2 e k2 he => hE g2 e (fun c o c1 c2 x => k2 _ _ c2 (k1.extBut _ _ c1 x)) he)
theorem held_next {Q : Option Value → Shared → Prop} (S : ZipSep2 z TI TO i1 i2 fp1 fp2) (D1 : Draws prog w A.in1 i1 fp1 n1 P1 St1) (D2 : Draws prog w A.in1 i2 fp2 n2 P2 St2)
    (hz : IsZipHeld s.heap z TI TO T f) (hT : s.heap.get? T = some oT) (hTI : IsTupOf2 s.heap TI (.ref i1) (.ref i2)) (st1 : St1 i s.heap) (st2 : St2 i s.heap) (l1 : i < n1) (l2 : i < n2)
    (hQ : ∀ x y h' tk, P1 i x → P2 i y → IsZipHeld h' z TI TO T true → St1 (i + 1) h' → St2 (i + 1) h' → IsTupOf2 h' s.heap.objs.size x y → h'.objs.size = s.heap.objs.size + 1 → (∀ c o, c ≠ z → c ≠ i1 → c ≠ i2 → s.heap.get? c = some o → h'.get? c = some o) → Q (some (.ref s.heap.objs.size)) { s with heap := h', toks := tk }) :
    wpAny (model prog w) A (pyNext (.ref z)) Q E s := by
  have hTy : s.TypeIs (.ref z) "zip" := ⟨_, hz, rfl⟩
  unfold pyNext; exact wpAny_bind (wpAny_attempt (wpAny_callSpecial?_slot (name := Str.ofString "__next__") hTy F.slot_zip_next (wpAny_call_entry F.slot_zip_next hTy F.entry_zip_next
    (held_item S D1 D2 hz hT hTI st1 st2 l1 l2 fun x y h' tk a1 a2 a3 a4 a5 a6 a7 a8 => wpAny_pure (hQ x y h' tk a1 a2 a3 a4 a5 a6 a7 a8)) (F.args_zip_next_1 _))))
theorem held_stop {Q : Option Value → Shared → Prop} (S : ZipSep2 z TI TO i1 i2 fp1 fp2) (D1 : Draws prog w A.in1 i1 fp1 i P1 St1)
    (hz : IsZipHeld s.heap z TI TO T f) (hT : s.heap.get? T = some oT) (hTI : IsTupOf2 s.heap TI (.ref i1) (.ref i2)) (st1 : St1 i s.heap)
    (hQ : ∀ h', (∀ c o, c ≠ z → c ≠ i1 → s.heap.get? c = some o → h'.get? c = some o) → Q none { s with heap := h' }) : wpAny (model prog w) A (pyNext (.ref z)) Q E s := by
  have hTy : s.TypeIs (.ref z) "zip" := ⟨_, hz, rfl⟩
  unfold pyNext; refine wpAny_bind (wpAny_attempt (wpAny_callSpecial?_slot (name := Str.ofString "__next__") hTy F.slot_zip_next (wpAny_call_entry F.slot_zip_next hTy F.entry_zip_next
    (held_end S D1 hz hT hTI st1 fun h' e hk he => ?_) (F.args_zip_next_1 _))))
  obtain ⟨o, ho, hc⟩ := he
  exact wpAny_bind (wpAny_isInstance (T := "StopIteration") (b := true) ⟨o, ho, hc⟩ isSubtype_stop (wpAny_pure (hQ _ hk)))
end
namespace F
theorem zip_no_len : typeLookup (.type "zip") "__len__" = pure none := am_miss_of_fast (by decide +kernel)
theorem zip_no_hint : typeLookup (.type "zip") "__length_hint__" = pure none := am_miss_of_fast (by decide +kernel)
end F
end TH
namespace TH
open PySem PySem.Spec PyProof.Rows L2 Evl
section
variable {X : Cx} {pins : List (Addr × Obj)} {σ : L2.St} {A : Around} {R : Result → Shared → Prop} {z TI TO i1 i2 S : Addr} {fp1 fp2 : List Addr} {n : Nat} {P1 P2 : Nat → Value → Prop} {St1 St2 : Nat → Heap → Prop} {xs ys : List V} {res : Value} {H0 : Hp}
theorem fpok_upd {H : Hp} {b c : Addr} {o : HO} (h : FpOk X pins H b) (hne : b ≠ c) : FpOk X pins (upd H c o) b := ⟨by rw [upd_ne hne]; exact h.1, h.2⟩
/-- what holds of the list and the zip at the i-th turn -/
structure ZAt (X : Cx) (pins : List (Addr × Obj)) (σ : L2.St) (z TI i1 i2 S : Addr) (St1 St2 : Nat → Heap → Prop) (xs ys : List V) (H0 : Hp) (i : Nat) (s : Shared) (H : Hp) (ts : List Addr) : Prop where
  I : Inv X pins σ H s
  up : ∀ b o, H0 b = some o → b ≠ S → H b = some o
  hS : H S = some (.lst (ts.map V.ref))
  len : ts.length = i
  pr : Paired (fun (t : Addr) (p : V × V) => H t = some (.tup [p.1, p.2])) ts ((xs.zip ys).take i)
  hTI : IsTupOf2 s.heap TI (.ref i1) (.ref i2)
  st1 : St1 i s.heap
  st2 : St2 i s.heap
  fz : FpOk X pins H z
  f1 : FpOk X pins H i1
  f2 : FpOk X pins H i2
theorem paired_upd {H : Hp} {c : Addr} {o : HO} : ∀ {ts : List Addr} {ps : List (V × V)}, Paired (fun (t : Addr) (p : V × V) => H t = some (.tup [p.1, p.2])) ts ps → (∀ t u, H t = some (.tup u) → t ≠ c) → Paired (fun (t : Addr) (p : V × V) => upd H c o t = some (.tup [p.1, p.2])) ts ps
  | _, _, .nil, _ => .nil
  | _, _, .cons h t, k => .cons (by rw [upd_ne (k _ _ h)]; exact h) (paired_upd t k)
/-- the list gets the tuple that the zip has given -/
theorem zat_step {i : Nat} {s : Shared} {H : Hp} {ts : List Addr} {h' : Heap} {tk : Nat} {ch : List Addr} {u v : Value} {x y : V} (Z : ZAt X pins σ z TI i1 i2 S St1 St2 xs ys H0 i s H ts) (hx : xs[i]? = some x) (hy : ys[i]? = some y) (rx : RelV x u) (ry : RelV y v)
    (hsz : S < s.heap.objs.size) (lz : z < s.heap.objs.size) (li1 : i1 < s.heap.objs.size) (li2 : i2 < s.heap.objs.size) (hSTI : S ≠ TI) (fr1 : ∀ h h', St1 (i + 1) h → (∀ b o, b ≠ S → h.get? b = some o → h'.get? b = some o) → St1 (i + 1) h') (fr2 : ∀ h h', St2 (i + 1) h → (∀ b o, b ≠ S → h.get? b = some o → h'.get? b = some o) → St2 (i + 1) h')
    (hf : ∀ b ∈ ch, FpOk X pins H b) (hch : TI ∉ ch) (hn : ts.length + 1 ≤ sizeLine)
    (hT : IsTupOf2 h' s.heap.objs.size u v) (s1 : St1 (i + 1) h') (s2 : St2 (i + 1) h') (hk : ∀ c o, c ∉ ch → s.heap.get? c = some o → h'.get? c = some o) :
    ∃ its m, h'.get? S = some { cls := .type "list", data := .seq its m } ∧ its.size = i ∧ ZAt X pins σ z TI i1 i2 S St1 St2 xs ys H0 (i + 1) { s with heap := h'.update S (Obj.mapSeq (·.push (.ref s.heap.objs.size))), toks := tk }
      (upd (upd H s.heap.objs.size (.tup [x, y])) S (.lst ((ts ++ [s.heap.objs.size]).map V.ref))) (ts ++ [s.heap.objs.size]) := by
  have new : ObjOk X.prog X.w (upd H s.heap.objs.size (.tup [x, y])) h' s.heap.objs.size (.tup [x, y]) := ⟨by show 2 ≤ sizeLine; decide, [u, v], .cons rx (.cons ry .nil), ⟨_, hT, rfl, _, rfl⟩⟩
  have I1 := Z.I.turnedNew (t' := tk) (ch := ch) hk hf (Nat.le_refl _) new
  have hne : S ≠ s.heap.objs.size := Nat.ne_of_lt hsz
  have hS1 : upd H s.heap.objs.size (.tup [x, y]) S = some (.lst (ts.map V.ref)) := by rw [upd_ne hne]; exact Z.hS
  obtain ⟨_, its, m, rv, hl, e⟩ := I1.lstM hS1
  have nT : ∀ t w, H t = some w → t ≠ s.heap.objs.size := fun t w h => ne_of_none h Z.I.fresh
  refine ⟨its.toArray, m, e, ?_, ?_⟩
  · have := Z.len
    rw [List.length_map] at hl
    rw [List.size_toArray]
    omega
  have I2 := I1.lset (f := (·.push (.ref s.heap.objs.size))) (t' := tk) (its' := its ++ [.ref s.heap.objs.size]) (ys := (ts ++ [s.heap.objs.size]).map V.ref) hS1 e (by simp) (by rw [List.map_append]; exact rv.append (.cons rfl .nil)) (by rw [List.length_map, List.length_append]; exact hn)
  have hz : ∀ {b : Addr}, FpOk X pins H b → b < s.heap.objs.size → FpOk X pins (upd (upd H s.heap.objs.size (.tup [x, y])) S (.lst ((ts ++ [s.heap.objs.size]).map V.ref))) b := fun {b} h hb => fpok_upd (fpok_upd h (Nat.ne_of_lt hb)) fun q => by
    have h1 := h.1
    rw [q, Z.hS] at h1
    cases h1
  have upS : ∀ b o, b ≠ S → h'.get? b = some o → (h'.update S (Obj.mapSeq (·.push (.ref s.heap.objs.size)))).get? b = some o := fun b o hb e => (Heap.get?_update_other _ _ (Ne.symm hb)).trans e
  have hxy : (xs.zip ys)[i]? = some (x, y) := by
    rw [List.getElem?_zip_eq_some]
    exact ⟨hx, hy⟩
  refine ⟨I2, fun b o h hb => ?_, upd_same, by rw [List.length_append, Z.len]; rfl, ?_, upS _ _ hSTI.symm (hk _ _ hch Z.hTI), fr1 _ _ s1 upS, fr2 _ _ s2 upS, hz Z.fz lz, hz Z.f1 li1, hz Z.f2 li2⟩
  · have h1 := Z.up b o h hb
    rw [upd_ne hb, upd_ne (nT b _ h1)]
    exact h1
  · rw [List.take_add_one, hxy]
    refine Paired.snoc (paired_upd (paired_upd Z.pr fun t w h => nT t _ h) fun t w h => ?_) ?_
    · exact ne_of h hS1 (by intro q; cases q)
    · rw [upd_ne hne.symm]
      exact upd_same
end
end TH
namespace TH
open PySem PySem.Spec PyProof.Rows L2 Evl
section
variable {X : Cx} {pins : List (Addr × Obj)} {σ : L2.St} {A : Around} {R : Result → Shared → Prop} {z TI TO i1 i2 S : Addr} {fp1 fp2 : List Addr} {n : Nat} {P1 P2 : Nat → Value → Prop} {St1 St2 : Nat → Heap → Prop} {xs ys : List V} {res : Value} {H0 : Hp}
theorem loop_held (Sp : ZipSep2 z TI TO i1 i2 fp1 fp2) (D1 : Draws X.prog X.w A.in1.in1 i1 fp1 n P1 St1) (D2 : Draws X.prog X.w A.in1.in1 i2 fp2 n P2 St2) (hn : n ≤ 100000) (hp1 : ∀ i v, P1 i v → ∃ x, xs[i]? = some x ∧ RelV x v) (hp2 : ∀ i v, P2 i v → ∃ x, ys[i]? = some x ∧ RelV x v)
    (hxl : xs.length = n) (hyl : ys.length = n) (hSz : S ≠ z) (hSTI : S ≠ TI) (hS1 : S ∉ fp1) (hS2 : S ∉ fp2)
    (hR : ∀ s' H' ts', Inv X pins σ H' s' → (∀ b o, H0 b = some o → b ≠ S → H' b = some o) → H' S = some (.lst (ts'.map V.ref)) → Paired (fun (t : Addr) (p : V × V) => H' t = some (.tup [p.1, p.2])) ts' (xs.zip ys) → R (.ok (.ret res)) s') :
    ∀ (k i : Nat) (s : Shared) (H : Hp) (ts : List Addr) (T : Addr) (f : Bool), n - i = k → i ≤ n → ZAt X pins σ z TI i1 i2 S St1 St2 xs ys H0 i s H ts → IsZipHeld s.heap z TI TO T f → (∃ p, H T = some (.tup p)) →
      codeAny (model X.prog X.w) A (.builtin "list.extend.loop" ⟨[.ref S, .ref z, res], []⟩) R s := by
  intro k
  have alive : ∀ {s : Shared} {H : Hp} {T : Addr}, Inv X pins σ H s → (∃ p, H T = some (.tup p)) → ∃ o, s.heap.get? T = some o := fun I h => by
    obtain ⟨p, hp⟩ := h
    obtain ⟨_, its, _, o, ho, _⟩ := (show ObjOk X.prog X.w _ _ _ (.tup p) from I.hok _ _ hp)
    exact ⟨o, ho⟩
  induction k with
  | zero =>
    intro i s H ts T f hk hi Z hz hT
    have hin : i = n := by omega
    subst hin
    obtain ⟨oT, hoT⟩ := alive Z.I hT
    refine codeAny_builtin F.entry_extend_loop ?_; rw [Around.under_plainId F.plain_extend_loop _]
    show wpAny _ A.in1 (pyNext (.ref z) >>= _) _ _ s; refine wpAny_bind (held_stop Sp D1 hz hoT Z.hTI Z.st1 fun h' hk => wpAny_pure (hR _ H ts (Z.I.turnedL (t' := s.toks) (ch := [z, i1]) (fun b o hb e => hk b o (fun q => hb (by simp [q])) (fun q => hb (by simp [q])) e) fun b hb => ?_) Z.up Z.hS ?_))
    · rcases List.mem_cons.mp hb with rfl | hb
      · exact Z.fz
      · rw [List.mem_singleton.mp hb]
        exact Z.f1
    · have := Z.pr
      rw [List.take_of_length_le (by rw [List.length_zip]; omega)] at this
      exact this
  | succ k ih =>
    intro i s H ts T f hk hi Z hz hT
    have hlt : i < n := by omega
    obtain ⟨oT, hoT⟩ := alive Z.I hT
    obtain ⟨_, _, _, _, _, eS⟩ := Z.I.lstM Z.hS
    refine codeAny_builtin F.entry_extend_loop ?_; rw [Around.under_plainId F.plain_extend_loop _]
    show wpAny _ A.in1 (pyNext (.ref z) >>= _) _ _ s; refine wpAny_bind (held_next Sp D1 D2 hz hoT Z.hTI Z.st1 Z.st2 hlt hlt fun u v h' tk pu pv hz' s1 s2 hT' hsz hk' => ?_)
    obtain ⟨x, hx, rx⟩ := hp1 i u pu
    obtain ⟨y, hy, ry⟩ := hp2 i v pv
    obtain ⟨o1, e1⟩ := D1.live _ _ Z.st1
    obtain ⟨o2, e2⟩ := D2.live _ _ Z.st2
    obtain ⟨its, m, e, hl, Z'⟩ := zat_step (tk := tk) (ch := [z, i1, i2]) Z hx hy rx ry (Heap.lt_size eS) (Heap.lt_size hz) (Heap.lt_size e1) (Heap.lt_size e2) hSTI
      (fun h h' st k => D1.frame _ _ _ st fun b hb o e => k b o (fun q => hS1 (q ▸ hb)) e) (fun h h' st k => D2.frame _ _ _ st fun b hb o e => k b o (fun q => hS2 (q ▸ hb)) e)
      (fun b hb => by
        rcases List.mem_cons.mp hb with rfl | hb
        · exact Z.fz
        · rcases List.mem_cons.mp hb with rfl | hb
          · exact Z.f1
          · rw [List.mem_singleton.mp hb]
            exact Z.f2) (by simp [Sp.TIz, Sp.TIi1, Sp.TIi2]) (by rw [Z.len]; exact sz_of (by omega)) hT' s1 s2 (fun c o hc e => hk' c o (fun q => hc (by simp [q])) (fun q => hc (by simp [q])) (fun q => hc (by simp [q])) e)
    show wpAny _ A.in1 (updateSeq S (·.push (.ref s.heap.objs.size)) >>= _) _ _ _; refine wpAny_bind (wpAny_updateSeq e rfl (wpAny_pure ⟨plainId_quiet F.plain_extend_loop _, ih (i + 1) _ _ _ T true (by omega) hlt Z' ?_ ?_⟩) (by rw [hl]; exact sz_of (by omega)) ?_)
    · exact (Heap.get?_update_other _ _ hSz).trans hz'
    · obtain ⟨p, hp⟩ := hT
      refine ⟨p, ?_⟩
      rw [upd_ne (ne_of hp Z.hS (by intro q; cases q)), upd_ne (ne_of_none hp Z.I.fresh)]
      exact hp
    · show (its.push _).size ≤ sizeLine + 1
      rw [Array.size_push, hl]
      exact Nat.succ_le_succ (sz_of (by omega))
theorem loop_zip (Sp : ZipSep2 z TI TO i1 i2 fp1 fp2) (D1 : Draws X.prog X.w A.in1.in1 i1 fp1 n P1 St1) (D2 : Draws X.prog X.w A.in1.in1 i2 fp2 n P2 St2) (hn : n ≤ 100000) (hn1 : 1 ≤ n) (hp1 : ∀ i v, P1 i v → ∃ x, xs[i]? = some x ∧ RelV x v) (hp2 : ∀ i v, P2 i v → ∃ x, ys[i]? = some x ∧ RelV x v)
    (hxl : xs.length = n) (hyl : ys.length = n) (hSz : S ≠ z) (hSTI : S ≠ TI) (hSTO : S ≠ TO) (hS1 : S ∉ fp1) (hS2 : S ∉ fp2)
    (hR : ∀ s' H' ts', Inv X pins σ H' s' → (∀ b o, H0 b = some o → b ≠ S → H' b = some o) → H' S = some (.lst (ts'.map V.ref)) → Paired (fun (t : Addr) (p : V × V) => H' t = some (.tup [p.1, p.2])) ts' (xs.zip ys) → R (.ok (.ret res)) s')
    {s : Shared} {H : Hp} {a1 a2 : Value} (Z : ZAt X pins σ z TI i1 i2 S St1 St2 xs ys H0 0 s H []) (fTO : FpOk X pins H TO) (hz : IsZip s.heap z TI TO .none) (hTO : IsTupOf2 s.heap TO a1 a2) :
      codeAny (model X.prog X.w) A (.builtin "list.extend.loop" ⟨[.ref S, .ref z, res], []⟩) R s := by
  obtain ⟨_, _, _, _, _, eS⟩ := Z.I.lstM Z.hS
  refine codeAny_builtin F.entry_extend_loop ?_; rw [Around.under_plainId F.plain_extend_loop _]
  show wpAny _ A.in1 (pyNext (.ref z) >>= _) _ _ s; refine wpAny_bind (wpAny_pyNext_zipD2_item Sp D1 D2 hz Z.hTI hTO Z.st1 Z.st2 (by omega) (by omega) fun u v h' tk pu pv hz' _ s1 s2 hT' hsz hk' => ?_)
  obtain ⟨x, hx, rx⟩ := hp1 0 u pu
  obtain ⟨y, hy, ry⟩ := hp2 0 v pv
  obtain ⟨o1, e1⟩ := D1.live _ _ Z.st1
  obtain ⟨o2, e2⟩ := D2.live _ _ Z.st2
  obtain ⟨its, m, e, hl, Z'⟩ := zat_step (tk := tk) (ch := [z, TO, i1, i2]) Z hx hy rx ry (Heap.lt_size eS) (Heap.lt_size hz) (Heap.lt_size e1) (Heap.lt_size e2) hSTI
    (fun h h' st k => D1.frame _ _ _ st fun b hb o e => k b o (fun q => hS1 (q ▸ hb)) e) (fun h h' st k => D2.frame _ _ _ st fun b hb o e => k b o (fun q => hS2 (q ▸ hb)) e)
    (fun b hb => by
      rcases List.mem_cons.mp hb with rfl | hb
      · exact Z.fz
      · rcases List.mem_cons.mp hb with rfl | hb
        · exact fTO
        · rcases List.mem_cons.mp hb with rfl | hb
          · exact Z.f1
          · rw [List.mem_singleton.mp hb]
            exact Z.f2) (by simp [Sp.TIz, Sp.TITO, Sp.TIi1, Sp.TIi2]) (by show 1 ≤ sizeLine; decide) hT' s1 s2 (fun c o hc e => hk' c o (fun q => hc (by simp [q])) (fun q => hc (by simp [q])) (fun q => hc (by simp [q])) (fun q => hc (by simp [q])) e)
  show wpAny _ A.in1 (updateSeq S (·.push (.ref s.heap.objs.size)) >>= _) _ _ _; refine wpAny_bind (wpAny_updateSeq e rfl (wpAny_pure ⟨plainId_quiet F.plain_extend_loop _, loop_held Sp D1 D2 hn hp1 hp2 hxl hyl hSz hSTI hS1 hS2 hR _ 1 _ _ _ s.heap.objs.size false rfl hn1 Z' ?_ ?_⟩) (by rw [hl]; exact Nat.zero_le _) ?_)
  · exact (Heap.get?_update_other _ _ hSz).trans hz'
  · refine ⟨[x, y], ?_⟩
    rw [upd_ne (Nat.ne_of_gt (Heap.lt_size eS)), upd_same]
  · show (its.push _).size ≤ sizeLine + 1
    rw [Array.size_push, hl]
    exact Nat.succ_le_succ (Nat.zero_le _)
end
end TH
namespace TH
open PySem PySem.Spec PyProof.Rows L2 Evl
/-- list(zip(a, b)) of a list and a tuple that are as long -/
def tListZip (K : PySem.W.Frag) (ta : TA) : TE := fun σ H Q => ta σ H fun vs H1 => ∃ (a b : Addr) (xs ys : List V), vs = [.ref a, .ref b] ∧ SqL K H1 a xs ∧ SqT K H1 b ys ∧ xs.length = ys.length ∧ 1 ≤ ys.length ∧ ys.length ≤ 100000 ∧
  ∀ (l : Addr) (ts : List Addr) (H2 : Hp), Ex H1 H2 → H1 l = none → H2 l = some (.lst (ts.map V.ref)) → Paired (fun (t : Addr) (p : V × V) => H2 t = some (.tup [p.1, p.2])) ts (xs.zip ys) → Q (.ref l) H2
theorem zip_sep (m a b : Nat) (ha : a < m) (hb : b < m) : ZipSep2 (m + 4) (m + 2) (m + 3) m (m + 1) [m, a] [m + 1, b] where
  TIz := fun e => absurd (show m + 2 = m + 4 from e) (by omega)
  TOz := fun e => absurd (show m + 3 = m + 4 from e) (by omega)
  TITO := fun e => absurd (show m + 2 = m + 3 from e) (by omega)
  TIi1 := fun e => absurd (show m + 2 = m from e) (by omega)
  mem1 := List.mem_cons_self
  zf1 := fun h => by
    rcases List.mem_cons.mp h with h | h
    · exact absurd (show m + 4 = m from h) (by omega)
    · exact absurd (show m + 4 = a from List.mem_singleton.mp h) (by omega)
  Tf1 := fun h => by
    rcases List.mem_cons.mp h with h | h
    · exact absurd (show m + 3 = m from h) (by omega)
    · exact absurd (show m + 3 = a from List.mem_singleton.mp h) (by omega)
  TIi2 := fun e => absurd (show m + 2 = m + 1 from e) (by omega)
  mem2 := List.mem_cons_self
  zf2 := fun h => by
    rcases List.mem_cons.mp h with h | h
    · exact absurd (show m + 4 = m + 1 from h) (by omega)
    · exact absurd (show m + 4 = b from List.mem_singleton.mp h) (by omega)
  Tf2 := fun h => by
    rcases List.mem_cons.mp h with h | h
    · exact absurd (show m + 3 = m + 1 from h) (by omega)
    · exact absurd (show m + 3 = b from List.mem_singleton.mp h) (by omega)
  sep1_2 := fun h => by
    rcases List.mem_cons.mp h with h | h
    · exact absurd (show m = m + 1 from h) (by omega)
    · exact absurd (show m = b from List.mem_singleton.mp h) (by omega)
  sep2_1 := fun h => by
    rcases List.mem_cons.mp h with h | h
    · exact absurd (show m + 1 = m from h) (by omega)
    · exact absurd (show m + 1 = a from List.mem_singleton.mp h) (by omega)
theorem pe_listzip {X : Cx} {a b : Expr} {ta : TA} {p p2 pos pos2 : Pos} (hg : Gl X "list") (hm : X.mg "list" = none) (hgz : Gl X "zip") (hmz : X.mg "zip" = none) (hcalm : X.calm = true) (ha : PA X [a, b] ta)
    (na : starEach [.Call (.Name "zip" p2) [a, b] [] pos2] X.env = (false, eval (.Call (.Name "zip" p2) [a, b] [] pos2) X.env) :: starEach [] X.env := by rfl)
    (hs : starEach [a, b] X.env = (false, eval a X.env) :: starEach [b] X.env := by rfl) (hpl : (backTo pos2 (starEach [b] X.env)).any (·.1) = false := by rfl) :
    PE X (.Call (.Name "list" p) [.Call (.Name "zip" p2) [a, b] [] pos2] [] pos) (tListZip X.K ta) := by
  refine ⟨fun pins s σ H Q I h => ?_⟩
  refine Call_ (ld_blt I hg hm (show bootBuiltins "list" = some (.type "list") by decide +kernel) (PyProof.Rows.callWith_type1 (args_cons (Call_ (ld_blt I hgz hmz PyProof.Rows.boot_zip (PyProof.Rows.callWith_type1 (thn (ha.run pos2 pins s σ H _ I h) fun us s1 ⟨vs, H1, I1, r1, q1⟩ => ?_) hs hpl))) na) na))
  obtain ⟨a, b, xs, ys, rfl, hx, hy, hxy, h1, h2, q⟩ := q1
  cases r1 with
  | cons ra r1 =>
  cases r1 with
  | cons rb r1 =>
  cases r1
  cases ra
  cases rb
  obtain ⟨its, rv, pl, _⟩ := I1.list hx
  obtain ⟨its2, rv2, pt, _⟩ := I1.tuple hy
  have la : a < s1.heap.objs.size := pl.lt
  have lb : b < s1.heap.objs.size := pt.lt
  have hvals : ∀ {zs : List V} {us : List Value}, Vals zs us → ∀ (i : Nat) (v : Value), us.toArray[i]? = some v → ∃ x, zs[i]? = some x ∧ RelV x v := fun {zs us} r i v e => by
    have hl := r.length
    rw [List.getElem?_toArray] at e
    have hi : i < zs.length := by rw [hl]; exact (List.getElem?_eq_some_iff.mp e).1
    obtain ⟨u, hu, ru⟩ := r.get (List.getElem?_eq_getElem hi)
    rw [e] at hu
    cases hu
    exact ⟨_, List.getElem?_eq_getElem hi, ru⟩
  have l1 := rv.length
  have l2 := rv2.length
  have hh : X.A.handled = none := I1.ok.hd hcalm
  refine zip_begins2 (begins_list a its.toArray) (begins_tuple b its2.toArray) pl.isList pt fun h' hz hTI hTO g1 g2 hsz hk => args_nil ?_
  have fp : ∀ {c : Addr} {H' : Hp}, s1.heap.objs.size ≤ c → H' c = none → FpOk X pins H' c := fun hc hn => I1.fpOk hc hn
  have fr : ∀ {c : Addr}, s1.heap.objs.size ≤ c → H1 c = none := fun hc => I1.hok.fresh hc
  refine callType_codes (Q₁ := fun obj s₁ => obj = .ref h'.objs.size ∧ s₁ = { s1 with heap := h'.push { cls := .type "list", data := .seq #[] } }) F.called_list (F.typeCall_list_1 _) F.entry_list_init (code_list_new (s := { s1 with heap := h' }) _ ⟨rfl, rfl⟩) fun obj s₁ he => ?_
  obtain ⟨rfl, rfl⟩ := he
  have k0 : ∀ c o, h'.get? c = some o → (h'.push { cls := .type "list", data := .seq #[] }).get? c = some o := fun c o e => Heap.get?_push_of_some _ e
  have hS : (h'.push { cls := .type "list", data := .seq #[] }).get? h'.objs.size = some { cls := .type "list", data := .seq #[] } := Heap.get?_push_size _ rfl
  rw [hsz] at hS ⊢
  have nS : ∀ {c : Addr} {o : Obj}, h'.get? c = some o → c ≠ s1.heap.objs.size + 5 := fun e q => by
    have := Heap.lt_size e
    rw [hsz, q] at this
    exact absurd this (Nat.lt_irrefl _)
  generalize h'.push { cls := .type "list", data := .seq #[] } = w0 at hS k0 ⊢
  refine ⟨⟨_, hS, rfl⟩, F.args_list_init_2 _ _, ?_⟩
  show wpAny _ X.A.in1.in1 (do let old ← Builtin.List.listItems (.ref (s1.heap.objs.size + 5)); Builtin.List.listUpdate (.ref (s1.heap.objs.size + 5)) (fun _ => #[]); letGo old.toList.reverse; Builtin.List.listExtendWith (.ref (s1.heap.objs.size + 5)) (.ref (s1.heap.objs.size + 4)) .none) _ _ _
  refine wpAny_bind ?_; unfold Builtin.List.listItems; refine wpAny_bind (wpAny_seqItems hS rfl (wpAny_pure ?_))
  show wpAny _ X.A.in1.in1 (updateSeq (s1.heap.objs.size + 5) (fun _ => #[]) >>= fun _ => letGo (#[] : Array Value).toList.reverse >>= fun _ => Builtin.List.listExtendWith (.ref (s1.heap.objs.size + 5)) (.ref (s1.heap.objs.size + 4)) .none) _ _ _
  refine wpAny_bind (wpAny_updateSeq hS rfl (wpAny_bind (wpAny_letGo ?_)))
  have hS1 := Heap.get?_update_self (Obj.mapSeq (fun _ => (#[] : Array Value))) hS rfl
  have k1 : ∀ c o, h'.get? c = some o → (w0.update (s1.heap.objs.size + 5) (Obj.mapSeq fun _ => (#[] : Array Value))).get? c = some o := fun c o e => (Heap.get?_update_other _ _ (Ne.symm (nS e))).trans (k0 c o e)
  generalize w0.update (s1.heap.objs.size + 5) (Obj.mapSeq fun _ => (#[] : Array Value)) = w1 at hS1 k1 ⊢
  have hzw : IsZip w1 (s1.heap.objs.size + 4) (s1.heap.objs.size + 2) (s1.heap.objs.size + 3) .none := k1 _ _ hz
  have hTy : Shared.TypeIs { s1 with heap := w1 } (.ref (s1.heap.objs.size + 4)) "zip" := ⟨_, hzw, rfl⟩
  unfold Builtin.List.listExtendWith; refine wpAny_bind (wpAny_typeOf hTy ?_)
  have b1 : Builtin.List.listSameRef (.ref (s1.heap.objs.size + 5)) (.ref (s1.heap.objs.size + 4)) = false := by simp [Builtin.List.listSameRef]
  have b2 : (Value.type "zip" == Value.type "list") = false := by decide
  have b3 : (Value.type "zip" == Value.type "tuple") = false := by decide
  simp only [b1, b2, b3, Bool.or_false, Bool.false_eq_true, if_false]; refine wpAny_bind (wpAny_pyIter_zip hzw (wpAny_bind (wpAny_holding ?_)))
  unfold Builtin.List.listLengthHint; refine wpAny_bind (wpAny_specialOf hTy F.zip_no_len ?_)
  show wpAny _ X.A.in1.in1 (specialOf (Value.ref (s1.heap.objs.size + 4)) (Str.ofString "__length_hint__") >>= _) _ _ _; refine wpAny_bind (wpAny_specialOf hTy F.zip_no_hint (wpAny_pure ?_))
  show wpAny _ X.A.in1.in1 (rule "list.extend.makes-room" >>= fun _ => Builtin.List.listTouch (.ref (s1.heap.objs.size + 5)) >>= fun _ => again (.builtin "list.extend.loop" ⟨[.ref (s1.heap.objs.size + 5), .ref (s1.heap.objs.size + 4), .none], []⟩)) _ _ _
  refine wpAny_bind (wpAny_rule (wpAny_bind ?_)); show wpAny _ X.A.in1.in1 (updateSeq (s1.heap.objs.size + 5) (·.push .none) >>= fun _ => updateSeq (s1.heap.objs.size + 5) (·.pop)) _ _ _
  refine wpAny_bind (wpAny_updateSeq hS1 rfl ?_); have hS2 := Heap.get?_update_self (Obj.mapSeq (·.push Value.none)) hS1 rfl
  refine wpAny_updateSeq (hz := by seq_fits) hS2 rfl ?_; have hS3 := Heap.get?_update_self (Obj.mapSeq (·.pop)) hS2 rfl
  have k3 : ∀ c o, h'.get? c = some o → ((w1.update (s1.heap.objs.size + 5) (Obj.mapSeq (·.push Value.none))).update (s1.heap.objs.size + 5) (Obj.mapSeq (·.pop))).get? c = some o := fun c o e => (Heap.get?_update_other _ _ (Ne.symm (nS e))).trans ((Heap.get?_update_other _ _ (Ne.symm (nS e))).trans (k1 c o e))
  generalize ((w1.update (s1.heap.objs.size + 5) (Obj.mapSeq (·.push Value.none))).update (s1.heap.objs.size + 5) (Obj.mapSeq (·.pop))) = w3 at hS3 k3 ⊢
  have hH5 : H1 (s1.heap.objs.size + 5) = none := fr (Nat.le_add_right _ _)
  have nf : ∀ {j : Nat}, j < 5 → (upd H1 (s1.heap.objs.size + 5) (.lst []) : Hp) (s1.heap.objs.size + j) = none := fun {j} hj => by
    rw [upd_ne (show s1.heap.objs.size + j ≠ s1.heap.objs.size + 5 from fun q => by have := Nat.add_left_cancel q; omega)]
    exact fr (Nat.le_add_right _ _)
  have D1 := Draws.list (prog := X.prog) (w := X.w) (A := X.A.in1.in1.in1) hh s1.heap.objs.size a (Nat.ne_of_lt la) its.toArray
  have D2 := Draws.tuple (prog := X.prog) (w := X.w) (A := X.A.in1.in1.in1) hh (s1.heap.objs.size + 1) b (Nat.ne_of_lt (Nat.lt_succ_of_lt lb)) its2.toArray
  have e21 : its2.toArray.size = its.toArray.size := by rw [List.size_toArray, List.size_toArray]; omega
  rw [e21] at D2
  have n5 : ∀ {j : Nat}, j < 5 → s1.heap.objs.size + 5 ≠ s1.heap.objs.size + j := fun {j} hj q => by
    have := Nat.add_left_cancel q
    omega
  refine wpAny_pure ⟨plainId_quiet F.plain_extend_loop _, loop_zip (X := X) (pins := pins) (σ := σ) (H := upd H1 (s1.heap.objs.size + 5) (.lst [])) (A := X.A.in1) (H0 := H1) (xs := xs) (ys := ys) (zip_sep s1.heap.objs.size a b la lb) D1 D2 (by rw [List.size_toArray]; omega) (by rw [List.size_toArray]; omega) (hvals rv) (hvals rv2) (by rw [List.size_toArray]; exact l1) (by rw [List.size_toArray]; omega) (n5 (by decide)) (n5 (by decide)) (n5 (by decide)) ?_ ?_ (fun s' H' ts' I' up hS' pr => ?_)
    (a1 := .none) (a2 := .none) ⟨?_, fun c o e hc => by rw [upd_ne hc]; exact e, upd_same, rfl, .nil, k3 _ _ hTI, ⟨⟨_, k3 _ _ g1, rfl, rfl⟩, ?_⟩, ⟨⟨_, k3 _ _ g2, rfl, rfl⟩, ?_⟩, fp (Nat.le_add_right _ _) (nf (by decide)), fp (Nat.le_refl _) (nf (j := 0) (by decide)), fp (Nat.le_add_right _ _) (nf (by decide))⟩ (fp (Nat.le_add_right _ _) (nf (by decide))) (k3 _ _ hz) (k3 _ _ hTO)⟩
  · intro hm
    rcases List.mem_cons.mp hm with q | q
    · exact n5 (j := 0) (by decide) q
    · have q := List.mem_singleton.mp q
      rw [← q] at la
      exact absurd la (by exact Nat.not_lt.mpr (Nat.le_add_right _ _))
  · intro hm
    rcases List.mem_cons.mp hm with q | q
    · exact n5 (j := 1) (by decide) q
    · have q := List.mem_singleton.mp q
      rw [← q] at lb
      exact absurd lb (by exact Nat.not_lt.mpr (Nat.le_add_right _ _))
  · exact ⟨rfl, .ref (s1.heap.objs.size + 5), H', I', rfl, q _ ts' H' (fun c o e => up c o e (ne_of_none e hH5)) hH5 hS' pr⟩
  · exact I1.laid (t' := s1.toks) (fun c o e => k3 c o (hk c o e)) (Nat.le_add_right _ _) ⟨Nat.zero_le _, [], _, .nil, hS3⟩
  · exact pl.isList.at fun o e => k3 _ _ (hk _ _ e)
  · exact (show s1.heap.IsTuple b its2.toArray from pt).at fun o e => k3 _ _ (hk _ _ e)
end TH
set_option maxRecDepth 100000
set_option maxHeartbeats 4000000
namespace TH
open PySem PySem.Spec PyProof.Rows L2 Evl
/-! ### for a, b in zip(reversed(list), tuple) -/
section
variable {prog : Program} {w : World} {A : Around} {E : Value → Shared → Prop} {s : Shared} {it l : Addr} {i : Nat} {items : Array Value} {x : Value}
theorem nextOf_rev {Q : Value → Shared → Prop} (hit : s.heap.IsRevIter it l (i : Int)) (hl : s.heap.IsList l items) (hx : items[i]? = some x) (hQ : ∀ h', h'.IsRevIter it l ((i : Int) - 1) → Heap.SameBut it s.heap h' → Q x { s with heap := h' }) :
    wpAny (model prog w) A (Builtin.SmallTypes.nextOf (.ref it)) Q E s := by
  obtain ⟨o, ho, hc, hd⟩ := id hit; obtain ⟨ol, hol, _, nl, hdl⟩ := hl
  unfold Builtin.SmallTypes.nextOf; refine wpAny_bind (wpAny_callSpecial?_slot (name := Str.ofString "__next__") hit.typeIs F.slot_lri_next (wpAny_call_entry F.slot_lri_next hit.typeIs F.entry_lri_next ?_ (F.args_lri_next_1 _)))
  unfold Builtin.«list_reverseiterator.__next__»; refine wpAny_bind (wpAny_of_eq (a := (Value.ref it, [])) rfl ?_)
  try dsimp only
  refine wpAny_bind (wpAny_field ho hd (x := rawInt (i : Int)) rfl ?_); show wpAny _ _ (if (i : Int) < 0 then _ else _) _ _ s
  rw [if_neg (by omega)]; show wpAny _ _ (field (.ref it) 0 >>= _) _ _ s
  refine wpAny_bind (wpAny_field ho hd (x := .ref l) rfl ?_); show wpAny _ _ (seqItems? (.ref l) >>= _) _ _ s
  refine wpAny_bind (wpAny_seqItems hol hdl ?_); simp only [Int.toNat_natCast, hx]; refine wpAny_bind (wpAny_setField ho hd (by simp) ?_)
  have fin : (s.heap.update it (Obj.mapFields fun fs => fs.setIfInBounds 1 (rawInt ((i : Int) - 1)))).IsRevIter it l ((i : Int) - 1) := ⟨_, Heap.get?_update_self _ ho (Obj.isFreed_of_fields (Obj.data_mapFields hd _)), (Obj.cls_mapFields ..).trans hc, by rw [Obj.data_mapFields hd]; simp⟩
  first
  | exact wpAny_pure ⟨x, rfl, wpAny_pure (hQ _ fin (Heap.SameBut.update ..))⟩
  | exact wpAny_bind (wpAny_pure (wpAny_pure ⟨x, rfl, wpAny_pure (hQ _ fin (Heap.SameBut.update ..))⟩))
theorem nextOf_rev_end {Q : Value → Shared → Prop} (hh : A.handled = none) (hit : s.heap.IsRevIter it l (-1)) (hE : ∀ h' e, Heap.ExtBut it s.heap h' → (∃ o, h'.get? e = some o ∧ o.cls = .type "StopIteration") → E (.ref e) { s with heap := h' }) :
    wpAny (model prog w) A (Builtin.SmallTypes.nextOf (.ref it)) Q E s := by
  obtain ⟨o, ho, hc, hd⟩ := id hit
  unfold Builtin.SmallTypes.nextOf; refine wpAny_bind (wpAny_callSpecial?_slot (name := Str.ofString "__next__") hit.typeIs F.slot_lri_next (wpAny_call_entry F.slot_lri_next hit.typeIs F.entry_lri_next ?_ (F.args_lri_next_1 _)))
  unfold Builtin.«list_reverseiterator.__next__»; refine wpAny_bind (wpAny_of_eq (a := (Value.ref it, [])) rfl ?_)
  try dsimp only
  refine wpAny_bind (wpAny_field ho hd (x := rawInt (-1)) rfl ?_); show wpAny _ _ (if (-1 : Int) < 0 then _ else _) _ _ s
  rw [if_pos (by decide)]; refine wpAny_bind (wpAny_rule ?_)
  first
  | show wpAny _ _ (newExc (.type "StopIteration") [] >>= _) _ _ _
  | (refine wpAny_bind ?_; show wpAny _ _ (newExc (.type "StopIteration") [] >>= _) _ _ _)
  refine wpAny_bind ?_; simp only [newExc, newTuple]; refine wpAny_bind (wpAny_newObj_type ?_ (by size_fits))
  refine wpAny_bind (m := firstArgMember _ _) (wpAny_of_eq (a := Value.none) (by first | rfl | (simp only [firstArgMember]; rfl)) (wpAny_newObj_type ?_ (by size_fits)))
  simp only [raiseNew]; refine wpAny_bind (wpAny_handled ?_)
  first
  | rw [show A.in1.handled = none from hh]
  | rw [hh]
  exact wpAny_bind (wpAny_pure (wpAny_throw (hE _ _ (((Heap.ExtBut.refl _ _).push _).push _) ⟨_, Heap.get?_push_size _ rfl, rfl⟩)))
theorem draws_rev (hh : A.handled = none) (hne : l ≠ it) (items : Array Value) :
    Draws prog w A it [it, l] items.size (fun i v => items[items.size - 1 - i]? = some v) (fun i h => i ≤ items.size ∧ h.IsRevIter it l ((items.size : Int) - 1 - (i : Int)) ∧ h.IsList l items) where
  live := fun _ _ st => let ⟨o, ho, _⟩ := st.2.1; ⟨o, ho⟩
  frame := fun _ _ _ st hk => ⟨st.1, st.2.1.at fun o e => hk it (by simp) o e, st.2.2.at fun o e => hk l (by simp) o e⟩
  item := fun i s Q E hi st hQ => by
    have e : (items.size : Int) - 1 - (i : Int) = ((items.size - 1 - i : Nat) : Int) := by omega
    have hit := st.2.1
    rw [e] at hit
    have hx : items[items.size - 1 - i]? = some (items[items.size - 1 - i]'(by omega)) := Array.getElem?_eq_getElem (by omega)
    refine nextOf_rev hit st.2.2 hx fun h' hit' hs' => ?_
    have e2 : ((items.size - 1 - i : Nat) : Int) - 1 = (items.size : Int) - 1 - ((i + 1 : Nat) : Int) := by omega
    rw [e2] at hit'
    exact hQ _ h' s.toks hx ⟨hi, hit', st.2.2.at fun o eo => (hs'.2 l hne).trans eo⟩ hs'
  done := fun s Q E st hE => by
    have e : (items.size : Int) - 1 - (items.size : Int) = -1 := by omega
    have hit := st.2.1
    rw [e] at hit
    exact nextOf_rev_end hh hit hE
end
/-! ### zip(reversed(..), ..) begins -/
abbrev gT (h : Heap) (r : Addr) (o : Obj) : Heap := (h.push o).push { cls := .type "tuple", data := .seq #[.ref r, .ref h.objs.size] }
abbrev gO (h : Heap) (r : Addr) (o : Obj) : Heap := (gT h r o).push { cls := .type "tuple", data := .seq #[.none, .none] }
abbrev gZ (h : Heap) (r : Addr) (o : Obj) : Heap := (gO h r o).push { cls := .type "zip", data := .fields #[.none, .bool false, .bool false, .ref (h.push o).objs.size, .ref (gT h r o).objs.size] }
def tupIter (t : Addr) : Obj := { cls := .type "tuple_iterator", data := .fields #[.ref t, .int 0 0] }
theorem meets_zipR {l t r : Addr} {i : Int} {items : Array Value} : Meets (Builtin.«zip.__new__» ⟨[.type "zip", .ref r, .ref t], []⟩) (fun _ R s => (s.heap.IsRevIter r l i ∧ s.heap.IsTuple t items) ∧ R (.ok (.ret (.ref (gO s.heap r (tupIter t)).objs.size))) { s with heap := gZ s.heap r (tupIter t) }) :=
  .of_wp fun prog w A R s h => by
    obtain ⟨hp, g, d, tk, os⟩ := s
    obtain ⟨⟨h1, h2⟩, h⟩ := h
    have hsub := sub_zip
    have q1 : ∀ {A' : Around} {E : Value → Shared → Prop} {Q : Value → Shared → Prop}, Q (.ref r) ⟨hp, g, d, tk, os⟩ → wpAny (model prog w) A' (pyIter (.ref r)) Q E ⟨hp, g, d, tk, os⟩ := fun q => wpAny_pyIter_revIter h1 q
    have q2 : ∀ {A' : Around} {E : Value → Shared → Prop} {Q : Value → Shared → Prop}, Q (.ref hp.objs.size) ⟨hp.push (tupIter t), g, d, tk, os⟩ → wpAny (model prog w) A' (pyIter (.ref t)) Q E ⟨hp, g, d, tk, os⟩ := fun q => wpAny_pyIter_tuple h2 q
    wp_walk using q1, q2
    exact ⟨_, rfl, h⟩
theorem zip_beginsR {prog : Program} {w : World} {A : Around} {E : Value → Shared → Prop} {s : Shared} {l t r : Addr} {i : Int} {items : Array Value} {Q : Value → Shared → Prop} (h1 : s.heap.IsRevIter r l i) (h2 : s.heap.IsTuple t items)
    (h : ∀ h', IsZip h' (s.heap.objs.size + 3) (s.heap.objs.size + 1) (s.heap.objs.size + 2) .none → IsTupOf2 h' (s.heap.objs.size + 1) (.ref r) (.ref s.heap.objs.size) → IsTupOf2 h' (s.heap.objs.size + 2) .none .none →
      h'.get? s.heap.objs.size = some (tupIter t) → h'.objs.size = s.heap.objs.size + 4 → (∀ c o, s.heap.get? c = some o → h'.get? c = some o) → Q (.ref (s.heap.objs.size + 3)) { s with heap := h' }) :
    wpAny (model prog w) A (call (.type "zip") [.ref r, .ref t]) Q E s := by
  refine callType_new F.called_zip (by decide) (F.typeCall_zip_2 _ _) (F.newCall_zip_2 _ _) (fun obj => F.args_object_init_3 obj _ _) F.entry_zip_new (meets_zipR (l := l) (i := i)) ⟨⟨h1, h2⟩, ?_⟩
  have z1 : (s.heap.push (tupIter t)).objs.size = s.heap.objs.size + 1 := by rw [Heap.size_push]
  have z2 : (gT s.heap r (tupIter t)).objs.size = s.heap.objs.size + 2 := by rw [Heap.size_push, z1]
  have z3 : (gO s.heap r (tupIter t)).objs.size = s.heap.objs.size + 3 := by rw [Heap.size_push, z2]
  have z4 : (gZ s.heap r (tupIter t)).objs.size = s.heap.objs.size + 4 := by rw [Heap.size_push, z3]
  have aZ : (gZ s.heap r (tupIter t)).get? (gO s.heap r (tupIter t)).objs.size = some { cls := .type "zip", data := .fields #[.none, .bool false, .bool false, .ref (s.heap.push (tupIter t)).objs.size, .ref (gT s.heap r (tupIter t)).objs.size] } := Heap.get?_push_size _ rfl
  have aO : (gZ s.heap r (tupIter t)).get? (gT s.heap r (tupIter t)).objs.size = some { cls := .type "tuple", data := .seq #[.none, .none] } := Heap.get?_push_of_some _ (Heap.get?_push_size _ rfl)
  have aT : (gZ s.heap r (tupIter t)).get? (s.heap.push (tupIter t)).objs.size = some { cls := .type "tuple", data := .seq #[.ref r, .ref s.heap.objs.size] } := Heap.get?_push_of_some _ (Heap.get?_push_of_some _ (Heap.get?_push_size _ rfl))
  have a1 : (gZ s.heap r (tupIter t)).get? s.heap.objs.size = some (tupIter t) := Heap.get?_push_of_some _ (Heap.get?_push_of_some _ (Heap.get?_push_of_some _ (Heap.get?_push_size _ rfl)))
  rw [z3, z2, z1] at aZ
  rw [z2] at aO
  rw [z1] at aT
  show _ ∧ _
  rw [z3]
  exact ⟨⟨_, aZ, rfl⟩, h _ aZ aT aO a1 z4 fun c o e => Heap.get?_push_of_some _ (Heap.get?_push_of_some _ (Heap.get?_push_of_some _ (Heap.get?_push_of_some _ e)))⟩
end TH
set_option maxRecDepth 100000
set_option maxHeartbeats 4000000
namespace TH
open PySem PySem.Spec PyProof.Rows L2 Evl
/-! ### for a, b in zip(reversed(list), tuple): the rule -/
/-- the list at a from behind and the tuple at b from the front, the items in new pairs -/
def Itzr (K : PySem.W.Frag) (a b : Addr) (n : Nat) : It :=
  ⟨fun i H => ∃ (xs ys : List V) (x y : V), (SqL K H a xs ∧ SqT K H b ys) ∧ (xs.length = n ∧ ys.length = n ∧ i < n) ∧ xs[n - 1 - i]? = some x ∧ ys[i]? = some y,
    fun i H v H' => ∃ T x y, v = .ref T ∧ H T = none ∧ H' = upd H T (.tup [x, y]) ∧ (∀ xs, SqL K H a xs → xs[n - 1 - i]? = some x) ∧ ∀ ys, SqT K H b ys → ys[i]? = some y,
    fun i H => ∃ xs ys : List V, (SqL K H a xs ∧ SqT K H b ys) ∧ xs.length = n ∧ ys.length = n ∧ n ≤ i⟩
theorem turn_zipR {P : Program} {w : World} {K : PySem.W.Frag} {elts : List Expr} {kk n : Nat} {tpos : Pos} {a b z TI TO i1 i2 : Addr} (S : ZipSep2 z TI TO i1 i2 [i1, a] [i2, b]) :
    Turn P w K (.Tuple elts kk tpos) (Itzr K a b n) [z, TI, TO, i1, i2] z (fun i h => IsZip h z TI TO .none ∧ IsTupOf2 h TI (.ref i1) (.ref i2) ∧ (∃ x y, IsTupOf2 h TO x y) ∧ (i ≤ n ∧ h.IsRevIter i1 a ((n : Int) - 1 - (i : Int))) ∧ h.IsTupleIter i2 b i) where
  mem := by simp
  obj := fun i h st c hc => by
    obtain ⟨hz, hTI, ⟨x, y, hTO⟩, ⟨_, o1, e1, _, d1⟩, ⟨o2, e2, _, d2⟩⟩ := st
    have e' : c = z ∨ c = TI ∨ c = TO ∨ c = i1 ∨ c = i2 := by simpa using hc
    rcases e' with q | q | q | q | q
    · rw [q]; exact ⟨_, hz, fun v q => nomatch q⟩
    · rw [q]; exact ⟨_, hTI, fun v q => nomatch q⟩
    · rw [q]; exact ⟨_, hTO, fun v q => nomatch q⟩
    · rw [q]; exact ⟨o1, e1, fun v q => by rw [d1] at q; cases q⟩
    · rw [q]; exact ⟨o2, e2, fun v q => by rw [d2] at q; cases q⟩
  keep := fun i h h' st k => by
    obtain ⟨hz, hTI, ⟨x, y, hTO⟩, ⟨hi, h1⟩, h2⟩ := st
    exact ⟨k z (by simp) _ hz, k TI (by simp) _ hTI, ⟨x, y, k TO (by simp) _ hTO⟩, ⟨hi, h1.at fun o q => k i1 (by simp) o q⟩, h2.at fun o q => k i2 (by simp) o q⟩
  item := by
    intro X hP hw hK hc i pins s σ H E I hf st hg
    subst hP hw hK
    obtain ⟨hz, hTI, ⟨x0, y0, hTO⟩, ⟨hin, h1⟩, h2⟩ := st
    obtain ⟨xs, ys, x, y, ⟨hqx, hqy⟩, ⟨l1, l2, hlt⟩, hx, hy⟩ := hg
    obtain ⟨its, rv, p, _⟩ := I.list hqx
    obtain ⟨its2, rv2, p2, _⟩ := I.tuple hqy
    obtain ⟨u, hu, ru⟩ := rv.get hx
    obtain ⟨u2, hu2, ru2⟩ := rv2.get hy
    have hzl : z < s.heap.objs.size := Heap.lt_size hz
    have n1 : its.toArray.size = n := by rw [List.size_toArray, ← rv.length, l1]
    have n2 : its2.toArray.size = n := by rw [List.size_toArray, ← rv2.length, l2]
    have D1 := draws_rev (prog := X.prog) (w := X.w) (A := X.A.in1) (it := i1) (l := a) (I.ok.hd hc) (fun e => by
      obtain ⟨o, ho, hcl, _⟩ := p.isList
      obtain ⟨o1, ho1, hc1, _⟩ := h1
      rw [e, ho1] at ho
      cases ho
      rw [hc1] at hcl
      simp at hcl) its.toArray
    have D2 := Draws.tuple (prog := X.prog) (w := X.w) (A := X.A.in1) (I.ok.hd hc) i2 b (fun e => by
      obtain ⟨o, ho, hcl, _⟩ := p2
      obtain ⟨o1, ho1, hc1, _⟩ := h2
      rw [e, ho1] at ho
      cases ho
      rw [hc1] at hcl
      simp at hcl) its2.toArray
    refine wpAny_pyNext_zipD2_item S D1 D2 hz hTI hTO ⟨by rw [n1]; exact hin, by rw [n1]; exact h1, p.isList⟩ ⟨h2, p2⟩ (by rw [n1]; exact hlt) (by rw [n2]; exact hlt) fun v1 v2 h' tk y1 y2 z' TO' h1' h2' hT hsz hk => ?_
    have ev1 : v1 = u := by
      rw [n1] at y1
      have y1 : its[n - 1 - i]? = some v1 := by simpa using y1
      rw [hu] at y1
      cases y1
      rfl
    have ev2 : v2 = u2 := by
      have y2 : its2[i]? = some v2 := by simpa using y2
      rw [hu2] at y2
      cases y2
      rfl
    subst ev1
    subst ev2
    refine ⟨_, rfl, wpAny_letOwnedTupleGo_zip (s := { s with heap := h', toks := tk }) z' fun h'' z'' sb => ?_⟩
    have hT2 : h''.get? s.heap.objs.size = some { cls := .type "tuple", data := .seq #[v1, v2] } := (sb.2 _ (Nat.ne_of_gt hzl)).trans hT
    have new : ObjOk X.prog X.w (upd H s.heap.objs.size (.tup [x, y])) h'' s.heap.objs.size (.tup [x, y]) :=
      ⟨by show 2 ≤ sizeLine; decide, [v1, v2], .cons ru (.cons ru2 .nil), ⟨_, hT2, rfl, _, rfl⟩⟩
    have I1 : Inv X pins σ (upd H s.heap.objs.size (.tup [x, y])) { s with heap := h'', toks := tk } :=
      I.turnedNew (t' := tk) (ch := [z, TI, TO, i1, i2]) (fun c o hb q => (sb.2 c (fun q' => hb (by simp [q']))).trans (hk c o (fun q' => hb (by simp [q'])) (fun q' => hb (by simp [q'])) (fun q' => hb (by simp [q'])) (fun q' => hb (by simp [q'])) q)) hf (Nat.le_refl _) new
    refine ⟨.ref s.heap.objs.size, _, I1, rfl, ⟨_, x, y, rfl, I.hok.fresh (Nat.le_refl _), rfl, fun l hl => by rw [I.list_inj hl hqx]; exact hx, fun l hl => by rw [I.tuple_inj hl hqy]; exact hy⟩, ⟨z'', ?_, ⟨v1, v2, ?_⟩, ⟨hlt, ?_⟩, ?_⟩, fun c hcm => ?_⟩
    · exact (sb.2 _ S.TIz).trans (hk _ _ S.TIz S.TITO S.TIi1 S.TIi2 hTI)
    · exact (sb.2 _ S.TOz).trans TO'
    · have := h1'.2.1
      rw [n1] at this
      exact this.at fun o q => (sb.2 _ (Ne.symm S.zi1)).trans q
    · exact h2'.1.at fun o q => (sb.2 _ (Ne.symm S.zi2)).trans q
    · have hlt : c < s.heap.objs.size := by
        have e' : c = z ∨ c = TI ∨ c = TO ∨ c = i1 ∨ c = i2 := by simpa using hcm
        rcases e' with q | q | q | q | q
        · rw [q]; exact hzl
        · rw [q]; exact Heap.lt_size hTI
        · rw [q]; exact Heap.lt_size hTO
        · rw [q]; obtain ⟨_, e1, _⟩ := h1; exact Heap.lt_size e1
        · rw [q]; obtain ⟨_, e2, _⟩ := h2; exact Heap.lt_size e2
      rw [upd_ne (Nat.ne_of_lt hlt)]
      exact (hf c hcm).1
  done := by
    intro X hP hw hK hc i pins s σ H E I hf st hg
    subst hP hw hK
    obtain ⟨hz, hTI, ⟨x0, y0, hTO⟩, ⟨hin, h1⟩, h2⟩ := st
    obtain ⟨xs, ys, ⟨hqx, hqy⟩, l1, l2, hge⟩ := hg
    obtain ⟨its, rv, p, _⟩ := I.list hqx
    obtain ⟨its2, rv2, p2, _⟩ := I.tuple hqy
    have n1 : its.toArray.size = n := by rw [List.size_toArray, ← rv.length, l1]
    have n2 : its2.toArray.size = n := by rw [List.size_toArray, ← rv2.length, l2]
    have D1 := draws_rev (prog := X.prog) (w := X.w) (A := X.A.in1) (it := i1) (l := a) (I.ok.hd hc) (fun e => by
      obtain ⟨o, ho, hcl, _⟩ := p.isList
      obtain ⟨o1, ho1, hc1, _⟩ := h1
      rw [e, ho1] at ho
      cases ho
      rw [hc1] at hcl
      simp at hcl) its.toArray
    have D2 := Draws.tuple (prog := X.prog) (w := X.w) (A := X.A.in1) (I.ok.hd hc) i2 b (fun e => by
      obtain ⟨o, ho, hcl, _⟩ := p2
      obtain ⟨o1, ho1, hc1, _⟩ := h2
      rw [e, ho1] at ho
      cases ho
      rw [hc1] at hcl
      simp at hcl) its2.toArray
    refine wpAny_pyNext_zipD2_end (i := i) S D1 D2 hz hTI hTO ⟨by rw [n1]; exact hin, by rw [n1]; exact h1, p.isList⟩ ⟨h2, p2⟩ (by rw [n1]; exact hin) (by rw [n2]; exact hin) (.inl (by rw [n1]; omega)) fun h' tk hk => ⟨rfl, I.turnedL (t' := tk) (ch := [z, TI, TO, i1, i2]) (fun c o hb q =>
      hk c o (fun q' => hb (by simp [q'])) (fun q' => hb (by simp [q'])) (fun q' => hb (by simp [q'])) (fun q' => hb (by simp [q'])) q) hf⟩
  self := fun A i s Q E st h => wpAny_pyIter_zip st.1 h
/-- zip(reversed(x), y): x a list, y a tuple that is as long -/
def iZipR (K : PySem.W.Frag) (te tb : TE) : TI := fun σ H R => te σ H fun v H1 => ∃ (a : Addr) (xs : List V), v = .ref a ∧ SqL K H1 a xs ∧ tb σ H1 fun u H2 => ∃ (b : Addr) (ys : List V), u = .ref b ∧ SqL K H2 a xs ∧ SqT K H2 b ys ∧ xs.length = ys.length ∧ R (Itzr K a b ys.length) H2
theorem zip_sepR (m r a b : Nat) (hr : r < m) (ha : a < m) (hb : b < m) (hrb : r ≠ b) : ZipSep2 (m + 3) (m + 1) (m + 2) r m [r, a] [m, b] := by
  have mem2 : ∀ x u v : Nat, x ∈ [u, v] → x = u ∨ x = v := fun x u v h => by simpa using h
  refine { TIz := fun h => absurd (show m + 1 = m + 3 from h) (by omega), TOz := fun h => absurd (show m + 2 = m + 3 from h) (by omega), TITO := fun h => absurd (show m + 1 = m + 2 from h) (by omega), TIi1 := fun h => absurd (show m + 1 = r from h) (by omega), mem1 := List.mem_cons_self, zf1 := fun h => ?_, Tf1 := fun h => ?_, TIi2 := fun h => absurd (show m + 1 = m from h) (by omega), mem2 := List.mem_cons_self, zf2 := fun h => ?_, Tf2 := fun h => ?_, sep1_2 := fun h => ?_, sep2_1 := fun h => ?_ }
  · have := mem2 (m + 3) r a h; omega
  · have := mem2 (m + 2) r a h; omega
  · have := mem2 (m + 3) m b h; omega
  · have := mem2 (m + 2) m b h; omega
  · have := mem2 r m b h; omega
  · have := mem2 m r a h; omega
theorem pi_zipR {X : Cx} {e e2 : Expr} {te tb : TE} {p p2 pos pos2 tpos : Pos} {elts : List Expr} {kk : Nat} (hg : Gl X "zip") (hm : X.mg "zip" = none) (hgr : Gl X "reversed") (hmr : X.mg "reversed" = none) (he : PE X e te) (he2 : PE X e2 tb)
    (hs1 : starEach [e] X.env = (false, eval e X.env) :: starEach [] X.env := by rfl)
    (hs2 : starEach [.Call (.Name "reversed" p2) [e] [] pos2, e2] X.env = (false, eval (.Call (.Name "reversed" p2) [e] [] pos2) X.env) :: starEach [e2] X.env := by rfl)
    (hs3 : starEach [e2] X.env = (false, eval e2 X.env) :: starEach [] X.env := by rfl) (hpl : (backTo pos (starEach [e2] X.env)).any (·.1) = false := by rfl) :
    PI X (.Tuple elts kk tpos) (.Call (.Name "zip" p) [.Call (.Name "reversed" p2) [e] [] pos2, e2] [] pos) (iZipR X.K te tb) := by
  refine ⟨fun pins s σ H R I h => ?_⟩
  refine Call_ (ld_blt I hg hm PyProof.Rows.boot_zip (PyProof.Rows.callWith_type1 (args_cons (Call_ (ld_blt I hgr hmr PyProof.Rows.boot_reversed (PyProof.Rows.callWith_type1 (args_cons (thn (he.run pins s σ H _ I h) fun u s1 ⟨v, H1, I1, r1, q1⟩ => args_nil ?_) hs1) hs1 rfl))) hs2) hs2 hpl))
  obtain ⟨a, xs, ev, hq, q⟩ := q1
  subst ev
  obtain rfl : u = Value.ref a := r1
  obtain ⟨its, rv, p1, _⟩ := I1.list hq
  refine call_reversed_list p1.isList ?_
  have I2 : Inv X pins σ H1 { s1 with heap := s1.heap.push (revObj a ((its.toArray.size : Int) - 1)) } := I1.kept (t' := s1.toks) fun b o e => Heap.get?_push_of_some _ e
  have fp : FpOk X pins H1 s1.heap.objs.size := I1.fpOk (Nat.le_refl _) (I1.hok.fresh (Nat.le_refl _))
  have hr0 : (s1.heap.push (revObj a ((its.toArray.size : Int) - 1))).get? s1.heap.objs.size = some (revObj a ((its.toArray.size : Int) - 1)) := Heap.get?_push_size _ rfl
  have I3 : Inv X ((s1.heap.objs.size, revObj a ((its.toArray.size : Int) - 1)) :: pins) σ H1 { s1 with heap := s1.heap.push (revObj a ((its.toArray.size : Int) - 1)) } := I2.pins_of fun p hp => by
    rcases List.mem_cons.mp hp with e | hp
    · rw [e]
      exact ⟨hr0, fp.1, fp.2.1, fp.2.2.1, fun v z => nomatch z⟩
    · exact I2.pin p (List.mem_append_right _ hp)
  refine args_cons (thn (he2.run _ _ σ H1 _ I3 q) fun u2 s2 ⟨v2, H2, I4, r2, q2⟩ => args_nil ?_) hs3
  obtain ⟨b, ys, ev2, hqx, hqy, hlen, q2⟩ := q2
  subst ev2
  obtain rfl : u2 = Value.ref b := r2
  have hpin := I4.pin (s1.heap.objs.size, revObj a ((its.toArray.size : Int) - 1)) (List.mem_append_right _ List.mem_cons_self)
  have I5 : Inv X pins σ H2 s2 := I4.pins_of fun p hp => I4.pin p (List.mem_append_right _ (List.mem_cons_of_mem _ hp))
  obtain ⟨its1, rv1, p3, _⟩ := I5.list hqx
  obtain ⟨its2, rv2, p4, _⟩ := I5.tuple hqy
  have hR : s2.heap.IsRevIter s1.heap.objs.size a ((its.toArray.size : Int) - 1) := ⟨_, hpin.1, rfl, rfl⟩
  have hm1 : s1.heap.objs.size < s2.heap.objs.size := Heap.lt_size hpin.1
  have ha : a < s2.heap.objs.size := by
    obtain ⟨o, ho, _⟩ := p3.isList
    exact Heap.lt_size ho
  have hb : b < s2.heap.objs.size := by
    obtain ⟨o, ho, _⟩ := p4
    exact Heap.lt_size ho
  have hrb : s1.heap.objs.size ≠ b := fun e => by
    obtain ⟨o, ho, hcl, _⟩ := p4
    have h1 := hpin.1
    dsimp only at h1
    rw [e, ho] at h1
    cases h1
    simp [revObj] at hcl
  have hn : its.toArray.size = ys.length := by
    have e1 := rv.length
    have e2 := rv1.length
    have e3 : xs.length = ys.length := hlen
    rw [List.size_toArray]
    omega
  refine zip_beginsR hR p4 fun h' hz hTI hTO hit hsz hk => wpAny_pyIter_zip hz ?_
  have I6 : Inv X pins σ H2 { s2 with heap := h' } := I5.kept (t' := s2.toks) hk
  refine ⟨s2.heap.objs.size + 3, [s2.heap.objs.size + 3, s2.heap.objs.size + 1, s2.heap.objs.size + 2, s1.heap.objs.size, s2.heap.objs.size], _, _, H2, rfl, I6, turn_zipR (n := ys.length) ?_, ⟨hz, hTI, ⟨_, _, hTO⟩, ⟨Nat.zero_le _, ?_⟩, ⟨_, hit, rfl, rfl⟩⟩, fun c hcm => ?_, q2⟩
  · exact zip_sepR _ _ _ _ hm1 ha hb hrb
  · have := hR.at (h' := h') fun o e => hk _ o e
    rw [hn] at this
    have e0 : (ys.length : Int) - 1 - ((0 : Nat) : Int) = (ys.length : Int) - 1 := by omega
    rw [e0]
    exact this
  · have e' : c = s2.heap.objs.size + 3 ∨ c = s2.heap.objs.size + 1 ∨ c = s2.heap.objs.size + 2 ∨ c = s1.heap.objs.size ∨ c = s2.heap.objs.size := by simpa using hcm
    rcases e' with z | z | z | z | z
    · rw [z]; exact I5.fpOk (Nat.le_add_right _ _) (I5.hok.fresh (Nat.le_add_right _ _))
    · rw [z]; exact I5.fpOk (Nat.le_add_right _ _) (I5.hok.fresh (Nat.le_add_right _ _))
    · rw [z]; exact I5.fpOk (Nat.le_add_right _ _) (I5.hok.fresh (Nat.le_add_right _ _))
    · rw [z]; exact ⟨hpin.2.1, fp.2⟩
    · rw [z]; exact I5.fpOk (Nat.le_refl _) (I5.hok.fresh (Nat.le_refl _))
theorem walk_zipR {K : PySem.W.Frag} {a b : Addr} {xs ys : List V} (hl : xs.length = ys.length) : Walk (Itzr K a b ys.length) ys.length (fun H => SqL K H a xs ∧ SqT K H b ys) (fun i H v H' => ∃ T x y, v = .ref T ∧ H T = none ∧ H' = upd H T (.tup [x, y]) ∧ xs[ys.length - 1 - i]? = some x ∧ ys[i]? = some y) where
  goes := fun i H hi h => ⟨xs, ys, _, _, h, ⟨hl, rfl, hi⟩, List.getElem?_eq_getElem (by omega), List.getElem?_eq_getElem hi⟩
  stops := fun H h => ⟨xs, ys, h, hl, rfl, Nat.le_refl _⟩
  yields := fun i H v H' hi h ⟨T, x, y, e1, e2, e3, e4, e5⟩ => ⟨T, x, y, e1, e2, e3, e4 xs h.1, e5 ys h.2⟩
end TH
set_option maxRecDepth 100000
set_option maxHeartbeats 4000000
namespace TH
open PySem L2 Evl
/-! ### lists of numbers as they compare -/
def lexL : List Int → List Int → Bool
  | [], [] => false
  | [], _ :: _ => true
  | _ :: _, [] => false
  | x :: xs, y :: ys => if x = y then lexL xs ys else decide (x < y)
theorem lexL_irr : ∀ xs, lexL xs xs = false
  | [] => rfl
  | x :: xs => by rw [lexL, if_pos rfl]; exact lexL_irr xs
theorem lexL_asym : ∀ xs ys, lexL xs ys = true → lexL ys xs = false
  | [], [], h => rfl
  | x :: xs, [], h => by rw [lexL] at h; cases h
  | [], y :: ys, _ => by rw [lexL]
  | x :: xs, y :: ys, h => by
    rw [lexL] at h ⊢
    by_cases e : x = y
    · rw [if_pos e] at h
      rw [if_pos e.symm]
      exact lexL_asym xs ys h
    · rw [if_neg e] at h
      rw [if_neg (fun q => e q.symm)]
      have := of_decide_eq_true h
      exact decide_eq_false (by omega)
theorem lexL_tri : ∀ xs ys, lexL xs ys = false → lexL ys xs = false → xs = ys
  | [], [], _, _ => rfl
  | x :: xs, [], _, h => by rw [lexL] at h; cases h
  | [], y :: ys, h, _ => by rw [lexL] at h; cases h
  | x :: xs, y :: ys, h, h2 => by
    rw [lexL] at h h2
    by_cases e : x = y
    · rw [if_pos e] at h
      rw [if_pos e.symm] at h2
      rw [e, lexL_tri xs ys h h2]
    · rw [if_neg e] at h
      rw [if_neg (fun q => e q.symm)] at h2
      have := of_decide_eq_false h
      have := of_decide_eq_false h2
      omega
theorem lexL_app : ∀ (xs ys us vs : List Int), xs.length = ys.length → lexL xs ys = true → lexL (xs ++ us) (ys ++ vs) = true
  | [], [], us, vs, _, h => by rw [lexL] at h; cases h
  | x :: xs, [], us, vs, hl, _ => by cases hl
  | [], y :: ys, us, vs, hl, _ => by cases hl
  | x :: xs, y :: ys, us, vs, hl, h => by
    rw [lexL] at h
    rw [List.cons_append, List.cons_append, lexL]
    by_cases e : x = y
    · rw [if_pos e] at h
      rw [if_pos e]
      exact lexL_app xs ys us vs (Nat.succ.inj hl) h
    · rw [if_neg e] at h
      rw [if_neg e]
      exact h
theorem lexL_pre : ∀ (xs us vs : List Int), lexL (xs ++ us) (xs ++ vs) = lexL us vs
  | [], _, _ => rfl
  | x :: xs, us, vs => by
    rw [List.cons_append, List.cons_append, lexL, if_pos rfl]
    exact lexL_pre xs us vs
theorem eqvI (x y : Int) : PyData.eqv (.int x) (.int y) = decide (x = y) := by
  rw [PyData.eqv]
  rfl
theorem lex_ints : ∀ xs ys : List Int, PyProof.Rows.lexLt PyProof.Rows.itemOrd (PySem.W.keyToksAll (xs.map PyData.int)) (PySem.W.keyToksAll (ys.map PyData.int)) = lexL xs ys
  | [], [] => by rw [lexL]; exact PyProof.Rows.lex_irrefl (O := PyProof.Rows.itemOrd) _
  | [], y :: ys => by
    rw [List.map_nil, List.map_cons, PySem.W.toks_all_cons, lexL, PySem.W.keyToksAll, PyProof.Rows.lex_diff (O := PyProof.Rows.itemOrd) (by simp)]
    simp [PyProof.Rows.itemLt]
  | x :: xs, [] => by
    rw [List.map_nil, List.map_cons, PySem.W.toks_all_cons, lexL, PySem.W.keyToksAll, PyProof.Rows.lex_diff (O := PyProof.Rows.itemOrd) (by simp)]
    simp [PyProof.Rows.itemLt]
  | x :: xs, y :: ys => by
    rw [List.map_cons, List.map_cons, lexL]
    by_cases e : x = y
    · rw [if_pos e, PySem.W.dataLt_all_yes (by rw [PySem.W.alike]) (by rw [eqvI, decide_eq_true e])]
      exact lex_ints xs ys
    · rw [if_neg e, PySem.W.dataLt_all_no (by rw [PySem.W.alike]) (by rw [eqvI, decide_eq_false e]), PySem.W.dataLt_int]
theorem alike_ints : ∀ xs ys : List Int, PySem.W.alikeAll (xs.map PyData.int) (ys.map PyData.int) = true
  | [], _ => by rw [List.map_nil, PySem.W.alikeAll]
  | x :: xs, [] => by rw [List.map_nil, List.map_cons, PySem.W.alikeAll]
  | x :: xs, y :: ys => by
    rw [List.map_cons, List.map_cons, PySem.W.alikeAll, alike_ints xs ys, PySem.W.alike]
    rfl
theorem alike_tupI (xs ys : List Int) : PySem.W.alike (tupI xs) (tupI ys) = true := by
  unfold tupI
  rw [PySem.W.alike]
  exact alike_ints xs ys
theorem dataLt_tupI (xs ys : List Int) : PySem.W.dataLt (tupI xs) (tupI ys) = lexL xs ys := by
  unfold tupI
  rw [PySem.W.dataLt_tuple]
  exact lex_ints xs ys
/-! ### the same with pairs -/
def pairD (p : Int × Int) : PyData := tupI [p.1, p.2]
def flatP (P : List (Int × Int)) : List Int := P.flatMap fun p => [p.1, p.2]
theorem flatP_cons (p : Int × Int) (P : List (Int × Int)) : flatP (p :: P) = p.1 :: p.2 :: flatP P := rfl
theorem lex_pairs : ∀ P R : List (Int × Int), PyProof.Rows.lexLt PyProof.Rows.itemOrd (PySem.W.keyToksAll (P.map pairD)) (PySem.W.keyToksAll (R.map pairD)) = lexL (flatP P) (flatP R)
  | [], [] => by show _ = lexL [] []; rw [lexL]; exact PyProof.Rows.lex_irrefl (O := PyProof.Rows.itemOrd) _
  | [], y :: ys => by
    rw [List.map_nil, List.map_cons, PySem.W.toks_all_cons, flatP_cons]
    show _ = lexL [] (_ :: _)
    rw [lexL, PySem.W.keyToksAll, PyProof.Rows.lex_diff (O := PyProof.Rows.itemOrd) (by simp)]
    simp [PyProof.Rows.itemLt]
  | x :: xs, [] => by
    rw [List.map_nil, List.map_cons, PySem.W.toks_all_cons, flatP_cons]
    show _ = lexL (_ :: _) []
    rw [lexL, PySem.W.keyToksAll, PyProof.Rows.lex_diff (O := PyProof.Rows.itemOrd) (by simp)]
    simp [PyProof.Rows.itemLt]
  | (a, b) :: xs, (c, d) :: ys => by
    rw [List.map_cons, List.map_cons, flatP_cons, flatP_cons, lexL, lexL, show pairD (a, b) = tupI [a, b] from rfl, show pairD (c, d) = tupI [c, d] from rfl]
    by_cases e : a = c
    · by_cases e2 : b = d
      · rw [if_pos e, if_pos e2, PySem.W.dataLt_all_yes (alike_tupI _ _) (by rw [eqv_tupI, decide_eq_true (by rw [e, e2])])]
        exact lex_pairs xs ys
      · rw [if_pos e, if_neg e2, PySem.W.dataLt_all_no (alike_tupI _ _) (by rw [eqv_tupI, decide_eq_false]; intro h; cases h; exact e2 rfl)]
        rw [dataLt_tupI, lexL, if_pos e, lexL, if_neg e2]
    · rw [if_neg e, PySem.W.dataLt_all_no (alike_tupI _ _) (by rw [eqv_tupI, decide_eq_false]; intro h; cases h; exact e rfl)]
      rw [dataLt_tupI, lexL, if_neg e]
theorem alike_pairs : ∀ P R : List (Int × Int), PySem.W.alikeAll (P.map pairD) (R.map pairD) = true
  | [], _ => by rw [List.map_nil, PySem.W.alikeAll]
  | x :: xs, [] => by rw [List.map_nil, List.map_cons, PySem.W.alikeAll]
  | x :: xs, y :: ys => by
    rw [List.map_cons, List.map_cons, PySem.W.alikeAll, alike_pairs xs ys]
    unfold pairD
    rw [alike_tupI]
    rfl
def listP (P : List (Int × Int)) : PyData := .list (P.map pairD)
theorem alike_listP (P R : List (Int × Int)) : PySem.W.alike (listP P) (listP R) = true := by
  unfold listP
  rw [PySem.W.alike]
  exact alike_pairs P R
theorem dataLt_listP (P R : List (Int × Int)) : PySem.W.dataLt (listP P) (listP R) = lexL (flatP P) (flatP R) := by
  unfold listP
  rw [PySem.W.dataLt_list]
  exact lex_pairs P R
theorem flat_listP (P : List (Int × Int)) : Flat 2 (listP P) := flat_list fun d hd => by
  obtain ⟨i, _, rfl⟩ := List.mem_map.mp hd
  exact flat_tupI _
/-! ### the key of a tree -/
def pairsT (t : Tr) : List (Int × Int) := (t.sizes.zip t.row).map fun p => ((p.1 : Int), (p.2 : Int))
def keyL (t : Tr) : List Int := flatP (pairsT t)
theorem keyL_n0 (s : Nat) : keyL (.n0 s) = [1, (s : Int)] := rfl
theorem keyL_n1 (s : Nat) (t : Tr) : keyL (.n1 s t) = ((1 + t.size : Nat) : Int) :: (s : Int) :: keyL t := rfl
theorem flatP_app (P R : List (Int × Int)) : flatP (P ++ R) = flatP P ++ flatP R := List.flatMap_append
theorem keyL_n2 (s : Nat) (t u : Tr) : keyL (.n2 s t u) = ((1 + (t.size + u.size) : Nat) : Int) :: (s : Int) :: (keyL t ++ keyL u) := by
  have e : pairsT (.n2 s t u) = (((1 + (t.size + u.size) : Nat) : Int), (s : Int)) :: (pairsT t ++ pairsT u) := by
    unfold pairsT
    show ((((1 + (t.size + u.size)) :: (t.sizes ++ u.sizes)).zip (s :: (t.row ++ u.row))).map _) = _
    rw [List.zip_cons_cons, List.zip_append (by rw [Tr.sizes_len]; rfl), List.map_cons, List.map_append]
  unfold keyL
  rw [e, flatP_cons, flatP_app]
theorem pairsT_len (t : Tr) : (pairsT t).length = t.size := by
  unfold pairsT
  rw [List.length_map, List.length_zip, Tr.sizes_len, show t.row.length = t.size from rfl, Nat.min_self]
theorem flatP_len : ∀ P : List (Int × Int), (flatP P).length = 2 * P.length
  | [] => rfl
  | p :: P => by
    rw [flatP_cons, List.length_cons, List.length_cons, flatP_len P, List.length_cons]
    omega
theorem keyL_len (t : Tr) : (keyL t).length = 2 * t.size := by
  unfold keyL
  rw [flatP_len, pairsT_len]
theorem flatP_inj : ∀ {P R : List (Int × Int)}, flatP P = flatP R → P = R
  | [], [], _ => rfl
  | [], (c, d) :: R, h => by rw [flatP_cons] at h; cases h
  | (a, b) :: P, [], h => by rw [flatP_cons] at h; cases h
  | (a, b) :: P, (c, d) :: R, h => by
    rw [flatP_cons, flatP_cons] at h
    injection h with h1 h2
    injection h2 with h2 h3
    have h1 : a = c := h1
    have h2 : b = d := h2
    rw [flatP_inj h3, h1, h2]
theorem pairs_row (t : Tr) : (pairsT t).map (·.2) = ofN t.row := by
  unfold pairsT ofN
  rw [List.map_map]
  have key : ∀ (as bs : List Nat), as.length = bs.length → (as.zip bs).map ((fun p : Int × Int => p.2) ∘ fun p : Nat × Nat => ((p.1 : Int), (p.2 : Int))) = bs.map fun (s : Nat) => (s : Int) := by
    intro as
    induction as with
    | nil =>
      intro bs h
      cases bs with
      | nil => rfl
      | cons b bs => cases h
    | cons a as ih =>
      intro bs h
      cases bs with
      | nil => cases h
      | cons b bs =>
        rw [List.zip_cons_cons, List.map_cons, List.map_cons, ih bs (Nat.succ.inj h)]
        rfl
  exact key _ _ (Tr.sizes_len t)
theorem keyL_row {t u : Tr} (h : keyL t = keyL u) : ofN t.row = ofN u.row := by
  rw [← pairs_row, ← pairs_row, flatP_inj h]
theorem row_keyL {S : List Sg} {t u : Tr} (ht : OkT S t) (hu : OkT S u) (h : ofN t.row = ofN u.row) : t = u := by
  have key : ∀ (n : Nat) (ts us : List Tr), Tr.sizeF ts ≤ n → (∀ x ∈ ts, OkT S x) → (∀ x ∈ us, OkT S x) → Tr.rowF ts = Tr.rowF us → ts = us := by
    intro n
    induction n with
    | zero =>
      intro ts us hn _ _ e
      have h0 : ts = [] := Tr.suf_nil (n := 0).mpr hn
      rw [h0] at e ⊢
      exact (Tr.rowF_empty.mp e.symm).symm
    | succ n ih =>
      intro ts us hn h1 h2 e
      cases ts with
      | nil => exact (Tr.rowF_empty.mp e.symm).symm
      | cons a ts =>
        cases us with
        | nil => exact absurd (Tr.rowF_empty.mp e) (by simp)
        | cons b us =>
          have ha := h1 a List.mem_cons_self
          have hb := h2 b List.mem_cons_self
          have e0 := e
          rw [Tr.rowF_cons, Tr.rowF_cons, Tr.row_eq a, Tr.row_eq b, List.cons_append, List.cons_append, ← Tr.rowF_app, ← Tr.rowF_app] at e
          injection e with er ef
          have hk : a.kids.length = b.kids.length := by
            rw [← ha.ark, ← hb.ark, er]
          have hs : Tr.sizeF (a.kids ++ ts) ≤ n := by
            rw [Tr.sizeF_cons, Tr.size_eq] at hn
            rw [Tr.sizeF_app]
            omega
          have := ih _ _ hs (fun x hx => by
            rcases List.mem_append.mp hx with hx | hx
            · exact ha.kids x hx
            · exact h1 x (List.mem_cons_of_mem _ hx)) (fun x hx => by
            rcases List.mem_append.mp hx with hx | hx
            · exact hb.kids x hx
            · exact h2 x (List.mem_cons_of_mem _ hx)) ef
          obtain ⟨e1, e2⟩ := List.append_inj this hk
          rw [e2]
          congr 1
          cases a with
          | n0 s =>
            cases b with
            | n0 s' => cases er; rfl
            | n1 s' t' => cases e1
            | n2 s' t' u' => cases e1
          | n1 s t =>
            cases b with
            | n0 s' => cases e1
            | n1 s' t' => cases er; cases e1; rfl
            | n2 s' t' u' => cases e1
          | n2 s t u =>
            cases b with
            | n0 s' => cases e1
            | n1 s' t' => cases e1
            | n2 s' t' u' => cases er; cases e1; rfl
  have hr : t.row = u.row := by
    have hm : ∀ as bs : List Nat, ofN as = ofN bs → as = bs := by
      intro as
      induction as with
      | nil =>
        intro bs h
        cases bs with
        | nil => rfl
        | cons b bs => cases h
      | cons a as ih =>
        intro bs h
        cases bs with
        | nil => cases h
        | cons b bs =>
          have h : (a : Int) :: ofN as = (b : Int) :: ofN bs := h
          injection h with h1 h2
          rw [ih bs h2, Int.ofNat.inj h1]
    exact hm _ _ h
  have := key _ [t] [u] (Nat.le_refl _) (fun x hx => by rw [List.mem_singleton.mp hx]; exact ht) (fun x hx => by rw [List.mem_singleton.mp hx]; exact hu) (by rw [Tr.row_one, Tr.row_one, hr])
  cases this
  rfl
/-! ### which goes ahead -/
def aheadZ (t u : Tr) : Int := if ofN t.row = ofN u.row then 0 else if lexL (keyL t) (keyL u) = true then -1 else 1
def b2i (b : Bool) : Int := if b = true then 1 else 0
def dueZ (t u : Tr) : Int := b2i (lexL (keyL u) (keyL t)) - b2i (lexL (keyL t) (keyL u))
theorem row_key {t u : Tr} {S : List Sg} (ht : OkT S t) (hu : OkT S u) (h : ofN t.row = ofN u.row) : keyL t = keyL u := by rw [row_keyL ht hu h]
theorem ahead_due {S : List Sg} {t u : Tr} (ht : OkT S t) (hu : OkT S u) : aheadZ t u = dueZ t u := by
  unfold aheadZ dueZ
  by_cases h : ofN t.row = ofN u.row
  · rw [if_pos h, row_key ht hu h, lexL_irr]
    rfl
  · rw [if_neg h]
    cases h1 : lexL (keyL t) (keyL u) with
    | true =>
      rw [lexL_asym _ _ h1]
      rfl
    | false =>
      cases h2 : lexL (keyL u) (keyL t) with
      | true => rfl
      | false => exact absurd (keyL_row (lexL_tri _ _ h1 h2)) h
theorem ahead_lt {S : List Sg} {t u : Tr} (ht : OkT S t) (hu : OkT S u) (h : lexL (keyL t) (keyL u) = true) : aheadZ t u = -1 ∧ aheadZ u t = 1 := by
  rw [ahead_due ht hu, ahead_due hu ht]
  unfold dueZ
  rw [h, lexL_asym _ _ h]
  exact ⟨rfl, rfl⟩
end TH
set_option maxRecDepth 100000
set_option maxHeartbeats 4000000
namespace TH
open PySem L2 Evl
abbrev sRank : Stmt := top 12
/-! ### less and greater, place by place -/
def rLtD (K : PySem.W.Frag) : R2 := fun x y H Q => ∃ d e, Dp K H x d ∧ Dp K H y e ∧ PySem.W.alike d e = true ∧ d ≠ .none ∧ d.depth ≤ 20 ∧ Q (.bl (PySem.W.dataLt d e)) H
def rGtD (K : PySem.W.Frag) : R2 := fun x y H Q => ∃ d e, Dp K H x d ∧ Dp K H y e ∧ PySem.W.alike d e = true ∧ d ≠ .none ∧ d.depth ≤ 20 ∧ Q (.bl (PySem.W.dataLt e d)) H
section
variable {X : Cx}
theorem op_ltD (hu : X.A.units + 64 < cLine) : OpR X (compareOp .Lt) (rLtD X.K) := by
  intro pins s σ H x y v u Q I rx ry h
  obtain ⟨d, e, hd, he, al, hn, dd, q⟩ := h
  obtain ⟨as, r1⟩ := Dp.reads I d x v hd rx
  obtain ⟨bs, r2⟩ := Dp.reads I e y u he ry
  have hm : X.A.units + min d.depth e.depth < cLine := Nat.lt_of_le_of_lt (Nat.add_le_add_left (Nat.le_trans (Nat.min_le_left _ _) (Nat.le_trans dd (by decide))) _) hu
  exact PySem.W.lt_data r1 r2 al hn hm ⟨.bl _, H, I, rfl, q⟩
theorem op_gtD (hu : X.A.units + 64 < cLine) : OpR X (compareOp .Gt) (rGtD X.K) := by
  intro pins s σ H x y v u Q I rx ry h
  obtain ⟨d, e, hd, he, al, hn, dd, q⟩ := h
  obtain ⟨as, r1⟩ := Dp.reads I d x v hd rx
  obtain ⟨bs, r2⟩ := Dp.reads I e y u he ry
  have hm : X.A.units + min d.depth e.depth < cLine := Nat.lt_of_le_of_lt (Nat.add_le_add_left (Nat.le_trans (Nat.min_le_left _ _) (Nat.le_trans dd (by decide))) _) hu
  exact PySem.W.gt_data r1 r2 al hn hm ⟨.bl _, H, I, rfl, q⟩
end
section
variable {K : PySem.W.Frag} {M M' : Addr → Prop} {H H1 H' : Hp} {σ : L2.St} {ta tb te tc : TE} {v : V} {d1 d2 : PyData}
theorem evd_ltD {n : Nat} (ha : EvD K M ta σ H d1) (hb : EvD K M tb σ H d2) (al : PySem.W.alike d1 d2 = true) (hn : d1 ≠ .none) (f1 : Flat n d1) (h : n ≤ 20 := by decide) : EvD K M (tOp (rLtD K) ta tb) σ H (.bool (PySem.W.dataLt d1 d2)) :=
  evp_op ha hb fun x y a b H1 e dx dy px py Q q => by
    subst px py
    exact ⟨_, _, dx.dp, dy.dp, al, hn, Nat.le_trans f1.depth h, q _ _ H1 (Ex.refl _) (.bl _) rfl⟩
theorem evd_gtD {n : Nat} (ha : EvD K M ta σ H d1) (hb : EvD K M tb σ H d2) (al : PySem.W.alike d1 d2 = true) (hn : d1 ≠ .none) (f1 : Flat n d1) (h : n ≤ 20 := by decide) : EvD K M (tOp (rGtD K) ta tb) σ H (.bool (PySem.W.dataLt d2 d1)) :=
  evp_op ha hb fun x y a b H1 e dx dy px py Q q => by
    subst px py
    exact ⟨_, _, dx.dp, dy.dp, al, hn, Nat.le_trans f1.depth h, q _ _ H1 (Ex.refl _) (.bl _) rfl⟩
theorem evd_neg1 : EvD K M (tUn (rU fun i => .int (-i)) (tC (.int 1))) σ H (.int (-1)) := fun H1 e Q q => ⟨1, rfl, q _ _ H1 (Ex.refl _) (.int (-1)) rfl⟩
end
/-! ### rank, ahead -/
/-- a def that may raise -/
def OneX (P : Program) (w : World) (K : PySem.W.Frag) (mg : Str → Option Value) (base : Heap) (x : Str) (k : Nat) (ps : List Str) (sp : Sp) : Prop :=
  ∃ (f : Addr) (fd : FuncData), mg x = some (.ref f) ∧ PySem.W.keepIn K (.ref f) = true ∧ FnOk P w K mg base (L2.CX P w) k f fd ps sp ∧ Binds K fd ps []
structure GlobZ (mg : Str → Option Value) : Prop where
  list : mg "list" = none
  zip : mg "zip" = none
def spRank (K : PySem.W.Frag) (C : Addr) : Sp := fun vs H Q _ => ∃ (p : Addr) (v : V) (S : List Sg) (t : Tr), vs = [.ref p, v] ∧ BookAt C MF H p S ∧ KidsOk S ∧ Dt K MF H v (rowD t) ∧ OkT S t ∧ t.size ≤ 100000 ∧
  ∀ x H', Ex H H' → Dt K MF H' x (listP (pairsT t)) → Q x H'
theorem pairs_dts {K : PySem.W.Frag} {M : Addr → Prop} {H : Hp} : ∀ {as bs : List Nat} {ts : List Addr}, Paired (fun (t : Addr) (p : V × V) => H t = some (.tup [p.1, p.2])) ts ((nums as).zip ((ofN bs).map V.int)) →
    Dts K M H (ts.map V.ref) (((as.zip bs).map fun p => ((p.1 : Int), (p.2 : Int))).map pairD)
  | [], _, ts, h => by
    cases h
    exact .nil
  | a :: as, [], ts, h => by
    cases h
    exact .nil
  | a :: as, b :: bs, ts, h => by
    cases h with
    | cons h1 h2 =>
      refine .cons (.tup h1 (.cons (.int _) (.cons (.int _) .nil))) (pairs_dts h2)
section
variable {P : Program} {w : World} {K : PySem.W.Frag} {mg : Str → Option Value} {base : Heap} {C : Addr}
theorem scRank : FnScope ["book", "row"] ["book", "row"] (defScope sRank) := ⟨rfl, rfl, rfl, by decide +kernel, rfl, by decide +kernel, by decide +kernel⟩
theorem ok_rank {f : Addr} {fd : FuncData} (F : Fun K "rank" "rank" sRank f fd) (GZ : GlobZ mg) (B : OneF P w K mg base "sizes_of" 2 ["book", "row"] (spSizes K C)) : FnOk P w K mg base CX0 3 f fd ["book", "row"] (spRank K C) := by
  obtain ⟨f1, d1, m1, k1, g1, b1⟩ := B
  refine F.ok scRank (fun vs H Q E h => ?_) (fun cdv A outer s H vs Q E hr h => ?_)
  · obtain ⟨p, v, S, t, rfl, _⟩ := h
    rfl
  · obtain ⟨p, v, S, t, rfl, hB, hK, hv, hO, hN, q⟩ := h
    refine ⟨_, pss_one (ps_ret (pe_listzip (by rfl) GZ.list (by rfl) GZ.zip rfl (pa_cons (pe_call g1 hr rfl m1 k1 b1 .nil pass0 (pa_cons (pv 0) (pa_cons (pv 1) pa_nil))) (pa_cons (pv 1) pa_nil)))), ?_⟩
    obtain ⟨a, rfl, hS⟩ := dt_tupS hv
    have hlen : ((ofN t.row).map V.int).length = t.size := by rw [List.length_map, ofN_len]; rfl
    have hz : (nums t.sizes).length = t.size := by rw [nums_len, Tr.sizes_len]
    refine ⟨_, rfl, _, rfl, p, .ref a, S, t, rfl, hB, hK, hv, hO, hN, fun l H1 hl e1 hl1 => ⟨_, rfl, l, a, nums t.sizes, (ofN t.row).map V.int, rfl, sq_of hl1, SqT.of (e1 _ _ hS), by rw [hz, hlen], by rw [hlen]; exact Tr.size_pos t, by rw [hlen]; exact hN, fun l2 ts H2 e2 hl2 hts hp => ?_⟩⟩
    refine q _ H2 (e1.trans e2) (.lst hts (fun h => h) (pairs_dts hp))
end
end TH
set_option maxRecDepth 100000
set_option maxHeartbeats 4000000
namespace TH
open PySem L2 Evl
abbrev sLKey : Stmt := top 32
/-- the sizes that wait, the last one first -/
def waitL (ts : List Tr) : List Nat := (ts.map Tr.size).reverse
theorem waitL_cons (t : Tr) (ts : List Tr) : waitL (t :: ts) = waitL ts ++ [t.size] := by
  unfold waitL
  rw [List.map_cons, List.reverse_cons]
theorem waitL_app (ts us : List Tr) : waitL (ts ++ us) = waitL us ++ waitL ts := by
  unfold waitL
  rw [List.map_append, List.reverse_append]
theorem waitL_len (ts : List Tr) : (waitL ts).length = ts.length := by
  unfold waitL
  rw [List.length_reverse, List.length_map]
theorem wood_len : ∀ ts : List Tr, ts.length ≤ Tr.sizeF ts
  | [] => Nat.le_refl _
  | t :: ts => by
    rw [Tr.sizeF_cons, List.length_cons]
    have := Tr.size_pos t
    have := wood_len ts
    omega
def spLKey (K : PySem.W.Frag) : Sp := fun vs H Q _ => ∃ (M : Addr → Prop) (v z : V) (S : List Sg) (t : Tr), vs = [v, z] ∧ Dt K M H v (.list (S.map sgD)) ∧ KidsOk S ∧ Dt K MF H z (rowD t) ∧ OkT S t ∧ t.size ≤ 1000 ∧
  ∀ x H', Ex H H' → Dt K MF H' x (tupI (keyL t)) → Q x H'
section
variable {P : Program} {w : World} {K : PySem.W.Frag} {mg : Str → Option Value} {base : Heap} {C : Addr}
abbrev nLKey : List Str := ["_law_signs_here", "_law_row_here", "_law_waiting", "_law_sizes", "_law_sign", "_law_size", "_law_turn", "_law_found"]
theorem scLKey : FnScope nLKey ["_law_signs_here", "_law_row_here"] (defScope sLKey) := ⟨rfl, rfl, rfl, by decide +kernel, rfl, by decide +kernel, by decide +kernel⟩
theorem ok_lkey {f : Addr} {fd : FuncData} (F : Fun K "_law_key" "_law_key" sLKey f fd) (G : Glob mg) (GR : GlobR mg) (GZ : GlobZ mg) : FnOk P w K mg base CX0 1 f fd ["_law_signs_here", "_law_row_here"] (spLKey K) := by
  refine F.ok scLKey (fun vs H Q E h => ?_) (fun cdv A outer s H vs Q E hr h => ?_)
  · obtain ⟨M, v, z, S, t, rfl, _⟩ := h
    rfl
  · obtain ⟨M, v, z, S, t, rfl, hv, hK, hz, hO, hN, q⟩ := h
    refine ⟨_, pss_cons (ps_par (by rfl) scLKey.nd (i := 2) (j := 3) rfl rfl (by decide) rfl rfl (pa_cons (pe_lst pa_nil) (pa_cons (pe_lst pa_nil) pa_nil)) (by rfl))
      (pss_cons (ps_for PassesOwn.never rfl (RT.pi_revA (by rfl) GR.reversed (pv 1)) (pg_name (i := 4) scLKey.nd rfl (.inl rfl))
        (pss_cons (ps_set (i := 5) scLKey.nd rfl (.inl rfl) pe_int)
        (pss_cons (ps_for PassesOwn.never rfl (pi_range1 rfl G.range (pa_cons (pe_ix ix_tup (pe_ix ix_list (pv 0) (pv 4) (fun _ _ => rfl)) pe_int (fun _ _ => rfl)) pa_nil)) (pg_name (i := 6) scLKey.nd rfl (.inl rfl))
          (pss_one (ps_set (i := 5) scLKey.nd rfl (.inl rfl) (pe_op op_add (pv 5) (pe_bm0 PySem.F.plainAttrs_list PySem.F.slot_list_pop PySem.F.type_list_pop mt_pop (pv 2))))))
        (pss_cons (ps_expr (pe_bm PySem.F.plainAttrs_list PySem.F.slot_list_append PySem.F.type_list_append mt_append (pv 2) (pa_cons (pv 5) pa_nil)))
        (pss_one (ps_expr (pe_bm PySem.F.plainAttrs_list PySem.F.slot_list_append PySem.F.type_list_append mt_append (pv 3) (pa_cons (pv 5) pa_nil))))))))
      (pss_cons (ps_set (i := 7) scLKey.nd rfl (.inl rfl) (pe_tup pa_nil))
      (pss_cons (ps_for PassesOwn.never rfl (pi_zipR (by rfl) GZ.zip (by rfl) GR.reversed (pv 3) (pv 1)) (pg_tup rfl (pgs_cons (pg_name (i := 5) scLKey.nd rfl (.inl rfl)) (pgs_cons (pg_name (i := 4) scLKey.nd rfl (.inl rfl)) pgs_nil)))
        (pss_one (ps_set (i := 7) scLKey.nd rfl (.inl rfl) (pe_op op_catA (pv 7) (pe_tup (pa_cons (pv 5) (pa_cons (pv 4) pa_nil)))))))
      (pss_one (ps_ret (pv 7)))))), ?_⟩
    obtain ⟨a, rfl, hS⟩ := dt_tupS hz
    have hlen : ((ofN t.row).map V.int).length = t.size := by rw [List.length_map, ofN_len]; rfl
    refine ⟨by decide, fun lw hw => ⟨by decide, fun lz hz0 => ⟨_, _, rfl, ?_⟩⟩⟩
    have e1 : Ex H (upd (upd H lw (.lst [])) lz (.lst [])) := (Ex.new hw).trans (Ex.new hz0)
    have hzH : H lz = none := fresh_back (Ex.new hw) hz0
    have hne : lw ≠ lz := ne_of_none (upd_same (H := H) (a := lw)) hz0
    have hw1 : (upd (upd H lw (.lst [])) lz (.lst [])) lw = some (.lst []) := by rw [upd_ne hne]; exact upd_same
    have hz1 : (upd (upd H lw (.lst [])) lz (.lst [])) lz = some (.lst []) := upd_same
    generalize upd (upd H lw (.lst [])) lz (.lst []) = H1 at e1 hw1 hz1
    refine ⟨_, rfl, a, _, rfl, .inr ⟨SqT.of (e1 _ _ hS), RT.for_ItvT (fun i σ' H' => Ex H H' ∧ ∃ u4 u5 u6, σ' = [some v, some (.ref a), some (.ref lw), some (.ref lz), u4, u5, u6, none] ∧ H' lw = some (.lst (nums (waitL (Tr.suf (t.size - i) [t])))) ∧ H' lz = some (.lst (nums (Tr.sizesF (Tr.suf (t.size - i) [t])).reverse)) ∧ i ≤ t.size)
      ⟨e1, none, none, none, rfl, ?_, ?_, Nat.zero_le _⟩ (fun i σ' H' h => SqT.of (h.1 _ _ hS)) ?_ ?_⟩⟩
    · rw [hw1, Nat.sub_zero, Tr.suf_nil.mpr (by rw [Tr.size_one]; exact Nat.le_refl _)]
      rfl
    · rw [hz1, Nat.sub_zero, Tr.suf_nil.mpr (by rw [Tr.size_one]; exact Nat.le_refl _)]
      rfl
    · rintro i x σ' H2 hi hx ⟨e2, u4, u5, u6, rfl, hw2, hz2, _⟩
      rw [hlen] at hi hx
      have hpN : t.size - 1 - i < Tr.sizeF [t] := by rw [Tr.size_one]; omega
      obtain ⟨u, us, hu, hroot⟩ := Tr.suf_cons hpN
      generalize hp : t.size - 1 - i = p' at hpN hu hroot hx
      have e0 : t.size - i = p' + 1 := by omega
      rw [Tr.row_one] at hroot
      have hx' : ((ofN t.row).map V.int)[p']? = some (.int (u.root : Int)) := by rw [List.getElem?_map, ofN_at hroot]; rfl
      rw [hx'] at hx
      cases hx
      have hOu : OkT S u := okT_suf hO hu
      have hsuc : Tr.suf (p' + 1) [t] = u.kids ++ us := by rw [Tr.suf_succ, hu]; rfl
      rw [e0, hsuc] at hw2 hz2
      obtain ⟨r, hr1, hr2⟩ := kids_num hK hOu
      have hk2 := Tr.kids_le u
      have hul : us.length + 1 ≤ t.size := by
        have h1 := wood_len (Tr.suf p' [t])
        have h2 := Tr.rowF_suf p' [t]
        have h3 : Tr.sizeF (Tr.suf p' [t]) ≤ t.size := by
          unfold Tr.sizeF
          rw [h2, List.length_drop, Tr.row_one]
          exact Nat.sub_le _ _
        rw [hu, List.length_cons] at h1
        rw [hu] at h3
        omega
      refine q_asgP (K := K) (M := MF) (evd_int (i := 1)) fun v5 d5 H2b e2b dv5 pd5 => ?_
      subst pd5
      cases dv5
      have hw2 := e2b _ _ hw2
      have hz2 := e2b _ _ hz2
      have e2 := e2.trans e2b
      refine q_forR1 (ea_cons (ev_ofI (K := K) (M := M) (evd_ar (i := 0) (k := 0) (j := u.root) rfl (hv.ex e2) (evd_var (i := 4) rfl (.int _)) rfl hr1)) ea_nil) (by omega)
        (fun j σ' H' => Ex H H' ∧ ∃ u6, σ' = [some v, some (.ref a), some (.ref lw), some (.ref lz), some (.int (u.root : Int)), some (.int ((1 + Tr.sizeF (u.kids.take j) : Nat) : Int)), u6, none] ∧ H' lw = some (.lst (nums (waitL (u.kids.drop j ++ us)))) ∧ H' lz = some (.lst (nums (Tr.sizesF (u.kids ++ us)).reverse)))
        (fun H3 e3 => ⟨e2.trans e3, u6, rfl, e3 _ _ hw2, e3 _ _ hz2⟩) ?_ ?_
      · rintro j σ'' H3 hj ⟨e3, u7, rfl, hw3, hz3⟩
        rw [hr2] at hj
        have hjn : j < u.kids.length := by omega
        have hk : u.kids[j]? = some (u.kids[j]'hjn) := List.getElem?_eq_getElem _
        generalize u.kids[j]'hjn = k at hk
        have hd : u.kids.drop j = k :: u.kids.drop (j + 1) := by
          obtain ⟨h1, h2⟩ := List.getElem?_eq_some_iff.mp hk
          rw [List.drop_eq_getElem_cons h1, h2]
        rw [hd, List.cons_append, waitL_cons, nums_app] at hw3
        have hlast : (nums (waitL (u.kids.drop (j + 1) ++ us)) ++ nums [k.size])[(nums (waitL (u.kids.drop (j + 1) ++ us)) ++ nums [k.size]).length - 1]? = some (.int (k.size : Int)) := by
          rw [List.length_append, show (nums [k.size]).length = 1 from rfl, Nat.add_sub_cancel, List.getElem?_append_right (Nat.le_refl _), Nat.sub_self]
          rfl
        refine ⟨_, rfl, _, rfl, .inl ⟨rfl, _, SqL.of hw3⟩, lw, _, _, rfl, rfl, hw3, hlast, _, _, rfl, rfl, ?_⟩
        refine ⟨Ex.mut e3 hw, some (.int (j : Int)), ?_, ?_, ?_⟩
        · rw [Tr.sizeF_take hk]
          have hc : ((1 + Tr.sizeF (u.kids.take j) : Nat) : Int) + (k.size : Int) = ((1 + (Tr.sizeF (u.kids.take j) + k.size) : Nat) : Int) := by omega
          exact congrArg (fun x => [some v, some (.ref a), some (.ref lw), some (.ref lz), some (.int (u.root : Int)), some (V.int x), some (.int (j : Int)), none]) hc
        · rw [upd_same]
          congr 2
          exact List.dropLast_concat
        · rw [upd_ne (Ne.symm hne)]
          exact hz3
      · rintro σ'' H3 ⟨e3, u7, rfl, hw3, hz3⟩
        rw [hr2, Int.toNat_natCast] at hw3
        rw [hr2, Int.toNat_natCast, List.take_length, ← Tr.size_eq]
        rw [List.drop_length, List.nil_append] at hw3
        refine q_appP (K := K) (M := MF) (P := (· = .int (u.size : Int))) hw3 rfl (evd_var rfl (.int _)) (by rw [nums_len, waitL_len]; exact Nat.lt_of_le_of_lt (show us.length ≤ 1000 by omega) (by decide)) fun v5 d5 H4 e4 dv5 pd5 => ?_
        subst pd5
        cases dv5
        have e34 : Ex H (upd H4 lw (.lst (nums (waitL us) ++ [.int (u.size : Int)]))) := Ex.mut (e3.trans e4) hw
        have hz4 : (upd H4 lw (.lst (nums (waitL us) ++ [.int (u.size : Int)]))) lz = some (.lst (nums (Tr.sizesF (u.kids ++ us)).reverse)) := by rw [upd_ne (Ne.symm hne)]; exact e4 _ _ hz3
        refine s_appP (K := K) (M := MF) (P := (· = .int (u.size : Int))) hz4 rfl (evd_var rfl (.int _)) ?_ fun v6 d6 H5 e5 dv6 pd6 => ?_
        · rw [nums_len, List.length_reverse, Tr.sizesF_len]
          refine Nat.lt_of_le_of_lt (Nat.le_trans ?_ hN) (by decide)
          unfold Tr.sizeF
          rw [← hsuc, Tr.rowF_suf, List.length_drop, Tr.row_one]
          exact Nat.sub_le _ _
        subst pd6
        cases dv6
        have e5' : t.size - (i + 1) = p' := by omega
        refine ⟨Ex.mut (e34.trans e5) hzH, _, _, _, rfl, ?_, ?_, hi⟩
        · rw [upd_ne hne, e5 _ _ upd_same, e5', hu, waitL_cons, nums_app]
          rfl
        · rw [upd_same, e5', hu, Tr.sizesF_cons, Tr.sizes_eq, List.cons_append, ← Tr.sizesF_app, List.reverse_cons, nums_app]
          rfl
    · rintro σ' H2 ⟨e2, u4, u5, u6, rfl, hw2, hz2, _⟩
      rw [hlen, Nat.sub_self] at hz2
      have hz2 : H2 lz = some (.lst (nums t.sizes.reverse)) := by
        rw [hz2]
        show some (HO.lst (nums (Tr.sizesF [t]).reverse)) = _
        rw [Tr.sizes_one]
      refine q_asgP (K := K) (M := MF) (evd_tup eva_nil (by decide)) fun v7 d7 H3 e3 dv7 pd7 => ?_
      subst pd7
      have hz3 := e3 _ _ hz2
      have e23 := e2.trans e3
      have hS3 := e23 _ _ hS
      have hzl : (nums t.sizes.reverse).length = ((ofN t.row).map V.int).length := by rw [nums_len, List.length_reverse, Tr.sizes_len, hlen]
      refine ⟨_, rfl, lz, _, rfl, sq_of hz3, _, rfl, a, _, rfl, sq_of hz3, SqT.of hS3, hzl, for_it (walk_zipR hzl) (fun i σ' H' => Ex H3 H' ∧ ∃ u4 u5 y, σ' = [some v, some (.ref a), some (.ref lw), some (.ref lz), u4, u5, u6, some y] ∧ Dt K MF H' y (tupI (flatP ((pairsT t).take i))))
        ⟨Ex.refl _, _, _, _, rfl, dv7⟩ (fun i σ' H' _ h => ⟨sq_of (h.1 _ _ hz3), SqT.of (h.1 _ _ hS3)⟩) ?_ ?_⟩
      · rintro i x σ' H4 H5 hi ⟨e4, u4', u5', y, rfl, dy⟩ ⟨T, x1, x2, rfl, hT, rfl, hx1, hx2⟩
        rw [hlen] at hi hx1
        have hsz : i < t.sizes.length := by rw [Tr.sizes_len]; exact hi
        have hs1 : t.sizes[i]? = some (t.sizes[i]'hsz) := List.getElem?_eq_getElem _
        have hr1 : t.row[i]? = some (t.row[i]'hi) := List.getElem?_eq_getElem _
        generalize t.sizes[i]'hsz = si at hs1
        generalize t.row[i]'hi = ri at hr1
        have e1x : (nums t.sizes.reverse)[t.size - 1 - i]? = some (.int (si : Int)) := by
          refine nums_at ?_
          rw [List.getElem?_reverse (by rw [Tr.sizes_len]; omega), Tr.sizes_len, show t.size - 1 - (t.size - 1 - i) = i by omega]
          exact hs1
        rw [e1x] at hx1
        cases hx1
        have e2x : ((ofN t.row).map V.int)[i]? = some (.int (ri : Int)) := by rw [List.getElem?_map, ofN_at hr1]; rfl
        rw [e2x] at hx2
        cases hx2
        have e45 : Ex H4 (upd H4 T (.tup [.int (si : Int), .int (ri : Int)])) := Ex.new hT
        refine ⟨T, _, rfl, SqT.of upd_same, rfl, _, _, rfl, _, _, rfl, rfl, ?_⟩
        have hpair : (pairsT t)[i]? = some ((si : Int), (ri : Int)) := by
          unfold pairsT
          rw [List.getElem?_map, List.getElem?_zip_eq_some.mpr (show t.sizes[i]? = some (si, ri).1 ∧ t.row[i]? = some (si, ri).2 from ⟨hs1, hr1⟩)]
          rfl
        refine s_asgP (K := K) (M := MF) (P := (· = tupI (flatP ((pairsT t).take (i + 1))))) (EvP.mono (evd_catA (ds := (flatP ((pairsT t).take i)).map PyData.int) (es := [.int (si : Int), .int (ri : Int)]) (evd_var rfl (dy.ex e45)) (evd_tup (eva_cons (evd_var (i := 5) rfl (.int _)) (eva_cons (evd_var (i := 4) rfl (.int _)) eva_nil)) (by show 2 ≤ sizeLine; decide)) ?_) fun d h => ?_) fun v8 d8 H6 e6 dv8 pd8 => ?_
        · rw [List.length_map, flatP_len, List.length_take, pairsT_len]
          show _ + 2 ≤ _
          omega
        · rw [h, Tr.take_snoc hpair, flatP_app]
          unfold tupI
          rw [List.map_append]
          rfl
        · subst pd8
          exact ⟨(e4.trans e45).trans e6, _, _, _, rfl, dv8⟩
      · rintro σ' H4 ⟨e4, u4', u5', y, rfl, dy⟩
        rw [hlen, ← pairsT_len t, List.take_length] at dy
        exact ⟨_, rfl, q _ H4 (e23.trans e4) dy⟩
end
end TH
set_option maxRecDepth 100000
set_option maxHeartbeats 4000000
/-! ### sorted: of lists of tuples, the first of them empty -/
namespace PySem.SeqAt
open AutoSeq1 (wpAny_loadPart')
open MeetsSeq MeetsSeq2 MeetsSeq3 SeqRoads2
open PySem PyProof.Rows
theorem th_call_tuple_lt {A : Around} {s : Shared} {prog : Program} {w : World} {E : Value → Shared → Prop} {Q : Value → Shared → Prop} {l b : Addr} {items items2 : Array Value} {e r : Nat → Bool} (hl : s.heap.IsTuple l items) (hb : s.heap.IsTuple b items2)
    (he : ∀ j (h1 : j < items.size) (h2 : j < items2.size), EqAt A.in1 s items[j] items2[j] (e j)) (hr : ∀ j (h1 : j < items.size) (h2 : j < items2.size), e j = false → RcLt A.in1 s items[j] items2[j] (r j))
    (h : Q (.bool (firstLt e r (decide (items.size < items2.size)) (List.range (min items.size items2.size)))) s) : wpAny (model prog w) A (call (.builtin "tuple.__lt__") [.ref l, .ref b]) Q E s := by
  obtain ⟨⟨cls, dd, data, sl⟩, ho, hc, n, hd⟩ := id hl
  obtain ⟨⟨cls2, dd2, data2, sl2⟩, ho2, hc2, n2, hd2⟩ := id hb
  simp only at hc hd hc2 hd2
  subst hc hd hc2 hd2
  exact call_meets F.slot_tuple_lt ⟨_, ho, rfl⟩ F.entry_tuple_lt (F.args_tuple_lt_2 _ _) (tuple_ltAt l b items items2 n n2 dd dd2 sl sl2 e r) ⟨ho, ho2, he, hr, h⟩
end PySem.SeqAt
namespace PySem.W
open PySem PySem.SeqAt PyProof.Rows
section
variable {prog : Program} {w : World} {A : Around} {s : Shared} {E : Value → Shared → Prop}
theorem th_oneLt_tup {xs ys : List PyData} {a b : Value} {as bs : List Addr} {Q : Bool → Shared → Prop} (ra : Reads s.heap a (.tuple xs) as) (rb : Reads s.heap b (.tuple ys) bs) (h : alike (.tuple xs) (.tuple ys) = true)
    (hu : A.units + min (PyData.tuple xs).depth (PyData.tuple ys).depth < cLine) (hq : Q (dataLt (.tuple xs) (.tuple ys)) s) : wpAny (model prog w) A (oneLt' true a b) Q E s := by
  have hal : alikeAll xs ys = true := by simpa [alike] using h
  cases ra with
  | @tuple l o vs n _ as₁ h1 h2 h3 h4 =>
    cases rb with
    | @tuple l' o' vs' n' _ bs₁ k1 k2 k3 k4 =>
      have n1 : vs.size = xs.length := by simpa using ReadsAll.length _ _ _ h4
      have n2 : vs'.size = ys.length := by simpa using ReadsAll.length _ _ _ k4
      rw [dataLt_tuple, ← firstLt_toks xs ys hal, ← n1, ← n2] at hq
      rw [oneLt'_eq]
      simp only [if_true]
      refine wpAny_bind (wpAny_cRoomFor (room_here hu) ?_)
      refine wpAny_bind (wpAny_callSpecialIfBound?_slot (T := "tuple") ⟨_, h1, h2⟩ F.slot_tuple_lt (th_call_tuple_lt (e := pairEq xs ys) (r := fun j => dataLt (xs.getD j .none) (ys.getD j .none)) ⟨_, h1, h2, _, h3⟩ ⟨_, k1, k2, _, k3⟩ (fun j j1 j2 => ?_) (fun j j1 j2 hj => ?_) ?_))
      · have := eqAt_alikeAll xs ys A.in1 s vs.toList vs'.toList _ _ h4 k4 hal (room_in hu) j (by simpa using j1) (by simpa using j2)
        simpa using this
      · have := rcLt_alikeAll xs ys A.in1 s vs.toList vs'.toList _ _ h4 k4 hal (room_in hu) j (by simpa using j1) (by simpa using j2) hj
        simpa using this
      · exact wpAny_truthy_bool hq
/-- tuples, the first of them empty -/
def Sortable0 (ds : List PyData) : Prop := (∃ r, ds = .tuple [] :: r) ∧ ∀ d, d ∈ ds → ∃ xs, d = .tuple xs
end
section
variable {M : Model} {A : Around} {s : Shared} {E : Value → Shared → Prop}
def TupFirst (h : Heap) (v : Value) (f : Option Value) : Prop := ∃ a o xs n, v = .ref a ∧ h.get? a = some o ∧ o.cls = .type "tuple" ∧ o.data = .seq xs n ∧ xs[0]? = f
theorem th_firsts : ∀ (vs : List Value) (fs : List (Option Value)) {Q : List (Option Value) → Shared → Prop}, EachIs (TupFirst s.heap) vs fs → Q fs s → wpAny M A (vs.mapM firstOfTuple') Q E s
  | [], [], _, _, h => by rw [List.mapM_nil]; exact wpAny_pure h
  | [], _ :: _, _, t, _ => nomatch t
  | _ :: _, [], _, t, _ => nomatch t
  | v :: vs, f :: fs, Q, t, h => by
    cases t with
    | cons t0 t =>
    obtain ⟨a, o, xs, n, rfl, ho, hc, hd, hf⟩ := t0
    rw [List.mapM_cons]
    refine wpAny_bind ?_
    rw [kas_first_eq]
    refine wpAny_bind (Looks.here (show Looks M s.heap (typeOf (.ref a)) o.cls from (Looks.ld ho).andThen .now) ?_)
    rw [hc, if_neg (by first | decide | simp)]
    refine wpAny_bind (listItems_at ho hd (wpAny_pure ?_))
    rw [hf]
    exact wpAny_bind (th_firsts vs fs (Q := fun bs s' => wpAny M A (pure (f :: bs)) Q E s') t (wpAny_pure h))
theorem th_kind0 {v : Value} {vs : List Value} {fs : List (Option Value)} {Q : SortKind → Shared → Prop} (t : EachIs (TupFirst s.heap) (v :: vs) (none :: fs)) (h : Q oneType' s) : wpAny M A (keyKind' (v :: vs).toArray) Q E s := by
  rw [keyKind'_eq, List.mapM_toArray, map_eq_pure_bind]
  refine wpAny_bind (wpAny_bind (th_firsts _ _ t (wpAny_pure ?_)))
  rw [if_neg (by simp), if_neg (by simp)]
  rw [oneTypeOnly'_eq, List.mapM_toArray, map_eq_pure_bind]
  refine wpAny_bind (wpAny_bind (wpAny_bind (kas_mapM (r := Value.type "tuple") _ (fun u hu Q' hq => ?_) (wpAny_pure ?_))))
  · obtain ⟨f, _, a, o, xs, n, rfl, ho, hc, _⟩ := t.left u hu
    exact Looks.here (show Looks M s.heap (typeOf (.ref a)) (Value.type "tuple") from hc ▸ (Looks.ld ho).andThen .now) hq
  · have hall : ((List.map (fun _ => Value.type "tuple") (v :: vs)).toArray.all fun x => x == Value.type "tuple") = true := by
      simp only [List.all_toArray, List.all_map, List.all_eq_true]
      intro _ _
      rfl
    have h0 : (List.map (fun _ => Value.type "tuple") (v :: vs)).toArray[0]? = some (Value.type "tuple") := by simp
    rw [h0]
    simp only [hall, if_true]
    exact wpAny_pure (wpAny_pure h)
end
theorem th_tupFirst {h : Heap} : ∀ {vs : List Value} {ds : List PyData}, EachIs (fun v d => ∃ as, Reads h v d as) vs ds → (∀ d, d ∈ ds → ∃ xs, d = .tuple xs) → ∃ fs, EachIs (TupFirst h) vs fs ∧ ∀ r, ds = .tuple [] :: r → ∃ fs', fs = none :: fs'
  | _, _, .nil, _ => ⟨[], .nil, fun r z => nomatch z⟩
  | _, _, .cons (b := d) ⟨as, r⟩ t, ht => by
    obtain ⟨fs, h1, _⟩ := th_tupFirst t fun d hd => ht d (List.mem_cons_of_mem _ hd)
    obtain ⟨xs, rfl⟩ := ht d (List.mem_cons_self ..)
    cases r with
    | @tuple a o vs n _ _ ho hc hd hr =>
      refine ⟨vs[0]? :: fs, .cons ⟨a, o, vs, n, rfl, ho, hc, hd, rfl⟩ h1, fun r z => ⟨fs, ?_⟩⟩
      cases z
      have q : vs.toList = [] := by
        cases q : vs.toList with
        | nil => rfl
        | cons f fr =>
          rw [q] at hr
          cases hr
      rw [← Array.getElem?_toList, q]
      rfl
section
variable {prog : Program} {w : World} {A : Around} {s : Shared} {E : Value → Shared → Prop}
/-- tuples, the first of them empty, can be sorted -/
theorem th_SortsAt0 {vs : List Value} {ds : List PyData} (e : EachIs (fun v d => ∃ as, Reads s.heap v d as) vs ds) (hal : AllAlike ds) (hk : Sortable0 ds) (hu : ∀ d, d ∈ ds → A.units + d.depth < cLine) : SortsAt prog w A s (dataKind s.heap ds) vs := by
  have room : ∀ {d d' : PyData}, d ∈ ds → A.units + min d.depth d'.depth < cLine := fun {d d'} hd => Nat.lt_of_le_of_lt (Nat.add_le_add_left (Nat.min_le_left _ _) _) (hu d hd)
  refine ⟨fun v hv => ?_, oneType', ?_, fun h2 E Q hq => ?_⟩
  · obtain ⟨d, hd, as, r⟩ := e.left v hv
    exact ⟨_, dataKind_some hal hd r⟩
  · intro E x y a b Q ha hb hq
    obtain ⟨d, as, hd, ra, rfl⟩ := dataKind_inv ha
    obtain ⟨d', as', hd', rb, rfl⟩ := dataKind_inv hb
    obtain ⟨xs, rfl⟩ := hk.2 d hd
    obtain ⟨ys, rfl⟩ := hk.2 d' hd'
    rw [keyLt'_oneType]
    exact th_oneLt_tup ra rb (hal _ hd _ hd') (room hd) hq
  · obtain ⟨⟨r, rfl⟩, ht⟩ := hk
    obtain ⟨fs, h1, h3⟩ := th_tupFirst e ht
    obtain ⟨fs', rfl⟩ := h3 r rfl
    cases e with
    | cons _ _ => exact th_kind0 h1 hq
theorem th_sorted_data {β : Type} {enc : β → PyData} {R : Value → β → Prop} {vs : List Value} {bs : List β} {l : Addr} {Q : Value → Shared → Prop} (hl : s.heap.IsList l vs.toArray) (e : EachIs R vs bs) (er : EachIs (fun v b => ∃ as, Reads s.heap v (enc b) as) vs bs) (hal : AllAlike (bs.map enc))
    (hk : Sortable (bs.map enc) ∨ Sortable0 (bs.map enc)) (hL : bs.length ≤ sizeLine)
    (hu : ∀ b, b ∈ bs → A.units + 2 + (enc b).depth < cLine) (h : ∀ out, out.length = bs.length → EachIs R out (bs.mergeSort (dataLe false enc)) → Q (.ref (s.heap.objs.size + 1)) { s with heap := sortedAll s.heap vs (List.toArray out) }) :
    wpAny (model prog w) A (call (.builtin "sorted") [.ref l]) Q E s := by
  have er' : EachIs (fun v b => ∃ as, Reads (sortingHeap (copyHeap s.heap vs) (s.heap.objs.size + 1) vs) v (enc b) as) vs bs := er.mono fun _ _ ⟨as, r⟩ => ⟨as, PyProof.Rows.Reads.keeps (fun _ _ => sorting_copy_old) r⟩
  have em := each_map (R := fun v d => ∃ as, Reads (sortingHeap (copyHeap s.heap vs) (s.heap.objs.size + 1) vs) v d as) enc er'
  refine sorted_vals hl (κ := dataKind (sortingHeap (copyHeap s.heap vs) (s.heap.objs.size + 1) vs) (bs.map enc)) ?_ (by rw [e.length]; exact hL)
    (h _ (by rw [sortVals_length false rfl]; exact e.length) (sortVals_data false e er' hal))
  rcases hk with hk | hk
  · exact SortsAt.data (s := { s with heap := sortingHeap (copyHeap s.heap vs) (s.heap.objs.size + 1) vs }) em hal hk (bound_map hu)
  · exact th_SortsAt0 (s := { s with heap := sortingHeap (copyHeap s.heap vs) (s.heap.objs.size + 1) vs }) em hal hk (bound_map hu)
theorem th_list_sort_data {β : Type} {enc : β → PyData} {R : Value → β → Prop} {vs : List Value} {bs : List β} {a : Addr} {n : Nat} {Q : Value → Shared → Prop} (ho : s.heap.get? a = some (seqObj "list" vs.toArray n)) (e : EachIs R vs bs) (er : EachIs (fun v b => ∃ as, Reads s.heap v (enc b) as ∧ a ∉ as) vs bs) (hal : AllAlike (bs.map enc)) (hk : Sortable (bs.map enc)) (hL : bs.length ≤ sizeLine)
    (hu : ∀ b, b ∈ bs → A.units + 1 + (enc b).depth < cLine) (h : ∀ out, out.length = bs.length → EachIs R out (bs.mergeSort (dataLe false enc)) → Q .none { s with heap := sortedHeap s.heap a vs (List.toArray out) }) :
    wpAny (model prog w) A (call (.builtin "list.sort") [.ref a]) Q E s := list_sort_data ho e er hal hk hL hu h
end
end PySem.W
set_option maxRecDepth 100000
set_option maxHeartbeats 4000000
/-! ### sorted over the tracked heap: of data, of a set of tuples of ints -/
namespace L2
open PySem PySem.Spec PyProof.Rows PySem.W
def leZ : V × PyData → V × PyData → Bool := dataLe false fun z : V × PyData => z.2
def rSortD (K : PySem.W.Frag) : List V → Hp → VK → Prop := fun vs H Q => ∃ (a : Addr) (zs : List (V × PyData)), vs = [V.ref a] ∧ SqL K H a (zs.map (·.1)) ∧ (∀ z ∈ zs, Dp K H z.1 z.2 ∧ z.2.depth ≤ 20) ∧ AllAlike (zs.map (·.2)) ∧
  (Sortable (zs.map (·.2)) ∨ Sortable0 (zs.map (·.2))) ∧ ∀ p, H p = none → Q (.ref p) (upd H p (.lst ((zs.mergeSort leZ).map (·.1))))
theorem each_of_vals : ∀ {zs : List (V × PyData)} {us : List Value}, Vals (zs.map (·.1)) us → EachIs (fun v (z : V × PyData) => RelV z.1 v) us zs
  | [], _, .nil => .nil
  | z :: zs, _, .cons r t => .cons r (each_of_vals t)
theorem vals_of_each : ∀ {zs : List (V × PyData)} {us : List Value}, EachIs (fun v (z : V × PyData) => RelV z.1 v) us zs → Vals (zs.map (·.1)) us
  | [], _, .nil => .nil
  | z :: zs, _, .cons r t => .cons r (vals_of_each t)
theorem cr_sortedD {X : Cx} (hu : X.A.units + 64 < cLine) : CallR X (.builtin "sorted") (rSortD X.K) := by
  intro pins s σ H vs us Q I r h
  obtain ⟨a, zs, rfl, hl, hz, hal, hk, q⟩ := h
  obtain ⟨its, rv, pl, hsz⟩ := I.list hl
  rw [Vals.ref1 r]
  have e := each_of_vals rv
  have er : EachIs (fun v (z : V × PyData) => ∃ as, Reads s.heap v z.2 as) its zs := (each_mem e).mono fun v z ⟨hr, hm⟩ => Dp.reads I _ _ _ (hz z hm).1 hr
  refine th_sorted_data (enc := fun z : V × PyData => z.2) pl.isList e er hal hk (by rw [List.length_map] at hsz; exact hsz) (fun z hm => ?_) fun out ho eo => ?_
  · have := (hz z hm).2
    omega
  · obtain ⟨ep, he'⟩ := PyProof.Rows.sortedAll_at s.heap its out.toArray
    have hlen : ((zs.mergeSort leZ).map (·.1)).length ≤ sizeLine := by
      rw [List.length_map, List.length_mergeSort]
      rw [List.length_map] at hsz
      exact hsz
    exact ⟨.ref _, upd H (s.heap.objs.size + 1) (.lst ((zs.mergeSort leZ).map (·.1))), I.laid (t' := s.toks) (fun _ _ => PyProof.Rows.sortedAll_old) (Nat.le_succ _) ⟨hlen, out, ep, vals_of_each eo, he'⟩, rfl, q _ (I.hok.fresh (Nat.le_succ _))⟩
/-- a tuple of ints, read -/
theorem reads_ints {h : Heap} : ∀ {vs : List Value} {ns : List Int}, IntsAre vs ns → ReadsAll h vs (ns.map PyData.int) []
  | _, _, .nil => .nil
  | _, _, .cons n t r => .cons (.int n t) (reads_ints r)
theorem reads_tupInts {h : Heap} {v : Value} {ns : List Int} (x : TS.TupInts h v ns) : Reads h v (.tuple (ns.map PyData.int)) [] := by
  obtain ⟨b, its, rfl, ⟨o, ho, hc, n, hd⟩, hi⟩ := x
  exact .tuple ho hc hd (reads_ints hi)
section
variable {P : Program} {w : World} {A : Around} {E : Value → Shared → Prop} {s : Shared}
theorem th_sorted_set {a : Addr} {L : List (Addr × List Int)} {es : Array (Int × Value)} {ep : Nat} {t : SetTable} {Q : Value → Shared → Prop} (R : SetTR P w s.heap a L es ep t) (hh : A.handled = none)
    (hB : ∀ p ∈ L, p.2 ≠ []) (hu : A.units + 64 < cLine)
    (hQ : ∀ s' p (out : Array Value) (c : Nat) (L' : List (Addr × List Int)), (∀ b o, s.heap.get? b = some o → s'.heap.get? b = some o) → s'.gens = s.gens → s'.os = s.os → s.heap.objs.size ≤ p →
      s'.heap.get? p = some (seqObj "list" out c) → out.toList = L'.map (fun q => Value.ref q.1) → L'.Perm L → Q (.ref p) s') :
    wpAny (model P w) A (call (.builtin "sorted") [.ref a]) Q E s := by
  obtain ⟨o, ho, hex, hd⟩ := R.ob
  have hsz := R.size
  have hfew := R.few
  refine Calls.call_function_entry kind_sorted plain_sorted entry_sorted (args_sorted1 _) ?_
  unfold Builtin.«sorted»
  refine wpAny_bind (m := checkCount "sorted" 1 1 _) (wpAny_pure ?_)
  refine wpAny_bind (collect_set (A := A.in1) hh ⟨o, ho, hex.1, hd⟩ R.fits (by unfold scanBound; omega) R.tab.ris R.led fun s1 vs k1 hz g1 o1 pm => ?_)
  have hes : es.toList.map (·.2) = L.map fun q => Value.ref q.1 := by
    rw [R.rows]
    unfold rowsOf
    rw [List.map_map] <;> rfl
  rw [hes] at pm
  have ord : ∀ vs : List Value, (∀ v ∈ vs, ∃ q ∈ L, v = Value.ref q.1) → ∃ L1 : List (Addr × List Int), vs = L1.map (fun q => Value.ref q.1) ∧ ∀ q ∈ L1, q ∈ L := by
    intro vs
    induction vs with
    | nil => intro _; exact ⟨[], rfl, fun q hq => (by cases hq)⟩
    | cons v vs ih =>
      intro hv
      obtain ⟨q, hq, e⟩ := hv v List.mem_cons_self
      obtain ⟨L1, e1, hs⟩ := ih fun u hu => hv u (List.mem_cons_of_mem _ hu)
      refine ⟨q :: L1, by rw [List.map_cons, e, e1], fun r hr => ?_⟩
      rcases List.mem_cons.mp hr with z | z
      · rw [z]; exact hq
      · exact hs r z
  have one : ∀ q ∈ L, ∀ r ∈ L, q.1 = r.1 → q = r := fun q hq r hr e => by
    have a1 := R.tup q hq
    have a2 := R.tup r hr
    rw [e] at a1
    have e2 : q.2 = r.2 := a1.inj a2
    exact Prod.ext e e2
  have perm_of : ∀ L1 : List (Addr × List Int), (∀ q ∈ L1, q ∈ L) → (L1.map (fun q => Value.ref q.1)).Perm (L.map fun q => Value.ref q.1) → L1.Perm L := by
    intro L1 hs pm1
    have nL : L.Nodup := nodup_of_map R.nd
    have nref : (L.map fun q => Value.ref q.1).Nodup := by
      refine List.pairwise_map.mpr (List.Pairwise.imp_of_mem (fun {q r} hq hr hne e => ?_) nL)
      injection e with e
      exact hne (one q hq r hr e)
    have n1 : L1.Nodup := nodup_of_map (pm1.nodup_iff.mpr nref)
    refine (List.perm_ext_iff_of_nodup n1 nL).mpr fun q => ⟨hs q, fun hq => ?_⟩
    have hm : Value.ref q.1 ∈ L1.map (fun q => Value.ref q.1) := pm1.mem_iff.mpr (List.mem_map.mpr ⟨q, hq, rfl⟩)
    obtain ⟨r, hr, e⟩ := List.mem_map.mp hm
    injection e with e
    rw [← one r (hs r hr) q hq e]
    exact hr
  obtain ⟨L1, e1, hs1⟩ := ord vs fun v hv => by
    obtain ⟨q, hq, e⟩ := List.mem_map.mp (pm.mem_iff.mp hv)
    exact ⟨q, hq, e.symm⟩
  have pm1 := pm
  rw [e1] at pm1
  have pL1 := perm_of L1 hs1 pm1
  have hvl : vs.length < 64 := by rw [pm.length_eq, List.length_map]; exact hfew
  have hL1 : L1.length < 64 := by rw [pL1.length_eq]; exact hfew
  refine wpAny_bind (wpAny_newList ?_ (by rw [sizeLine_eq]; omega))
  have hoL : (s1.heap.push (seqObj "list" vs.toArray 0)).get? s1.heap.objs.size = some (seqObj "list" vs.toArray 0) := Heap.get?_push_size _ rfl
  have tk : ∀ q ∈ L, TS.TupInts (s1.heap.push (seqObj "list" vs.toArray 0)) (.ref q.1) q.2 := fun q hq => tupInts_of (P := P) (w := w) (isT_keep (R.tup q hq) fun b u e => Heap.get?_push_of_some _ (k1 b u e))
  have eR : EachIs (fun v (q : Addr × List Int) => v = Value.ref q.1) vs L1 := by
    rw [e1]
    clear e1 pm1 pL1 hs1 hL1
    induction L1 with
    | nil => exact .nil
    | cons q L1 ih => exact .cons rfl ih
  have er : EachIs (fun v (q : Addr × List Int) => ∃ as, Reads (s1.heap.push (seqObj "list" vs.toArray 0)) v (.tuple (q.2.map PyData.int)) as ∧ s1.heap.objs.size ∉ as) vs L1 := (each_mem eR).mono fun v q ⟨e, hm⟩ => by
    rw [e]
    exact ⟨[], reads_tupInts (tk q (hs1 q hm)), fun h => nomatch h⟩
  refine wpAny_bind (wpAny_holding (th_list_sort_data (s := { s1 with heap := s1.heap.push (seqObj "list" vs.toArray 0) }) (enc := fun q : Addr × List Int => .tuple (q.2.map PyData.int)) hoL eR er
    (AllAlike.of fun x y => by rw [alike]; exact alike_ints _ _) (.inl fun d hd => ?_) (by rw [sizeLine_eq]; omega) (fun q hq => ?_) fun out a1 a2 => ?_))
  · obtain ⟨q, hq, rfl⟩ := List.mem_map.mp hd
    have := hB q (hs1 q hq)
    cases hq2 : q.2 with
    | nil => exact absurd hq2 this
    | cons x r => exact ⟨.int x, r.map PyData.int, by rw [List.map_cons]⟩
  · have hd : (PyData.tuple (q.2.map PyData.int)).depth = 1 := by
      rw [PyData.depth, depth_ints]
    rw [hd]
    show A.units + 1 + 1 + 1 < cLine
    omega
  obtain ⟨c, hc⟩ := sortedHeap_at (vs := vs) (out := out.toArray) hoL
  have e' : out = (L1.mergeSort (dataLe false fun q : Addr × List Int => .tuple (q.2.map PyData.int))).map fun q => Value.ref q.1 := by
    generalize L1.mergeSort (dataLe false fun q : Addr × List Int => .tuple (q.2.map PyData.int)) = M at a2
    clear a1 hc
    induction a2 with
    | nil => rfl
    | cons h _ ih => rw [h, ih, List.map_cons]
  refine wpAny_pure ⟨_, rfl, hQ _ s1.heap.objs.size out.toArray c (L1.mergeSort (dataLe false fun q : Addr × List Int => .tuple (q.2.map PyData.int))) (fun b u e => ?_) g1 o1 hz hc e' ((List.mergeSort_perm _ _).trans pL1)⟩
  have q := k1 b u e
  have hlt := Heap.lt_size q
  show (sortedHeap (s1.heap.push (seqObj "list" vs.toArray 0)) s1.heap.objs.size vs out.toArray).get? b = some u
  rw [sortedHeap_old (Nat.ne_of_lt hlt) (by rw [size_push']; exact Nat.lt_succ_of_lt hlt)]
  exact Heap.get?_push_of_some _ q
end
def rSortSetD (K : PySem.W.Frag) (P : Program) (w : World) : List V → Hp → VK → Prop := fun vs H Q => ∃ (a : Addr) (L : List (Addr × List Int)), vs = [V.ref a] ∧ H a = some (SetTO P w a L) ∧ (∀ p ∈ L, SqT K H p.1 (p.2.map V.int)) ∧ (∀ p ∈ L, p.2 ≠ []) ∧
  ∀ (L' : List (Addr × List Int)) (p : Addr), L'.Perm L → (L'.map (·.2)).Nodup → L'.length < 64 → H p = none → Q (.ref p) (upd H p (.lst (L'.map fun q => V.ref q.1)))
theorem cr_sortedSetD {X : Cx} (hc : X.calm = true) (hu : X.A.units + 64 < cLine) : CallR X (.builtin "sorted") (rSortSetD X.K X.prog X.w) := by
  intro pins s σ H vs us Q I r h
  obtain ⟨a, L, rfl, ha, hk, hB, q⟩ := h
  have R0 : SetT0 X.prog X.w s.heap a L := (I.hok a _ ha).1
  obtain ⟨es, ep, t, R⟩ := R0.full fun p hp => I.isT (hk p hp)
  rw [Vals.ref1 r]
  refine th_sorted_set R (I.ok.hd hc) hB hu fun s' p out c L' k g o hp hg hout pm => ?_
  have hfew : L'.length < 64 := by rw [pm.length_eq]; exact R.few
  have hlen : (L'.map fun q => V.ref q.1).length ≤ sizeLine := by rw [List.length_map, sizeLine_eq]; omega
  have hn : H p = none := I.hok.fresh hp
  have hv : Vals (L'.map fun q => V.ref q.1) out.toList := by rw [hout]; exact vals_of_refs L'
  have J : Inv X pins σ (upd H p (.lst (L'.map fun q => V.ref q.1))) { s with heap := s'.heap, gens := s'.gens, drawn := s'.drawn, toks := s'.toks } :=
    I.call (ch := []) (Un.laid k hp hn) (I.hok.laid k hp ⟨hlen, out.toList, c, hv, hg⟩) (by rw [g]; exact I.bare) (fun _ z => nomatch z)
  have e : s' = { s with heap := s'.heap, gens := s'.gens, drawn := s'.drawn, toks := s'.toks } := by
    cases s'
    cases s
    cases o
    rfl
  rw [e]
  exact ⟨.ref p, _, J, rfl, q L' p pm ((pm.map (·.2)).nodup_iff.mpr R.nd) hfew hn⟩
end L2
set_option maxRecDepth 100000
set_option maxHeartbeats 4000000
namespace TH
open PySem L2 Evl
/-! ### the order of lists is one -/
theorem lexL_pos (p : List Int) (x : Int) (q : List Int) : lexL p (p ++ x :: q) = true := by
  have h := lexL_pre p [] (x :: q)
  rw [List.append_nil] at h
  rw [h]
  rfl
theorem sorted_one {α : Type} {lt : α → α → Prop} (asym : ∀ a b, lt a b → ¬ lt b a) : ∀ {xs ys : List α}, xs.Pairwise lt → ys.Pairwise lt → (∀ a, a ∈ xs ↔ a ∈ ys) → xs = ys
  | [], [], _, _, _ => rfl
  | [], y :: ys, _, _, h => absurd ((h y).mpr List.mem_cons_self) (by simp)
  | x :: xs, [], _, _, h => absurd ((h x).mp List.mem_cons_self) (by simp)
  | x :: xs, y :: ys, h1, h2, h => by
    obtain ⟨a1, a2⟩ := List.pairwise_cons.mp h1
    obtain ⟨b1, b2⟩ := List.pairwise_cons.mp h2
    have e : x = y := by
      rcases List.mem_cons.mp ((h x).mp List.mem_cons_self) with e | hx
      · exact e
      · rcases List.mem_cons.mp ((h y).mpr List.mem_cons_self) with e | hy
        · exact e.symm
        · exact absurd (b1 x hx) (asym _ _ (a1 y hy))
    subst e
    have n1 : x ∉ xs := fun hx => asym _ _ (a1 x hx) (a1 x hx)
    have n2 : x ∉ ys := fun hx => asym _ _ (b1 x hx) (b1 x hx)
    rw [sorted_one asym a2 b2 fun a => ⟨fun ha => ?_, fun ha => ?_⟩]
    · rcases List.mem_cons.mp ((h a).mp (List.mem_cons_of_mem _ ha)) with e | hy
      · rw [e] at ha
        exact absurd ha n1
      · exact hy
    · rcases List.mem_cons.mp ((h a).mpr (List.mem_cons_of_mem _ ha)) with e | hy
      · rw [e] at ha
        exact absurd ha n2
      · exact hy
theorem size_n1 (s : Nat) (t : Tr) : (Tr.n1 s t).size = 1 + t.size := by
  rw [Tr.size_eq]
  show 1 + Tr.sizeF [t] = _
  rw [Tr.size_one]
theorem size_n2 (s : Nat) (t u : Tr) : (Tr.n2 s t u).size = 1 + (t.size + u.size) := by
  rw [Tr.size_eq]
  show 1 + Tr.sizeF [t, u] = _
  rw [Tr.sizeF_cons, Tr.size_one]
/-! ### places with their trees, from the top on -/
abbrev Ln := List Int × Tr
def lns : List Int → Tr → List Ln
  | p, .n0 s => [(p, .n0 s)]
  | p, .n1 s t => (p, .n1 s t) :: lns (p ++ [0]) t
  | p, .n2 s t u => (p, .n2 s t u) :: (lns (p ++ [0]) t ++ lns (p ++ [1]) u)
def lnsE (e : Ln) : List Ln := lns e.1 e.2
def kidL (e : Ln) : List Ln := match e.2 with
  | .n0 _ => []
  | .n1 _ t => [(e.1 ++ [0], t)]
  | .n2 _ t u => [(e.1 ++ [0], t), (e.1 ++ [1], u)]
theorem lnsE_eq (e : Ln) : lnsE e = e :: (kidL e).flatMap lnsE := by
  obtain ⟨p, t⟩ := e
  cases t with
  | n0 s => rfl
  | n1 s t =>
    show (p, Tr.n1 s t) :: lns (p ++ [0]) t = (p, Tr.n1 s t) :: ([(p ++ [0], t)] : List Ln).flatMap lnsE
    rw [List.flatMap_cons, List.flatMap_nil, List.append_nil]
    rfl
  | n2 s t u =>
    show (p, Tr.n2 s t u) :: (lns (p ++ [0]) t ++ lns (p ++ [1]) u) = (p, Tr.n2 s t u) :: ([(p ++ [0], t), (p ++ [1], u)] : List Ln).flatMap lnsE
    rw [List.flatMap_cons, List.flatMap_cons, List.flatMap_nil, List.append_nil]
    rfl
theorem kidL_trees (e : Ln) : (kidL e).map (·.2) = e.2.kids := by
  obtain ⟨p, t⟩ := e
  cases t <;> rfl
theorem kidL_len (e : Ln) : (kidL e).length = e.2.kids.length := by rw [← kidL_trees e, List.length_map]
theorem kidL_at {e : Ln} {j : Nat} {k : Tr} (h : e.2.kids[j]? = some k) : (kidL e)[j]? = some (e.1 ++ [(j : Int)], k) := by
  obtain ⟨p, t⟩ := e
  cases t with
  | n0 s => cases h
  | n1 s t =>
    cases j with
    | zero => cases h; rfl
    | succ j => cases h
  | n2 s t u =>
    cases j with
    | zero => cases h; rfl
    | succ j =>
      cases j with
      | zero => cases h; rfl
      | succ j => cases h
theorem lnsE_len : ∀ e : Ln, (lnsE e).length = e.2.size := by
  have key : ∀ (t : Tr) (p : List Int), (lns p t).length = t.size := by
    intro t
    induction t with
    | n0 s => intro p; rfl
    | n1 s t ih =>
      intro p
      show (lns (p ++ [0]) t).length + 1 = _
      rw [ih, size_n1, Nat.add_comm]
    | n2 s t u ih1 ih2 =>
      intro p
      show (lns (p ++ [0]) t ++ lns (p ++ [1]) u).length + 1 = _
      rw [List.length_append, ih1, ih2, size_n2, Nat.add_comm]
  exact fun e => key e.2 e.1
theorem lns_pre : ∀ (t : Tr) (p : List Int), ∀ e ∈ lns p t, ∃ q, e.1 = p ++ q := by
  intro t
  induction t with
  | n0 s =>
    intro p e he
    rw [List.mem_singleton.mp he]
    exact ⟨[], (List.append_nil p).symm⟩
  | n1 s t ih =>
    intro p e he
    rcases List.mem_cons.mp he with rfl | he
    · exact ⟨[], (List.append_nil p).symm⟩
    · obtain ⟨q, hq⟩ := ih _ e he
      exact ⟨[0] ++ q, by rw [hq, List.append_assoc]⟩
  | n2 s t u ih1 ih2 =>
    intro p e he
    rcases List.mem_cons.mp he with rfl | he
    · exact ⟨[], (List.append_nil p).symm⟩
    · rcases List.mem_append.mp he with he | he
      · obtain ⟨q, hq⟩ := ih1 _ e he
        exact ⟨[0] ++ q, by rw [hq, List.append_assoc]⟩
      · obtain ⟨q, hq⟩ := ih2 _ e he
        exact ⟨[1] ++ q, by rw [hq, List.append_assoc]⟩
def ltP (p q : List Int) : Prop := lexL p q = true
theorem ltP_asym (p q : List Int) (h : ltP p q) : ¬ ltP q p := fun h2 => by
  have h1 := lexL_asym _ _ h
  rw [show lexL q p = true from h2] at h1
  cases h1
theorem lns_sorted : ∀ (t : Tr) (p : List Int), ((lns p t).map (·.1)).Pairwise ltP := by
  intro t
  induction t with
  | n0 s =>
    intro p
    exact List.pairwise_singleton _ _
  | n1 s t ih =>
    intro p
    show (p :: (lns (p ++ [0]) t).map (·.1)).Pairwise ltP
    refine List.pairwise_cons.mpr ⟨fun q hq => ?_, ih _⟩
    obtain ⟨e, he, rfl⟩ := List.mem_map.mp hq
    obtain ⟨r, hr⟩ := lns_pre t _ e he
    show lexL p e.1 = true
    rw [hr, List.append_assoc]
    exact lexL_pos p 0 r
  | n2 s t u ih1 ih2 =>
    intro p
    show (p :: (lns (p ++ [0]) t ++ lns (p ++ [1]) u).map (·.1)).Pairwise ltP
    rw [List.map_append]
    refine List.pairwise_cons.mpr ⟨fun q hq => ?_, List.pairwise_append.mpr ⟨ih1 _, ih2 _, fun q hq q' hq' => ?_⟩⟩
    · rcases List.mem_append.mp hq with hq | hq
      · obtain ⟨e, he, rfl⟩ := List.mem_map.mp hq
        obtain ⟨r, hr⟩ := lns_pre t _ e he
        show lexL p e.1 = true
        rw [hr, List.append_assoc]
        exact lexL_pos p 0 r
      · obtain ⟨e, he, rfl⟩ := List.mem_map.mp hq
        obtain ⟨r, hr⟩ := lns_pre u _ e he
        show lexL p e.1 = true
        rw [hr, List.append_assoc]
        exact lexL_pos p 1 r
    · obtain ⟨e, he, rfl⟩ := List.mem_map.mp hq
      obtain ⟨e', he', rfl⟩ := List.mem_map.mp hq'
      obtain ⟨r, hr⟩ := lns_pre t _ e he
      obtain ⟨r', hr'⟩ := lns_pre u _ e' he'
      show lexL e.1 e'.1 = true
      rw [hr, hr', List.append_assoc, List.append_assoc, lexL_pre]
      rfl
/-! ### how high -/
def Tr.high : Tr → Nat
  | .n0 _ => 1
  | .n1 _ t => 1 + Tr.high t
  | .n2 _ t u => 1 + max (Tr.high t) (Tr.high u)
def maxH : List Tr → Nat
  | [] => 0
  | t :: ts => max t.high (maxH ts)
theorem high_eq (t : Tr) : t.high = 1 + maxH t.kids := by
  cases t with
  | n0 s => rfl
  | n1 s t =>
    show 1 + t.high = 1 + max t.high 0
    rw [Nat.max_zero]
  | n2 s t u =>
    show 1 + max t.high u.high = 1 + max t.high (max u.high 0)
    rw [Nat.max_zero]
theorem maxH_snoc (t : Tr) : ∀ ts : List Tr, maxH (ts ++ [t]) = max (maxH ts) t.high
  | [] => by
    show max t.high 0 = max 0 t.high
    rw [Nat.max_comm]
  | u :: ts => by
    show max u.high (maxH (ts ++ [t])) = max (max u.high (maxH ts)) t.high
    rw [maxH_snoc t ts, Nat.max_assoc]
theorem high_pos (t : Tr) : 1 ≤ t.high := by
  rw [high_eq]
  exact Nat.le_add_right _ _
theorem high_size (t : Tr) : t.high ≤ t.size := by
  induction t with
  | n0 s => exact Nat.le_refl _
  | n1 s t ih =>
    rw [Tr.size_eq]
    show 1 + t.high ≤ 1 + Tr.sizeF [t]
    rw [Tr.size_one]
    omega
  | n2 s t u ih1 ih2 =>
    rw [Tr.size_eq]
    show 1 + max t.high u.high ≤ 1 + Tr.sizeF [t, u]
    rw [Tr.sizeF_cons, Tr.size_one]
    omega
theorem lns_high : ∀ (t : Tr) (p : List Int), (∀ e ∈ lns p t, e.1.length + 1 ≤ p.length + t.high) ∧ ∃ e ∈ lns p t, e.1.length + 1 = p.length + t.high := by
  intro t
  induction t with
  | n0 s =>
    intro p
    refine ⟨fun e he => ?_, _, List.mem_singleton.mpr rfl, rfl⟩
    rw [List.mem_singleton.mp he]
    exact Nat.le_refl _
  | n1 s t ih =>
    intro p
    obtain ⟨h1, e1, m1, h2⟩ := ih (p ++ [0])
    have hl : (p ++ [(0 : Int)]).length = p.length + 1 := by rw [List.length_append]; rfl
    have hh : (Tr.n1 s t).high = 1 + t.high := rfl
    rw [hl] at h1 h2
    refine ⟨fun e he => ?_, e1, List.mem_cons_of_mem _ m1, by omega⟩
    rcases List.mem_cons.mp he with rfl | he
    · show p.length + 1 ≤ _
      omega
    · have := h1 e he
      omega
  | n2 s t u ih1 ih2 =>
    intro p
    obtain ⟨h1, e1, m1, h2⟩ := ih1 (p ++ [0])
    obtain ⟨h3, e3, m3, h4⟩ := ih2 (p ++ [1])
    have hl : (p ++ [(0 : Int)]).length = p.length + 1 := by rw [List.length_append]; rfl
    have hl2 : (p ++ [(1 : Int)]).length = p.length + 1 := by rw [List.length_append]; rfl
    have hh : (Tr.n2 s t u).high = 1 + max t.high u.high := rfl
    rw [hl] at h1 h2
    rw [hl2] at h3 h4
    refine ⟨fun e he => ?_, ?_⟩
    · rcases List.mem_cons.mp he with rfl | he
      · show p.length + 1 ≤ _
        omega
      · rcases List.mem_append.mp he with he | he
        · have := h1 e he
          omega
        · have := h3 e he
          omega
    · by_cases hc : t.high ≤ u.high
      · exact ⟨e3, List.mem_cons_of_mem _ (List.mem_append_right _ m3), by omega⟩
      · exact ⟨e1, List.mem_cons_of_mem _ (List.mem_append_left _ m1), by omega⟩
def highs : Tr → List Nat
  | .n0 _ => [1]
  | .n1 s t => (Tr.n1 s t).high :: highs t
  | .n2 s t u => (Tr.n2 s t u).high :: (highs t ++ highs u)
def highsF (ts : List Tr) : List Nat := (ts.map highs).flatten
theorem highsF_cons (t : Tr) (ts : List Tr) : highsF (t :: ts) = highs t ++ highsF ts := by
  unfold highsF
  rw [List.map_cons, List.flatten_cons]
theorem highsF_app (ts us : List Tr) : highsF (ts ++ us) = highsF ts ++ highsF us := by
  unfold highsF
  rw [List.map_append, List.flatten_append]
theorem highs_eq (t : Tr) : highs t = t.high :: highsF t.kids := by
  cases t with
  | n0 s => rfl
  | n1 s t =>
    show _ :: highs t = _ :: highsF [t]
    rw [highsF_cons]
    show _ = _ :: (highs t ++ [])
    rw [List.append_nil]
  | n2 s t u =>
    show _ :: (highs t ++ highs u) = _ :: highsF [t, u]
    rw [highsF_cons, highsF_cons]
    show _ = _ :: (highs t ++ (highs u ++ []))
    rw [List.append_nil]
theorem highs_len : ∀ t : Tr, (highs t).length = t.size := by
  intro t
  induction t with
  | n0 s => rfl
  | n1 s t ih =>
    show (highs t).length + 1 = _
    rw [ih, size_n1, Nat.add_comm]
  | n2 s t u ih1 ih2 =>
    show (highs t ++ highs u).length + 1 = _
    rw [List.length_append, ih1, ih2, size_n2, Nat.add_comm]
theorem highsF_len (ts : List Tr) : (highsF ts).length = Tr.sizeF ts := by
  induction ts with
  | nil => rfl
  | cons t ts ih => rw [highsF_cons, List.length_append, highs_len, ih, Tr.sizeF_cons]
theorem highsF_at {ts : List Tr} {j : Nat} {u : Tr} (h : ts[j]? = some u) (r : List Nat) : (highsF ts ++ r)[Tr.sizeF (ts.take j)]? = some u.high := by
  induction ts generalizing j with
  | nil => cases h
  | cons t ts ih =>
    cases j with
    | zero =>
      cases h
      rw [highsF_cons, highs_eq]
      rfl
    | succ j =>
      have h : ts[j]? = some u := h
      rw [List.take_succ_cons, Tr.sizeF_cons, highsF_cons, List.append_assoc, List.getElem?_append_right (by rw [highs_len]; omega), highs_len, Nat.add_sub_cancel_left]
      exact ih h
/-! ### going on from place to place -/
def nextL : List Ln → List Ln
  | [] => []
  | e :: r => kidL e ++ r
def stkN : Nat → List Ln → List Ln
  | 0, l => l
  | n + 1, l => stkN n (nextL l)
theorem stk_flat : ∀ (n : Nat) (l : List Ln), (stkN n l).flatMap lnsE = (l.flatMap lnsE).drop n
  | 0, l => by rw [List.drop_zero]; rfl
  | n + 1, l => by
    show (stkN n (nextL l)).flatMap lnsE = _
    rw [stk_flat n]
    cases l with
    | nil => rw [nextL, List.flatMap_nil, List.drop_nil, List.drop_nil]
    | cons e r => rw [nextL, List.flatMap_append, List.flatMap_cons, lnsE_eq e, List.cons_append, List.drop_succ_cons]
theorem stk_trees : ∀ (n : Nat) (l : List Ln), (stkN n l).map (·.2) = Tr.suf n (l.map (·.2))
  | 0, l => rfl
  | n + 1, l => by
    show (stkN n (nextL l)).map (·.2) = Tr.suf n (Tr.next (l.map (·.2)))
    rw [stk_trees n]
    congr 1
    cases l with
    | nil => rfl
    | cons e r =>
      show (kidL e ++ r).map (·.2) = _
      rw [List.map_append, kidL_trees]
      rfl
theorem stk_succ : ∀ (n : Nat) (l : List Ln), stkN (n + 1) l = nextL (stkN n l)
  | 0, l => rfl
  | n + 1, l => by
    show stkN (n + 1) (nextL l) = nextL (stkN n (nextL l))
    exact stk_succ n (nextL l)
theorem stk_head {t : Tr} {i : Nat} (h : i < t.size) : ∃ e r, stkN i [([], t)] = e :: r ∧ (lns [] t)[i]? = some e ∧ Tr.suf i [t] = e.2 :: r.map (·.2) := by
  have hf := stk_flat i [([], t)]
  rw [List.flatMap_cons, List.flatMap_nil, List.append_nil] at hf
  have ht := stk_trees i [([], t)]
  cases hs : stkN i [([], t)] with
  | nil =>
    rw [hs] at hf
    have hl := congrArg List.length hf
    rw [List.flatMap_nil, List.length_nil, List.length_drop, lnsE_len] at hl
    have : t.size - i = 0 := hl.symm
    omega
  | cons e r =>
    rw [hs] at hf ht
    refine ⟨e, r, rfl, ?_, ht.symm⟩
    rw [List.flatMap_cons, lnsE_eq, List.cons_append] at hf
    have : (lnsE ([], t))[i]? = ((lnsE ([], t)).drop i)[0]? := by rw [List.getElem?_drop, Nat.add_zero]
    show (lnsE ([], t))[i]? = _
    rw [this, ← hf]
    rfl
def mask (e : Ln) : List (List Int) := e.1 :: List.replicate (e.2.size - 1) []
def blank (ts : List Tr) : List (List Int) := List.replicate (Tr.sizeF ts) []
theorem blank_cons (t : Tr) (ts : List Tr) : blank (t :: ts) = [] :: (List.replicate (t.size - 1) [] ++ blank ts) := by
  unfold blank
  rw [Tr.sizeF_cons, List.replicate_append_replicate, ← List.replicate_succ]
  congr 1
  have := Tr.size_pos t
  omega
theorem mask_len (e : Ln) : (mask e).length = e.2.size := by
  unfold mask
  rw [List.length_cons, List.length_replicate]
  have := Tr.size_pos e.2
  omega
theorem masks_len : ∀ l : List Ln, (l.flatMap mask).length = Tr.sizeF (l.map (·.2))
  | [] => rfl
  | e :: l => by rw [List.flatMap_cons, List.length_append, mask_len, masks_len l, List.map_cons, Tr.sizeF_cons]
/-- what is known of the places, with i of them gone and j kids of the next one -/
def fnd (t : Tr) (i j : Nat) (e : Ln) (r : List Ln) : List (List Int) := ((lns [] t).map (·.1)).take i ++ e.1 :: (((kidL e).take j).flatMap mask ++ (blank (e.2.kids.drop j) ++ r.flatMap mask))
def fnd0 (t : Tr) (i : Nat) : List (List Int) := ((lns [] t).map (·.1)).take i ++ (stkN i [([], t)]).flatMap mask
theorem fnd_start {t : Tr} {i : Nat} {e : Ln} {r : List Ln} (h : stkN i [([], t)] = e :: r) : fnd0 t i = fnd t i 0 e r := by
  unfold fnd0 fnd
  rw [h, List.flatMap_cons, mask, List.take_zero, List.flatMap_nil, List.nil_append, List.drop_zero, List.cons_append]
  congr 3
  unfold blank
  congr 1
  rw [Tr.size_eq]
  omega
theorem fnd_end {t : Tr} {i : Nat} {e : Ln} {r : List Ln} (h : stkN i [([], t)] = e :: r) (hi : (lns [] t)[i]? = some e) : fnd t i e.2.kids.length e r = fnd0 t (i + 1) := by
  unfold fnd0 fnd
  rw [stk_succ, h, nextL, List.flatMap_append, ← kidL_len, List.take_length, kidL_len, List.drop_length, List.take_add_one, List.getElem?_map, hi]
  show _ ++ e.1 :: (_ ++ ([] ++ _)) = (_ ++ [e.1]) ++ _
  rw [List.nil_append, List.append_assoc]
  rfl
theorem take_len {t : Tr} {i : Nat} (hi : i < t.size) : (((lns [] t).map (·.1)).take i).length = i := by
  rw [List.length_take, List.length_map, show (lns [] t).length = t.size from lnsE_len ([], t)]
  omega
theorem kids_take_len (e : Ln) (j : Nat) : (((kidL e).take j).flatMap mask).length = Tr.sizeF (e.2.kids.take j) := by
  rw [masks_len, List.map_take, kidL_trees]
theorem drop_at {ts : List Tr} {j : Nat} {k : Tr} (h : ts[j]? = some k) : ts.drop j = k :: ts.drop (j + 1) := by
  obtain ⟨h1, h2⟩ := List.getElem?_eq_some_iff.mp h
  rw [List.drop_eq_getElem_cons h1, h2]
theorem fnd_step {t : Tr} {i j : Nat} {e : Ln} {r : List Ln} {k : Tr} (hi : i < t.size) (h : e.2.kids[j]? = some k) : (fnd t i j e r).set (i + 1 + Tr.sizeF (e.2.kids.take j)) (e.1 ++ [(j : Int)]) = fnd t i (j + 1) e r := by
  unfold fnd
  have h1 := take_len hi
  have h2 := kids_take_len e j
  rw [List.set_append_right _ _ (by rw [h1]; omega), h1, show i + 1 + Tr.sizeF (e.2.kids.take j) - i = Tr.sizeF (e.2.kids.take j) + 1 by omega, List.set_cons_succ, List.set_append_right _ _ (by rw [h2]; exact Nat.le_refl _), h2, Nat.sub_self, drop_at h, blank_cons, List.cons_append, List.set_cons_zero]
  rw [Tr.take_snoc (kidL_at h), List.flatMap_append, List.flatMap_cons, List.flatMap_nil, List.append_nil, mask]
  congr 2
  simp only [List.append_assoc, List.cons_append]
theorem fnd_at {t : Tr} {i j : Nat} {e : Ln} {r : List Ln} (hi : i < t.size) : (fnd t i j e r)[i]? = some e.1 := by
  unfold fnd
  have h1 := take_len hi
  rw [List.getElem?_append_right (by rw [h1]; exact Nat.le_refl _), h1, Nat.sub_self]
  rfl
theorem fnd_len {t : Tr} {i j : Nat} {e : Ln} {r : List Ln} (hi : i < t.size) (h : Tr.suf i [t] = e.2 :: r.map (·.2)) (hj : j ≤ e.2.kids.length) : (fnd t i j e r).length = t.size := by
  unfold fnd blank
  rw [List.length_append, take_len hi, List.length_cons, List.length_append, kids_take_len, List.length_append, List.length_replicate, masks_len]
  have h1 : Tr.sizeF (e.2 :: r.map (·.2)) = t.size - i := by
    rw [← h]
    unfold Tr.sizeF
    rw [Tr.rowF_suf, List.length_drop, Tr.row_one]
    rfl
  rw [Tr.sizeF_cons, Tr.size_eq] at h1
  have h2 : Tr.sizeF (e.2.kids.take j) + Tr.sizeF (e.2.kids.drop j) = Tr.sizeF e.2.kids := by rw [← Tr.sizeF_app, List.take_append_drop]
  omega
theorem fnd0_start (t : Tr) : fnd0 t 0 = List.replicate t.size [] := by
  unfold fnd0
  show [] ++ ([(([] : List Int), t)] : List Ln).flatMap mask = _
  rw [List.flatMap_cons, List.flatMap_nil, List.append_nil, List.nil_append, mask, ← List.replicate_succ]
  congr 1
  have := Tr.size_pos t
  show t.size - 1 + 1 = t.size
  omega
theorem stk_all (t : Tr) : stkN t.size [([], t)] = [] := by
  have ht := stk_trees t.size [([], t)]
  have : Tr.suf t.size [t] = [] := Tr.suf_nil.mpr (by rw [Tr.size_one]; exact Nat.le_refl _)
  rw [show ([(([] : List Int), t)] : List Ln).map (·.2) = [t] from rfl, this] at ht
  exact List.map_eq_nil_iff.mp ht
theorem fnd0_end (t : Tr) : fnd0 t t.size = (lns [] t).map (·.1) := by
  unfold fnd0
  rw [stk_all, List.flatMap_nil, List.append_nil]
  have hl : ((lns [] t).map (·.1)).length = t.size := by rw [List.length_map]; exact lnsE_len ([], t)
  rw [← hl, List.take_length]
/-! ### the lines: each place, in whatever order -/
structure LInv (t : Tr) (i : Nat) (L : List Ln) : Prop where
  le : i ≤ L.length
  head : ∃ r, L = ([], t) :: r
  perm : (L.take i ++ (L.drop i).flatMap lnsE).Perm (lns [] t)
theorem LInv.start (t : Tr) : LInv t 0 [([], t)] where
  le := Nat.zero_le _
  head := ⟨[], rfl⟩
  perm := by
    show (([(([] : List Int), t)] : List Ln).flatMap lnsE).Perm _
    rw [List.flatMap_cons, List.flatMap_nil, List.append_nil]
    exact List.Perm.refl _
theorem LInv.step {t : Tr} {i : Nat} {L : List Ln} {e : Ln} (h : LInv t i L) (he : L[i]? = some e) : LInv t (i + 1) (L ++ kidL e) := by
  obtain ⟨hlt, ee⟩ := List.getElem?_eq_some_iff.mp he
  have hd : L.drop i = e :: L.drop (i + 1) := by rw [List.drop_eq_getElem_cons hlt, ee]
  refine ⟨by rw [List.length_append]; omega, ?_, ?_⟩
  · obtain ⟨r, hr⟩ := h.head
    exact ⟨r ++ kidL e, by rw [hr]; rfl⟩
  · refine List.Perm.trans ?_ h.perm
    rw [List.take_append_of_le_length (by omega), List.drop_append_of_le_length (by omega), List.flatMap_append, Tr.take_snoc he, hd, List.flatMap_cons, lnsE_eq e, List.append_assoc]
    refine List.Perm.append_left _ ?_
    simp only [List.cons_append, List.nil_append]
    refine List.Perm.cons _ ?_
    exact List.perm_append_comm
theorem LInv.len {t : Tr} {i : Nat} {L : List Ln} (h : LInv t i L) : L.length ≤ t.size := by
  have h1 := h.perm.length_eq
  rw [show (lns [] t).length = t.size from lnsE_len ([], t), List.length_append, List.length_take] at h1
  have h2 : ∀ l : List Ln, l.length ≤ (l.flatMap lnsE).length := by
    intro l
    induction l with
    | nil => exact Nat.le_refl _
    | cons e l ih =>
      rw [List.flatMap_cons, List.length_append, List.length_cons, lnsE_len]
      have := Tr.size_pos e.2
      omega
  have h3 := h2 (L.drop i)
  rw [List.length_drop] at h3
  omega
structure FullL (t : Tr) (L : List Ln) : Prop where
  head : ∃ r, L = ([], t) :: r
  perm : L.Perm (lns [] t)
theorem LInv.full {t : Tr} {L : List Ln} (h : LInv t L.length L) : FullL t L where
  head := h.head
  perm := by
    have := h.perm
    rw [List.take_length, List.drop_length, List.flatMap_nil, List.append_nil] at this
    exact this
theorem lnsE_ok {n : Nat} {ar : Nat → Nat} : ∀ (t : Tr) (p : List Int), Tr.Ok n ar t → ∀ e ∈ lns p t, Tr.Ok n ar e.2 ∧ e.2.size ≤ t.size := by
  intro t
  induction t with
  | n0 s =>
    intro p h e he
    rw [List.mem_singleton.mp he]
    exact ⟨h, Nat.le_refl _⟩
  | n1 s t ih =>
    intro p h e he
    rcases List.mem_cons.mp he with rfl | he
    · exact ⟨h, Nat.le_refl _⟩
    · have := ih _ h.2.2 e he
      refine ⟨this.1, ?_⟩
      rw [Tr.size_eq (.n1 s t)]
      show _ ≤ 1 + Tr.sizeF [t]
      rw [Tr.size_one]
      omega
  | n2 s t u ih1 ih2 =>
    intro p h e he
    have hs : (Tr.n2 s t u).size = 1 + (t.size + u.size) := by
      rw [Tr.size_eq]
      show 1 + Tr.sizeF [t, u] = _
      rw [Tr.sizeF_cons, Tr.size_one]
    rcases List.mem_cons.mp he with rfl | he
    · exact ⟨h, Nat.le_refl _⟩
    · rcases List.mem_append.mp he with he | he
      · have := ih1 _ h.2.2.1 e he
        exact ⟨this.1, by omega⟩
      · have := ih2 _ h.2.2.2 e he
        exact ⟨this.1, by omega⟩
/-- the parts -/
def subs (t : Tr) : List Tr := (lns [] t).map (·.2)
def ltT (t u : Tr) : Prop := lexL (keyL t) (keyL u) = true
theorem ltT_asym (t u : Tr) (h : ltT t u) : ¬ ltT u t := ltP_asym _ _ h
/-! ### data in order -/
theorem eqvAll_pairs : ∀ P R : List (Int × Int), PyData.eqvAll (P.map pairD) (R.map pairD) = decide (P = R)
  | [], [] => by
    rw [List.map_nil, PyData.eqvAll]
    rfl
  | [], r :: R => by
    rw [List.map_nil, List.map_cons, decide_eq_false (by simp)]
    simp [PyData.eqvAll]
  | p :: P, [] => by
    rw [List.map_nil, List.map_cons, decide_eq_false (by simp)]
    simp [PyData.eqvAll]
  | (a, b) :: P, (c, d) :: R => by
    rw [List.map_cons, List.map_cons, PyData.eqvAll, eqvAll_pairs P R, show pairD (a, b) = tupI [a, b] from rfl, show pairD (c, d) = tupI [c, d] from rfl, eqv_tupI]
    by_cases h1 : a = c
    · by_cases h2 : b = d
      · by_cases h3 : P = R
        · rw [h1, h2, h3]
          simp
        · simp [h3]
      · simp [h2]
    · simp [h1]
theorem eqv_listP (P R : List (Int × Int)) : PyData.eqv (listP P) (listP R) = decide (P = R) := by
  unfold listP
  rw [eqv_list]
  exact eqvAll_pairs P R
/-- a tree with its rank, with its key -/
def rkD (t : Tr) : PyData := .tuple [listP (pairsT t), rowD t]
def kyD (t : Tr) : PyData := .tuple [tupI (keyL t), rowD t]
theorem alike_rk (t u : Tr) : PySem.W.alike (rkD t) (rkD u) = true := by
  unfold rkD
  rw [PySem.W.alike, PySem.W.alikeAll, alike_listP, PySem.W.alikeAll, show PySem.W.alike (rowD t) (rowD u) = true from alike_tupI _ _, PySem.W.alikeAll]
  rfl
theorem alike_ky (t u : Tr) : PySem.W.alike (kyD t) (kyD u) = true := by
  unfold kyD
  rw [PySem.W.alike, PySem.W.alikeAll, alike_tupI, PySem.W.alikeAll, show PySem.W.alike (rowD t) (rowD u) = true from alike_tupI _ _, PySem.W.alikeAll]
  rfl
theorem lt_rk (t u : Tr) : PySem.W.dataLt (rkD t) (rkD u) = true ↔ ltT t u := by
  unfold rkD
  rw [PySem.W.dataLt_pair (alike_listP _ _) (show PySem.W.alike (rowD t) (rowD u) = true from alike_tupI _ _), eqv_listP]
  by_cases h : pairsT t = pairsT u
  · rw [if_pos (decide_eq_true h), show PyData.eqv (rowD t) (rowD u) = true from by
      unfold rowD
      rw [eqv_tupI, decide_eq_true (by rw [← pairs_row, ← pairs_row, h])], if_pos rfl]
    unfold ltT keyL
    rw [h, lexL_irr]
  · rw [if_neg (by simp [h]), dataLt_listP]
    rfl
theorem lt_ky (t u : Tr) : PySem.W.dataLt (kyD t) (kyD u) = true ↔ ltT t u := by
  unfold kyD
  rw [PySem.W.dataLt_pair (alike_tupI _ _) (show PySem.W.alike (rowD t) (rowD u) = true from alike_tupI _ _), eqv_tupI]
  by_cases h : keyL t = keyL u
  · rw [if_pos (decide_eq_true h), show PyData.eqv (rowD t) (rowD u) = true from by
      unfold rowD
      rw [eqv_tupI, decide_eq_true (keyL_row h)], if_pos rfl]
    unfold ltT
    rw [h, lexL_irr]
  · rw [if_neg (by simp [h]), dataLt_tupI]
    rfl
theorem lt_pl (p q : List Int) : PySem.W.dataLt (tupI p) (tupI q) = true ↔ ltP p q := by rw [dataLt_tupI]; exact Iff.rfl
theorem ltT_tri {S : List Sg} {t u : Tr} (ht : OkT S t) (hu : OkT S u) (h1 : ¬ ltT t u) (h2 : ¬ ltT u t) : t = u :=
  row_keyL ht hu (keyL_row (lexL_tri _ _ (by rw [← Bool.not_eq_true]; exact h1) (by rw [← Bool.not_eq_true]; exact h2)))
theorem ltP_tri {p q : List Int} (h1 : ¬ ltP p q) (h2 : ¬ ltP q p) : p = q := lexL_tri _ _ (by rw [← Bool.not_eq_true]; exact h1) (by rw [← Bool.not_eq_true]; exact h2)
theorem flat_rk (t : Tr) : Flat 3 (rkD t) := flat_tup fun d hd => by
  rcases List.mem_cons.mp hd with rfl | hd
  · exact flat_listP _
  · rw [List.mem_singleton.mp hd]
    exact ⟨(flat_tupI _).lay, Nat.le_trans (flat_tupI _).depth (by decide)⟩
theorem flat_ky (t : Tr) : Flat 3 (kyD t) := flat_tup fun d hd => by
  rcases List.mem_cons.mp hd with rfl | hd
  · exact ⟨(flat_tupI _).lay, Nat.le_trans (flat_tupI _).depth (by decide)⟩
  · rw [List.mem_singleton.mp hd]
    exact ⟨(flat_tupI _).lay, Nat.le_trans (flat_tupI _).depth (by decide)⟩
theorem sorted_out {β : Type} {enc : β → PyData} {lt : β → β → Prop} (hlt : ∀ a b, PySem.W.dataLt (enc a) (enc b) = true ↔ lt a b) {zs : List (V × PyData)} {bs : List β} (tri : ∀ a ∈ bs, ∀ b ∈ bs, ¬ lt a b → ¬ lt b a → a = b) (hz : zs.map (·.2) = bs.map enc) (nd : bs.Nodup) :
    ∃ bs' : List β, (zs.mergeSort L2.leZ).map (·.2) = bs'.map enc ∧ bs'.Perm bs ∧ bs'.Pairwise lt := by
  obtain ⟨ws, h1, h2⟩ : ∃ ws : List (V × β), zs = ws.map (fun w => (w.1, enc w.2)) ∧ ws.map (·.2) = bs := by
    clear tri nd
    induction zs generalizing bs with
    | nil =>
      cases bs with
      | nil => exact ⟨[], rfl, rfl⟩
      | cons b bs => cases hz
    | cons z zs ih =>
      cases bs with
      | nil => cases hz
      | cons b bs =>
        rw [List.map_cons, List.map_cons] at hz
        injection hz with e1 e2
        obtain ⟨ws, h1, h2⟩ := ih e2
        exact ⟨(z.1, b) :: ws, by rw [List.map_cons, ← h1, ← e1], by rw [List.map_cons, h2]⟩
  have hp := PySem.W.sort_pairwise (PySem.W.sortLe_total (PyProof.Rows.listOrd PyProof.Rows.itemOrd) false fun z : V × PyData => PySem.W.keyToks z.2) zs
  have hp : (zs.mergeSort L2.leZ).Pairwise fun a b => L2.leZ a b = true := hp
  have hm : zs.mergeSort L2.leZ = (ws.mergeSort fun a b => L2.leZ (a.1, enc a.2) (b.1, enc b.2)).map fun w => (w.1, enc w.2) := by
    rw [h1]
    exact (List.map_mergeSort (f := fun w : V × β => (w.1, enc w.2)) (r := fun a b => L2.leZ (a.1, enc a.2) (b.1, enc b.2)) (s := L2.leZ) fun a _ b _ => rfl).symm
  have pw := List.mergeSort_perm ws fun a b => L2.leZ (a.1, enc a.2) (b.1, enc b.2)
  rw [hm, List.pairwise_map] at hp
  rw [hm]
  generalize (ws.mergeSort fun a b => L2.leZ (a.1, enc a.2) (b.1, enc b.2)) = us at hp pw
  have pb : (us.map (·.2)).Perm bs := by
    rw [← h2]
    exact pw.map _
  refine ⟨us.map (·.2), by rw [List.map_map, List.map_map]; rfl, pb, ?_⟩
  have nd' : (us.map (·.2)).Nodup := pb.nodup_iff.mpr nd
  have nd2 := List.pairwise_map.mp nd'
  rw [List.pairwise_map]
  refine (hp.and nd2).imp_of_mem fun {a b} ha hb ⟨h3, h4⟩ => ?_
  have ma := pb.mem_iff.mp (List.mem_map.mpr ⟨a, ha, rfl⟩)
  have mb := pb.mem_iff.mp (List.mem_map.mpr ⟨b, hb, rfl⟩)
  have h3 : (!PySem.W.dataLt (enc b.2) (enc a.2)) = true := h3
  have h5 : ¬ lt b.2 a.2 := fun h => by
    rw [(hlt _ _).mpr h] at h3
    cases h3
  by_cases h6 : lt a.2 b.2
  · exact h6
  · exact absurd (tri _ ma _ mb h6 h5) h4
/-! ### what gives a new list -/
section
variable {K : PySem.W.Frag} {M M' : Addr → Prop} {H H1 H' : Hp} {σ : L2.St} {ta tb te tl : TE} {tt : TT} {g : TG} {vs : List Nat} {D : Ends} {tz tu : TS}
def EvNew (K : PySem.W.Frag) (M : Addr → Prop) (te : TE) (σ : L2.St) (H : Hp) (P : List PyData → Prop) : Prop :=
  ∀ H1, Ex H H1 → ∀ Q : VK, (∀ l xs ds H2, H1 l = none → Ex H1 H2 → H2 l = some (.lst xs) → Dts K M H2 xs ds → P ds → Q (.ref l) H2) → te σ H1 Q
theorem EvNew.mono {P P' : List PyData → Prop} (h : EvNew K M te σ H P) (k : ∀ ds, P ds → P' ds) : EvNew K M te σ H P' := fun H1 e Q q => h H1 e Q fun l xs ds H2 h1 h2 h3 h4 h5 => q l xs ds H2 h1 h2 h3 h4 (k _ h5)
theorem EvNew.data {P : List PyData → Prop} (ok : Ok M H) (h : EvNew K M te σ H P) : EvP K M te σ H (fun d => ∃ ds, d = .list ds ∧ P ds) := fun H1 e Q q => h H1 e Q fun l xs ds H2 h1 h2 h3 h4 h5 => q _ _ H2 h2 (.lst h3 ((ok.ex e).new h1) h4) ⟨ds, rfl, h5⟩
theorem evn_lcL {ds : List PyData} (f : PyData → Bool) (F : PyData → PyData) (ok : Ok M H) (hl : EvD K M tl σ H (.list ds)) (hz : ds.length < sizeLine)
    (hs : ∀ (M' : Addr → Prop) (d : PyData) (x : V) (H' : Hp), (∀ v d, Dt K M H v d → Dt K M' H' v d) → Ok M' H' → d ∈ ds → Ex H H' → Dt K M' H' x d →
      ∀ Qg : L2.St → Hp → Prop, (∀ σ2 H2, Ex H' H2 → Turned K M' σ vs tt te (f d) (· = F d) σ2 H2 → Qg σ2 H2) → g x (wipe σ vs) H' Qg) :
    EvNew K M (tLc (iList K tl) g tt te vs) σ H (· = (ds.filter f).map F) := fun H0 e Q q =>
  hl H0 e _ fun v d H1 e1 dv pd => by
    subst pd
    cases dv with
    | lst h1 h2 h3 =>
      rename_i a xs
      refine ⟨a, rfl, ⟨xs, sq_of h1⟩, fun D hD => ?_⟩
      have hw : Walk (Itl K a) ds.length (fun H => SqL K H a xs) (YAt xs) := by
        rw [← h3.length]
        exact walk_list
      refine lc_data (K := K) (σ := σ) (vs := vs) ds hw ((ok.ex (e.trans e1))) hD hz f (fun d e => e = F d) (fun H e => sq_of (e _ _ h1)) (fun M' i d x H2 H' hm ok' hd e2 y Qg qg => ?_) (fun H2 es e2 dd pr => ?_)
      · obtain ⟨rfl, hx⟩ := y
        obtain ⟨d', hd', dx⟩ := h3.get hx
        rw [hd] at hd'
        cases hd'
        exact hs M' d x _ (fun v d h => (hm v d (h.ex (e.trans e1))).ex e2) ok' (List.mem_of_getElem? hd) ((e.trans e1).trans e2) ((hm _ _ dx).ex e2) Qg qg
      · cases dd with
        | lst w1 w2 w3 => exact q D _ es H2 (fresh_back e1 hD) (e1.trans e2) w1 w3 (paired_map pr)
theorem q_asgN {i : Nat} {P : List PyData → Prop} (h : EvNew K M te σ H P) (k : ∀ l xs ds H1, H l = none → Ex H H1 → H1 l = some (.lst xs) → Dts K M H1 xs ds → P ds → tz D (σ.set i (some (.ref l))) H1) : tSeq (tAsg te (gName i)) tz D σ H := h H (Ex.refl H) _ k
theorem s_retN {P : List PyData → Prop} (h : EvNew K M te σ H P) (k : ∀ l xs ds H1, H l = none → Ex H H1 → H1 l = some (.lst xs) → Dts K M H1 xs ds → P ds → D.rt (.ref l) H1) : tRet te D σ H := h H (Ex.refl H) _ k
theorem filter_all {α : Type} : ∀ l : List α, l.filter (fun _ => true) = l
  | [] => rfl
  | a :: l => by rw [List.filter_cons_of_pos rfl, filter_all l]
theorem zip_fst : ∀ {xs : List V} {ds : List PyData}, Dts K M H xs ds → (xs.zip ds).map (·.1) = xs ∧ (xs.zip ds).map (·.2) = ds ∧ ∀ z ∈ xs.zip ds, Dt K M H z.1 z.2
  | _, _, .nil => ⟨rfl, rfl, fun z h => nomatch h⟩
  | _, _, .cons h t => by
    obtain ⟨h1, h2, h3⟩ := zip_fst t
    refine ⟨by rw [List.zip_cons_cons, List.map_cons, h1], by rw [List.zip_cons_cons, List.map_cons, h2], fun z hz => ?_⟩
    rcases List.mem_cons.mp hz with rfl | hz
    · exact h
    · exact h3 z hz
theorem dts_of_zip : ∀ {zs : List (V × PyData)}, (∀ z ∈ zs, Dt K M H z.1 z.2) → Dts K M H (zs.map (·.1)) (zs.map (·.2))
  | [], _ => .nil
  | z :: zs, h => .cons (h z List.mem_cons_self) (dts_of_zip fun y hy => h y (List.mem_cons_of_mem _ hy))
theorem evn_sorted {β : Type} {enc : β → PyData} {lt : β → β → Prop} {bs : List β} (hlt : ∀ a b, PySem.W.dataLt (enc a) (enc b) = true ↔ lt a b) (tri : ∀ a ∈ bs, ∀ b ∈ bs, ¬ lt a b → ¬ lt b a → a = b) (nd : bs.Nodup) (al : ∀ a b, PySem.W.alike (enc a) (enc b) = true)
    (so : PySem.W.Sortable (bs.map enc) ∨ PySem.W.Sortable0 (bs.map enc)) (dp : ∀ b, (enc b).depth ≤ 20) (h : EvD K M te σ H (.list (bs.map enc))) :
    EvNew K M (tCB (L2.rSortD K) (tCons te tNil)) σ H (fun ds => ∃ bs' : List β, ds = bs'.map enc ∧ bs'.Perm bs ∧ bs'.Pairwise lt) := fun H1 e Q q =>
  h H1 e _ fun v d H2 e2 dv pd => by
    subst pd
    cases dv with
    | lst h1 h2 h3 =>
      rename_i a xs
      obtain ⟨z1, z2, z3⟩ := zip_fst h3
      obtain ⟨bs', o1, o2, o3⟩ := sorted_out hlt tri z2 nd
      refine ⟨a, xs.zip (bs.map enc), rfl, by rw [z1]; exact sq_of h1, fun z hz => ⟨(z3 z hz).dp, ?_⟩, by rw [z2]; exact PySem.W.AllAlike.of al, by rw [z2]; exact so, fun p hp => ?_⟩
      · have : z.2 ∈ bs.map enc := by
          rw [← z2]
          exact List.mem_map.mpr ⟨z, hz, rfl⟩
        obtain ⟨b, _, hb⟩ := List.mem_map.mp this
        rw [← hb]
        exact dp b
      · refine q p _ _ _ (fresh_back e2 hp) (e2.trans (Ex.new hp)) upd_same ((dts_of_zip fun z hz => z3 z ((List.mergeSort_perm _ _).mem_iff.mp hz)).ex (Ex.new hp)) ⟨bs', o1, o2, o3⟩
/-- data apart from what is locked -/
theorem Dt.updN {v : V} {x : PyData} {d : Addr} {o : Obj} {u o' : HO} (hd : H d = some (.frz o u)) (h : Dt K M H v x) : Dt K M (L2.upd H d o') v x :=
  Dt.move (fun a xs h n => ⟨by rw [upd_ne (show a ≠ d from fun z => by rw [z, hd] at h; cases h)]; exact h, n⟩) (fun a xs h => by rw [upd_ne (show a ≠ d from fun z => by rw [z, hd] at h; cases h)]; exact h) x v h
theorem evp_lock {P : PyData → Prop} {d : Addr} {u : HO} (hd : H d = some u) (mu : Mut (some u)) (h : ∀ od H1, Ex H H1 → EvP K M te σ (L2.upd H1 d (.frz od u)) P) : EvP K M (tLockE te) σ H P := fun H1 e Q q =>
  ⟨d, u, e _ _ hd, mu, fun od => h od H1 e _ (Ex.refl _) _ fun v dd H2 e2 dv pd => ⟨e2 _ _ upd_same, q v dd (L2.upd H2 d u) (fun a o ha => by
    by_cases c : a = d
    · subst c
      rw [upd_same, ← ha]
      exact (e _ _ hd).symm
    · rw [upd_ne c]
      exact e2 _ _ (by rw [upd_ne c]; exact ha)) (dv.updN (e2 _ _ upd_same)) pd⟩⟩
end
end TH
set_option maxRecDepth 100000
set_option maxHeartbeats 4000000
namespace TH
open PySem L2 Evl
abbrev sKidsOf : Stmt := top 13
abbrev sHeight : Stmt := top 14
abbrev sPlaces : Stmt := top 16
def spKidsOf (K : PySem.W.Frag) (C : Addr) : Sp := fun vs H Q _ => ∃ (p : Addr) (v : V) (S : List Sg) (t : Tr), vs = [.ref p, v] ∧ BookAt C MF H p S ∧ KidsOk S ∧ Dt K MF H v (rowD t) ∧ OkT S t ∧ t.size ≤ 40 ∧
  ∀ l xs H', H l = none → Ex H H' → H' l = some (.lst xs) → Dts K MT H' xs (t.kids.map rowD) → Q (.ref l) H'
def spHeight (K : PySem.W.Frag) (C : Addr) : Sp := fun vs H Q _ => ∃ (p : Addr) (v : V) (S : List Sg) (t : Tr), vs = [.ref p, v] ∧ BookAt C MF H p S ∧ KidsOk S ∧ Dt K MF H v (rowD t) ∧ OkT S t ∧ t.size ≤ 40 ∧
  ∀ H', Ex H H' → Q (.int (t.high : Int)) H'
def spPlaces (K : PySem.W.Frag) (C : Addr) : Sp := fun vs H Q _ => ∃ (p : Addr) (v : V) (S : List Sg) (t : Tr), vs = [.ref p, v] ∧ BookAt C MF H p S ∧ KidsOk S ∧ Dt K MF H v (rowD t) ∧ OkT S t ∧ t.size ≤ 40 ∧
  ∀ l xs H', H l = none → Ex H H' → H' l = some (.lst xs) → Dts K MT H' xs (((lns [] t).map (·.1)).map tupI) → Q (.ref l) H'
section
variable {K : PySem.W.Frag} {M M' : Addr → Prop} {H H1 H' : Hp} {σ : L2.St} {ta tb te tl : TE} {C p : Addr} {S : List Sg} {t u : Tr} {us : List Tr} {E : XK}
theorem evd_kidst {n : Nat} {v : V} {lz : Addr} (h0 : σ[0]? = some (some (.ref p))) (h1 : σ[1]? = some (some v)) (h2 : σ[2]? = some (some (.ref lz))) (hB : BookAt C MF H p S) (hK : KidsOk S) (hv : Dt K MF H v (rowD t)) (hz : H lz = some (.lst (nums t.sizes))) (hO : OkT S t)
    (ha : EvD K MF ta σ H (.int (n : Int))) (hs : Tr.suf n [t] = u :: us) : EvNew K MF (tCall (spKidSt K C) [] E (tCons (tVar 0) (tCons (tVar 1) (tCons (tVar 2) (tCons ta tNil))))) σ H (· = (ofN (kst n u)).map PyData.int) := fun H1 e Q q =>
  ⟨_, h0, _, h1, _, h2, ha H1 e _ fun x d H2 e2 dx pd => by
    subst pd
    cases dx
    have e02 := e.trans e2
    exact ⟨p, v, .ref lz, S, t, u, us, n, rfl, hB.ex e02, hK, hv.ex e02, .lst (e02 _ _ hz) (fun h => h) (nums_dts _), hO, hs, fun l H3 hl e3 hl3 => q l _ _ H3 (fresh_back e2 hl) (e2.trans e3) hl3 (nums_dts _) rfl⟩⟩
theorem EvNew.isD {ds : List PyData} (ok : Ok M H) (h : EvNew K M te σ H (· = ds)) : EvD K M te σ H (.list ds) := (h.data ok).mono fun d ⟨ds', h1, h2⟩ => by rw [h1, h2]
theorem evd_max2 {i j : Int} (ha : EvD K M ta σ H (.int i)) (hb : EvD K M tb σ H (.int j)) : EvD K M (tCB (fun xs H Q => ∃ i j, xs = [.int i, .int j] ∧ Q (.int (if j > i then j else i)) H) (tCons ta (tCons tb tNil))) σ H (.int (if j > i then j else i)) :=
  evp_cb (eva_cons ha (eva_cons hb eva_nil)) fun vs es H1 e dv pd Q q => by
    subst pd
    cases dv with
    | cons d1 d2 =>
    cases d2 with
    | cons d2 d3 =>
    cases d3
    cases d1
    cases d2
    exact ⟨i, j, rfl, q _ _ H1 (Ex.refl _) (.int _) rfl⟩
end
theorem sl_tupAK {X : Cx} {K : PySem.W.Frag} (h : X.K = K) : SlR X (rSlA K) := by
  subst h
  exact sl_tupA
def cutD (t : Tr) : PyData → PyData
  | .int n => .tuple (cutG ((ofN t.row).map PyData.int) (some n) (some (n + ((t.sizes.getD n.toNat 0 : Nat) : Int))))
  | _ => .none
theorem cutD_at {t u : Tr} {us : List Tr} {n : Nat} (h : Tr.suf n [t] = u :: us) : cutD t (.int (n : Int)) = rowD u := by
  have hs := Tr.sizes_at h
  show PyData.tuple (cutG ((ofN t.row).map PyData.int) (some (n : Int)) (some ((n : Int) + ((t.sizes.getD (n : Int).toNat 0 : Nat) : Int)))) = _
  rw [Int.toNat_natCast, List.getD_eq_getElem?_getD, hs]
  exact rowD_cut h
theorem kst_mem {n : Nat} {u : Tr} {s : Nat} (h : s ∈ kst n u) : ∃ j k, u.kids[j]? = some k ∧ s = n + 1 + Tr.sizeF (u.kids.take j) := by
  obtain ⟨j, hj, rfl⟩ := List.mem_map.mp h
  have hj := List.mem_range.mp hj
  exact ⟨j, _, List.getElem?_eq_getElem hj, rfl⟩
theorem kst_rows {t u : Tr} {us : List Tr} {n : Nat} (h : Tr.suf n [t] = u :: us) : ((ofN (kst n u)).map PyData.int).map (cutD t) = u.kids.map rowD := by
  refine List.ext_getElem? fun j => ?_
  rw [List.getElem?_map, List.getElem?_map, List.getElem?_map]
  by_cases hj : j < u.kids.length
  · have hk : u.kids[j]? = some (u.kids[j]'hj) := List.getElem?_eq_getElem _
    rw [ofN_at (kst_at hj), hk]
    show some (cutD t (.int _)) = some (rowD _)
    rw [cutD_at (Tr.suf_kid h hk)]
  · have e1 : (ofN (kst n u))[j]? = none := List.getElem?_eq_none (by rw [ofN_len, kst_len]; omega)
    have e2 : u.kids[j]? = none := List.getElem?_eq_none (by omega)
    rw [e1, e2]
    rfl
section
variable {P : Program} {w : World} {K : PySem.W.Frag} {mg : Str → Option Value} {base : Heap} {C CT : Addr}
abbrev nKidsOf : List Str := ["book", "tree", "sizes", "start"]
theorem scKidsOf : FnScope nKidsOf ["book", "tree"] (defScope sKidsOf) := ⟨rfl, rfl, rfl, by decide +kernel, rfl, by decide +kernel, by decide +kernel⟩
theorem ok_kidsof {f : Addr} {fd : FuncData} (F : Fun K "kids_of" "kids_of" sKidsOf f fd) (B1 : OneX P w K mg base "check_tree" 4 ["book", "tree"] (spCheck K C CT)) (B2 : OneF P w K mg base "sizes_of" 2 ["book", "row"] (spSizes K C)) (B3 : OneF P w K mg base "kid_starts" 2 ["book", "row", "sizes", "start"] (spKidSt K C)) :
    FnOk P w K mg base (L2.CX P w) 5 f fd ["book", "tree"] (spKidsOf K C) := by
  obtain ⟨f1, d1, m1, k1, g1, b1⟩ := B1
  obtain ⟨f2, d2, m2, k2, g2, b2⟩ := B2
  obtain ⟨f3, d3, m3, k3, g3, b3⟩ := B3
  refine F.okX scKidsOf (fun vs H Q E h => ?_) (fun cdv A outer s H vs Q E hr h => ?_)
  · obtain ⟨p, v, S, t, rfl, _⟩ := h
    rfl
  · obtain ⟨p, v, S, t, rfl, hB, hK, hv, hO, ht, q⟩ := h
    have hr2 : Room 2 _ := hr.mono (show 2 ≤ 4 by decide)
    refine ⟨_, pss_cons (ps_expr (pe_call (E := E) g1 hr rfl m1 k1 b1 .nil (passes_call (takes_of rfl rfl rfl rfl) fun _ _ _ _ h => h) (pa_cons (pv 0) (pa_cons (pv 1) pa_nil))))
      (pss_cons (ps_set (i := 2) scKidsOf.nd rfl (.inr rfl) (pe_call g2 hr2 rfl m2 k2 b2 .nil pass0 (pa_cons (pv 0) (pa_cons (pv 1) pa_nil))))
      (pss_one (ps_ret (pe_lc (own := [("start", 3)]) (g := gName 3) (tt := tYes) rfl scKidsOf.nd (pi_list (pe_call g3 hr2 rfl m3 k3 b3 .nil pass0 (pa_cons (pv 0) (pa_cons (pv 1) (pa_cons (pv 2) (pa_cons pe_int pa_nil))))))
            (blkOk_by (N := nKidsOf) (sc := defScope sKidsOf) (by decide +kernel)) (fun _ _ _ _ _ => pg_name (i := 3) scKidsOf.nd rfl (.inl rfl)) (fun _ _ _ _ _ => pts_nil)
            (fun _ _ _ _ _ => pe_slice (sl_tupAK (K := K) rfl) (pv 1) (po_some (pv 3)) (po_some (pe_op op_add (pv 3) (pe_ix (ix_listK (K := K) rfl) (pv 2) (pv 3) (fun _ _ => rfl))))))))), ?_⟩
    refine ⟨_, rfl, _, rfl, p, v, S, _, rfl, hB, hK, hv, fun _ H1 e1 => ?_, fun hf => ?_⟩
    rotate_left
    · rw [treeB_row hO ht] at hf
      cases hf
    refine ⟨_, rfl, _, rfl, p, v, S, t, rfl, hB.ex e1, hK, hv.ex e1, hO, by omega, fun lz H2 hlz e2 hlz2 => ?_⟩
    have e12 := e1.trans e2
    have hs0 : Tr.suf 0 [t] = t :: [] := rfl
    have hk2 := Tr.kids_le t
    refine s_retN (K := K) (M := MF) (evn_lcL (K := K) (M := MF) (fun _ => true) (cutD t) okF ((evd_kidst (n := 0) rfl rfl rfl (hB.ex e12) hK (hv.ex e12) hlz2 hO evd_int hs0).isD okF) (by rw [List.length_map, ofN_len, kst_len]; exact Nat.lt_of_le_of_lt hk2 (by decide)) (fun M' d x' H' hm ok' hd e dx Qg qg => ?_)) fun l xs ds H3 hl e3 hl3 dxs pd => ?_
    · obtain ⟨n, hn, rfl⟩ := List.mem_map.mp hd
      obtain ⟨s, hs, rfl⟩ := List.mem_map.mp hn
      obtain ⟨j, k, hk, rfl⟩ := kst_mem hs
      have hsk := Tr.suf_kid hs0 hk
      refine qg _ H' (Ex.refl _) ⟨rfl, evt_yes, fun _ => ?_⟩
      have h1 : EvD K M' (tVar 1) [some (.ref p), some v, some (.ref lz), some x'] H' (rowD t) := evd_var rfl (dt_any (hv.ex (e12.trans e)))
      have h2 : EvD K M' (tVar 2) [some (.ref p), some v, some (.ref lz), some x'] H' (.list ((ofN t.sizes).map PyData.int)) := evd_var rfl (hm _ _ (.lst hlz2 (fun h => h) (nums_dts _)))
      have h3 : EvD K M' (tVar 3) [some (.ref p), some v, some (.ref lz), some x'] H' (.int ((0 + 1 + Tr.sizeF (t.kids.take j) : Nat) : Int)) := evd_var rfl dx
      have hsz : ((ofN t.sizes).map PyData.int)[0 + 1 + Tr.sizeF (t.kids.take j)]? = some (.int (k.size : Int)) := by
        rw [List.getElem?_map, ofN_at (Tr.sizes_at hsk)]
        rfl
      refine EvP.mono (evd_slT (ds := (ofN t.row).map PyData.int) (lo := some ((0 + 1 + Tr.sizeF (t.kids.take j) : Nat) : Int)) (hi := some (((0 + 1 + Tr.sizeF (t.kids.take j) : Nat) : Int) + (k.size : Int))) h1 (evo_some h3) (evo_some (evd_add h3 (evd_ixL (j := 0 + 1 + Tr.sizeF (t.kids.take j)) h2 h3 rfl hsz)))) fun d h => ?_
      rw [cutD_at hsk, ← rowD_cut hsk, h, Int.natCast_add (0 + 1 + Tr.sizeF (t.kids.take j)) k.size]
    · subst pd
      rw [filter_all, kst_rows hs0] at dxs
      have dT : Dts K MT H3 xs (t.kids.map rowD) := by
        have key : ∀ {ts : List Tr} {ys : List V}, Dts K MF H3 ys (ts.map rowD) → Dts K MT H3 ys (ts.map rowD) := by
          intro ts
          induction ts with
          | nil =>
            intro ys h
            cases h
            exact .nil
          | cons t ts ih =>
            intro ys h
            cases h with
            | cons h1 h2 => exact .cons (dt_any h1) (ih h2)
        exact key dxs
      exact q l xs H3 (fresh_back e12 hl) (e12.trans e3) hl3 dT
/-! ### height -/
abbrev nHeight : List Str := ["book", "tree", "sizes", "heights", "start", "kid"]
theorem scHeight : FnScope nHeight ["book", "tree"] (defScope sHeight) := ⟨rfl, rfl, rfl, by decide +kernel, rfl, by decide +kernel, by decide +kernel⟩
theorem ok_height {f : Addr} {fd : FuncData} (F : Fun K "height" "height" sHeight f fd) (G : Glob mg) (GR : GlobR mg) (hmax : mg "max" = none) (B1 : OneX P w K mg base "check_tree" 4 ["book", "tree"] (spCheck K C CT)) (B2 : OneF P w K mg base "sizes_of" 2 ["book", "row"] (spSizes K C)) (B3 : OneF P w K mg base "kid_starts" 2 ["book", "row", "sizes", "start"] (spKidSt K C)) :
    FnOk P w K mg base (L2.CX P w) 5 f fd ["book", "tree"] (spHeight K C) := by
  obtain ⟨f1, d1, m1, k1, g1, b1⟩ := B1
  obtain ⟨f2, d2, m2, k2, g2, b2⟩ := B2
  obtain ⟨f3, d3, m3, k3, g3, b3⟩ := B3
  refine F.okX scHeight (fun vs H Q E h => ?_) (fun cdv A outer s H vs Q E hr h => ?_)
  · obtain ⟨p, v, S, t, rfl, _⟩ := h
    rfl
  · obtain ⟨p, v, S, t, rfl, hB, hK, hv, hO, ht, q⟩ := h
    have hr2 : Room 2 _ := hr.mono (show 2 ≤ 4 by decide)
    refine ⟨_, pss_cons (ps_expr (pe_call (E := E) g1 hr rfl m1 k1 b1 .nil (passes_call (takes_of rfl rfl rfl rfl) fun _ _ _ _ h => h) (pa_cons (pv 0) (pa_cons (pv 1) pa_nil))))
      (PSs.nox (pss_cons (ps_set (i := 2) scHeight.nd rfl (.inl rfl) (pe_call g2 hr2 rfl m2 k2 b2 .nil pass0 (pa_cons (pv 0) (pa_cons (pv 1) pa_nil))))
      (pss_cons (ps_set (i := 3) scHeight.nd rfl (.inl rfl) (pe_op op_rep (pe_lst (pa_cons pe_int pa_nil)) (pe_callB call_len_seq (by rfl) G.len PySem.boot_len (pa_cons (pv 1) pa_nil))))
      (pss_cons (ps_for PassesOwn.never rfl (pi_revR rfl GR.reversed (prg_1 rfl G.range (pe_callB call_len_seq (by rfl) G.len PySem.boot_len (pa_cons (pv 1) pa_nil)))) (pg_name (i := 4) scHeight.nd rfl (.inl rfl))
        (pss_one (ps_for PassesOwn.never rfl (pi_list (pe_call g3 hr2 rfl m3 k3 b3 .nil pass0 (pa_cons (pv 0) (pa_cons (pv 1) (pa_cons (pv 2) (pa_cons (pv 4) pa_nil)))))) (pg_name (i := 5) scHeight.nd rfl (.inl rfl))
          (pss_one (ps_asg (pe_callB (call_max2 rfl) (by rfl) hmax (by decide +kernel) (pa_cons (pe_ix ix_list (pv 3) (pv 4) (fun _ _ => rfl)) (pa_cons (pe_op op_add (pe_ix ix_list (pv 3) (pv 5) (fun _ _ => rfl)) pe_int) pa_nil))) (pg_sub (pv 3) (pv 4) set_list))))))
      (pss_one (ps_ret (pe_ix ix_list (pv 3) pe_int (fun _ _ => rfl)))))))), ?_⟩
    refine ⟨_, rfl, _, rfl, p, v, S, _, rfl, hB, hK, hv, fun _ Ha ea => ?_, fun hf => ?_⟩
    rotate_left
    · rw [treeB_row hO ht] at hf
      cases hf
    refine ⟨_, rfl, _, rfl, p, v, S, t, rfl, hB.ex ea, hK, hv.ex ea, hO, by omega, fun lz Hb hlz eb hlzb => ?_⟩
    have eab := ea.trans eb
    have hvb := hv.ex eab
    have hBb := hB.ex eab
    obtain ⟨a, rfl, hS⟩ := dt_tupS hvb
    have hlen : ((ofN t.row).map V.int).length = t.size := by rw [List.length_map, ofN_len]; rfl
    have hzl : t.size ≤ sizeLine := Nat.le_trans ht (by decide)
    refine ⟨(by show 1 ≤ sizeLine; decide), fun l0 hl0 => ⟨_, rfl, a, _, rfl, .inr (SqT.of (Ex.new hl0 _ _ hS)), l0, _, _, rfl, rfl, upd_same, by omega, by rw [hlen]; omega, ?_, fun l hl => ?_⟩⟩
    · rw [hlen]
      show 1 * _ ≤ _
      rw [Nat.one_mul]
      exact hzl
    have eR : (List.replicate ((((ofN t.row).map V.int).length : Nat) : Int).toNat [V.int 1]).flatten = List.replicate t.size (V.int 1) := by
      rw [hlen, Int.toNat_natCast]
      clear hlen ht hzl
      generalize t.size = n
      induction n with
      | zero => rfl
      | succ n ih =>
        rw [List.replicate_succ, List.flatten_cons, ih]
        rfl
    rw [eR]
    have e1 : Ex Hb (upd (upd Hb l0 (.lst [.int 1])) l (.lst (List.replicate t.size (V.int 1)))) := (Ex.new hl0).trans (Ex.new hl)
    have hlH : Hb l = none := fresh_back (Ex.new hl0) hl
    have hl1 : (upd (upd Hb l0 (.lst [.int 1])) l (.lst (List.replicate t.size (V.int 1)))) l = some (.lst (List.replicate t.size (V.int 1))) := upd_same
    generalize upd (upd Hb l0 (.lst [.int 1])) l (.lst (List.replicate t.size (V.int 1))) = H1 at e1 hl1
    have evlen : ∀ {H'}, Ex Hb H' → Ev (tCB (fun xs H Q => ∃ p ys, xs = [.ref p] ∧ (SqL K H p ys ∨ SqT K H p ys) ∧ Q (.int ys.length) H) (tCons (tVar 1) tNil)) [some (.ref p), some (.ref a), some (.ref lz), some (.ref l), none, none] H' (.int (t.size : Int)) := fun {H'} e => by
      have h := ev_ofI (K := K) (M := MF) (evd_lenT (K := K) (M := MF) (σ := [some (.ref p), some (.ref a), some (.ref lz), some (.ref l), none, none]) (ta := tCons (tVar 1) tNil) (eva_cons (evd_var (d := rowD t) rfl (hvb.ex e)) eva_nil))
      rw [List.length_map, ofN_len] at h
      exact h
    refine q_forRev (evlen e1) (show t.size ≤ 100000 by omega) (fun i σ' H' => Ex Hb H' ∧ ∃ u4 u5, σ' = [some (.ref p), some (.ref a), some (.ref lz), some (.ref l), u4, u5] ∧ H' l = some (.lst (List.replicate (t.size - i) (V.int 1) ++ nums (highsF (Tr.suf (t.size - i) [t])))))
      (fun H2 e2 => ⟨e1.trans e2, none, none, rfl, ?_⟩) ?_ ?_
    · rw [e2 _ _ hl1, Nat.sub_zero, Tr.suf_nil.mpr (by rw [Tr.size_one]; exact Nat.le_refl _)]
      show some (HO.lst _) = some (HO.lst (_ ++ []))
      rw [List.append_nil]
    · rintro i σ' H2 hi ⟨e2, u4, u5, rfl, hl2⟩
      have hpN : t.size - 1 - i < Tr.sizeF [t] := by rw [Tr.size_one]; omega
      obtain ⟨u, us, hu, hroot⟩ := Tr.suf_cons hpN
      generalize hp : t.size - 1 - i = p' at hpN hu hroot
      have e0 : t.size - i = p' + 1 := by omega
      have hOu : OkT S u := okT_suf hO hu
      have hsuc : Tr.suf (p' + 1) [t] = u.kids ++ us := by rw [Tr.suf_succ, hu]; rfl
      rw [e0, hsuc, List.replicate_succ'] at hl2
      refine evd_kidst (K := K) (σ := [some (.ref p), some (.ref a), some (.ref lz), some (.ref l), some (.int (p' : Int)), u5]) (n := p') rfl rfl rfl (hBb.ex e2) hK (hvb.ex e2) (e2 _ _ hlzb) hO (evd_var (i := 4) rfl (.int _)) hu H2 (Ex.refl _) _ fun lk ys ds H3 hlk e3 hlk3 dys pds => ?_
      subst pds
      have ey : ys = nums (kst p' u) := by
        have := Dts.ints _ dys
        rw [this]
        unfold nums ofN
        rw [List.map_map]
        rfl
      subst ey
      have e23 := e2.trans e3
      have hl3 := e3 _ _ hl2
      have hne : lk ≠ l := (ne_of_none hl2 hlk).symm
      refine ⟨lk, rfl, ⟨_, sq_of hlk3⟩, for_list (K := K) (a := lk) (xs := nums (kst p' u)) (fun j σ' H' => Ex Hb H' ∧ H' lk = some (.lst (nums (kst p' u))) ∧ ∃ u5, σ' = [some (.ref p), some (.ref a), some (.ref lz), some (.ref l), some (.int (p' : Int)), u5] ∧ H' l = some (.lst (List.replicate p' (V.int 1) ++ V.int ((1 + maxH (u.kids.take j) : Nat) : Int) :: nums (highsF (u.kids ++ us)))))
        ⟨e23, hlk3, _, rfl, ?_⟩ (fun j σ' H' _ h => sq_of h.2.1) ?_ ?_⟩
      · rw [hl3, List.append_assoc]
        rfl
      · rintro j x σ'' H4 hx ⟨e4, hlk4, u6, rfl, hl4⟩
        obtain ⟨hjx, _⟩ := List.getElem?_eq_some_iff.mp hx
        rw [nums_len, kst_len] at hjx
        rw [nums_at (kst_at hjx)] at hx
        cases hx
        have hk : u.kids[j]? = some (u.kids[j]'hjx) := List.getElem?_eq_getElem _
        generalize u.kids[j]'hjx = k at hk
        have hs := highsF_at hk (highsF us)
        rw [← highsF_app] at hs
        have hd4 : Dts K MF H4 (List.replicate p' (V.int 1) ++ V.int ((1 + maxH (u.kids.take j) : Nat) : Int) :: nums (highsF (u.kids ++ us))) (List.replicate p' (PyData.int 1) ++ PyData.int ((1 + maxH (u.kids.take j) : Nat) : Int) :: (ofN (highsF (u.kids ++ us))).map PyData.int) := by
          refine Dts.append ?_ (.cons (.int _) (nums_dts _))
          generalize p' = n
          induction n with
          | zero => exact .nil
          | succ n ih => exact .cons (.int _) ih
        have hdl : Dt K MF H4 (.ref l) (.list (List.replicate p' (PyData.int 1) ++ PyData.int ((1 + maxH (u.kids.take j) : Nat) : Int) :: (ofN (highsF (u.kids ++ us))).map PyData.int)) := .lst hl4 (fun h => h) hd4
        have at1 : (List.replicate p' (PyData.int 1) ++ PyData.int ((1 + maxH (u.kids.take j) : Nat) : Int) :: (ofN (highsF (u.kids ++ us))).map PyData.int)[p']? = some (PyData.int ((1 + maxH (u.kids.take j) : Nat) : Int)) := by
          rw [List.getElem?_append_right (by rw [List.length_replicate]; exact Nat.le_refl _), List.length_replicate, Nat.sub_self]
          rfl
        have at2 : (List.replicate p' (PyData.int 1) ++ PyData.int ((1 + maxH (u.kids.take j) : Nat) : Int) :: (ofN (highsF (u.kids ++ us))).map PyData.int)[p' + 1 + Tr.sizeF (u.kids.take j)]? = some (PyData.int (k.high : Int)) := by
          rw [List.getElem?_append_right (by rw [List.length_replicate]; omega), List.length_replicate, show p' + 1 + Tr.sizeF (u.kids.take j) - p' = Tr.sizeF (u.kids.take j) + 1 by omega, List.getElem?_cons_succ, List.getElem?_map, ofN_at hs]
          rfl
        refine s_setP (K := K) (M := MF) (j := p') (P := (· = .int _)) hl4 rfl rfl (by rw [List.length_append, List.length_replicate, List.length_cons]; omega)
          (evd_max2 (evd_ixL (j := p') (evd_var (i := 3) rfl hdl) (evd_var (i := 4) rfl (.int _)) rfl at1) (evd_add (evd_ixL (j := p' + 1 + Tr.sizeF (u.kids.take j)) (evd_var (i := 3) rfl hdl) (evd_var (i := 5) rfl (.int _)) rfl at2) evd_int)) fun v d H5 e5 dv pd => ?_
        subst pd
        cases dv
        refine ⟨Ex.mut (e4.trans e5) hlH, by rw [upd_ne hne]; exact e5 _ _ hlk4, _, rfl, ?_⟩
        have hm : (if (k.high : Int) + 1 > ((1 + maxH (u.kids.take j) : Nat) : Int) then (k.high : Int) + 1 else ((1 + maxH (u.kids.take j) : Nat) : Int)) = ((1 + maxH (u.kids.take (j + 1)) : Nat) : Int) := by
          rw [Tr.take_snoc hk, maxH_snoc]
          split <;> omega
        rw [upd_same, hm, List.set_append_right _ _ (by rw [List.length_replicate]; exact Nat.le_refl _), List.length_replicate, Nat.sub_self, List.set_cons_zero]
      · rintro σ'' H4 ⟨e4, hlk4, u6, rfl, hl4⟩
        refine ⟨e4, _, _, rfl, ?_⟩
        rw [hl4, nums_len, kst_len, List.take_length, ← high_eq, show t.size - (i + 1) = p' by omega, hu, highsF_cons, highs_eq, List.cons_append, ← highsF_app]
        rfl
    · rintro σ' H2 ⟨e2, u4, u5, rfl, hl2⟩
      rw [Nat.sub_self] at hl2
      have hl2 : H2 l = some (.lst (nums (highs t))) := by
        rw [hl2]
        show some (HO.lst (List.replicate 0 (V.int 1) ++ nums (highsF [t]))) = _
        rw [highsF_cons, List.replicate_zero, List.nil_append]
        show some (HO.lst (nums (highs t ++ []))) = _
        rw [List.append_nil]
      have h0 : ((ofN (highs t)).map PyData.int)[0]? = some (.int (t.high : Int)) := by
        rw [highs_eq]
        rfl
      refine s_retP (K := K) (M := MF) (evd_ixL (j := 0) (evd_var (i := 3) rfl (.lst hl2 (fun h => h) (nums_dts _))) evd_int rfl h0) fun x d H3 e3 dx pd => ?_
      subst pd
      cases dx
      exact q H3 (eab.trans (e2.trans e3))
end
end TH
set_option maxRecDepth 100000
set_option maxHeartbeats 4000000
namespace TH
open PySem L2 Evl
abbrev sParts : Stmt := top 15
section
variable {K : PySem.W.Frag} {M M' : Addr → Prop} {H H1 H' : Hp}
theorem dts_tups : ∀ {ls : List (List Int)} {xs : List V}, Dts K M H xs (ls.map tupI) → Dts K M' H xs (ls.map tupI)
  | [], _, .nil => .nil
  | l :: ls, _, .cons h r => .cons (dt_any h) (dts_tups r)
theorem dts_pairs : ∀ {ls : List (Int × Int)} {xs : List V}, Dts K M H xs (ls.map pairD) → Dts K M' H xs (ls.map pairD)
  | [], _, .nil => .nil
  | l :: ls, _, .cons h r => .cons (dt_any (ns := [l.1, l.2]) h) (dts_pairs r)
theorem dts_rows : ∀ {ts : List Tr} {xs : List V}, Dts K M H xs (ts.map rowD) → Dts K M' H xs (ts.map rowD)
  | [], _, .nil => .nil
  | t :: ts, _, .cons h r => .cons (dt_any h) (dts_rows r)
theorem dts_same {x : V} {d : PyData} (h : Dt K M H x d) : ∀ n, Dts K M H (List.replicate n x) (List.replicate n d)
  | 0 => .nil
  | n + 1 => .cons h (dts_same h n)
end
theorem s_retOp {r : R2} {ta tb : TE} {σ : L2.St} {H : Hp} {D : Ends} (h : ta σ H fun x H1 => tb σ H1 fun y H2 => r x y H2 D.rt) : tRet (tOp r ta tb) D σ H := h
section
variable {P : Program} {w : World} {K : PySem.W.Frag} {mg : Str → Option Value} {base : Heap} {C CT : Addr}
/-! ### places -/
abbrev nPlaces : List Str := ["book", "tree", "sizes", "found", "start", "number", "kid"]
theorem scPlaces : FnScope nPlaces ["book", "tree"] (defScope sPlaces) := ⟨rfl, rfl, rfl, by decide +kernel, rfl, by decide +kernel, by decide +kernel⟩
theorem ok_places {f : Addr} {fd : FuncData} (F : Fun K "places" "places" sPlaces f fd) (G : Glob mg) (GS : GlobS mg) (B1 : OneX P w K mg base "check_tree" 4 ["book", "tree"] (spCheck K C CT)) (B2 : OneF P w K mg base "sizes_of" 2 ["book", "row"] (spSizes K C)) (B3 : OneF P w K mg base "kid_starts" 2 ["book", "row", "sizes", "start"] (spKidSt K C)) :
    FnOk P w K mg base (L2.CX P w) 5 f fd ["book", "tree"] (spPlaces K C) := by
  obtain ⟨f1, d1, m1, k1, g1, b1⟩ := B1
  obtain ⟨f2, d2, m2, k2, g2, b2⟩ := B2
  obtain ⟨f3, d3, m3, k3, g3, b3⟩ := B3
  refine F.okX scPlaces (fun vs H Q E h => ?_) (fun cdv A outer s H vs Q E hr h => ?_)
  · obtain ⟨p, v, S, t, rfl, _⟩ := h
    rfl
  · obtain ⟨p, v, S, t, rfl, hB, hK, hv, hO, ht, q⟩ := h
    have hr2 : Room 2 _ := hr.mono (show 2 ≤ 4 by decide)
    refine ⟨_, pss_cons (ps_expr (pe_call (E := E) g1 hr rfl m1 k1 b1 .nil (passes_call (takes_of rfl rfl rfl rfl) fun _ _ _ _ h => h) (pa_cons (pv 0) (pa_cons (pv 1) pa_nil))))
      (PSs.nox (pss_cons (ps_set (i := 2) scPlaces.nd rfl (.inl rfl) (pe_call g2 hr2 rfl m2 k2 b2 .nil pass0 (pa_cons (pv 0) (pa_cons (pv 1) pa_nil))))
      (pss_cons (ps_set (i := 3) scPlaces.nd rfl (.inl rfl) (pe_op op_rep (pe_lst (pa_cons (pe_tup pa_nil) pa_nil)) (pe_callB call_len_seq (by rfl) G.len PySem.boot_len (pa_cons (pv 1) pa_nil))))
      (pss_cons (ps_for PassesOwn.never rfl (pi_range1 rfl G.range (pa_cons (pe_callB call_len_seq (by rfl) G.len PySem.boot_len (pa_cons (pv 1) pa_nil)) pa_nil)) (pg_name (i := 4) scPlaces.nd rfl (.inl rfl))
        (pss_one (ps_for PassesOwn.never rfl (pi_enum (by rfl) GS.enumerate (pa_cons (pe_call g3 hr2 rfl m3 k3 b3 .nil pass0 (pa_cons (pv 0) (pa_cons (pv 1) (pa_cons (pv 2) (pa_cons (pv 4) pa_nil))))) pa_nil)) (pg_tup rfl (pgs_cons (pg_name (i := 5) scPlaces.nd rfl (.inl rfl)) (pgs_cons (pg_name (i := 6) scPlaces.nd rfl (.inl rfl)) pgs_nil)))
          (pss_one (ps_asg (pe_op op_catA (pe_ix ix_list (pv 3) (pv 4) (fun _ _ => rfl)) (pe_tup (pa_cons (pv 5) pa_nil))) (pg_sub (pv 3) (pv 6) set_list))))))
      (pss_one (ps_ret (pv 3))))))), ?_⟩
    refine ⟨_, rfl, _, rfl, p, v, S, _, rfl, hB, hK, hv, fun _ Ha ea => ?_, fun hf => ?_⟩
    rotate_left
    · rw [treeB_row hO ht] at hf
      cases hf
    refine ⟨_, rfl, _, rfl, p, v, S, t, rfl, hB.ex ea, hK, hv.ex ea, hO, by omega, fun lz Hb hlz eb hlzb => ?_⟩
    have eab := ea.trans eb
    have hvb := hv.ex eab
    have hBb := hB.ex eab
    obtain ⟨a, rfl, hS⟩ := dt_tupS hvb
    have hlen : ((ofN t.row).map V.int).length = t.size := by rw [List.length_map, ofN_len]; rfl
    have hzl : t.size ≤ sizeLine := Nat.le_trans ht (by decide)
    refine ⟨(by decide), fun t0 h0 => ⟨(by show 1 ≤ sizeLine; decide), fun l0 hl0 => ⟨_, rfl, a, _, rfl, .inr (SqT.of (((Ex.new h0).trans (Ex.new hl0)) _ _ hS)), l0, _, _, rfl, rfl, upd_same, by omega, by rw [hlen]; omega, ?_, fun l hl => ?_⟩⟩⟩
    · rw [hlen]
      show 1 * _ ≤ _
      rw [Nat.one_mul]
      exact hzl
    have eR : (List.replicate ((((ofN t.row).map V.int).length : Nat) : Int).toNat [V.ref t0]).flatten = List.replicate t.size (V.ref t0) := by
      rw [hlen, Int.toNat_natCast]
      clear hlen ht hzl
      generalize t.size = n
      induction n with
      | zero => rfl
      | succ n ih =>
        rw [List.replicate_succ, List.flatten_cons, ih]
        rfl
    rw [eR]
    have e01 : Ex Hb (upd (upd Hb t0 (.tup [])) l0 (.lst [.ref t0])) := (Ex.new h0).trans (Ex.new hl0)
    have e1 : Ex Hb (upd (upd (upd Hb t0 (.tup [])) l0 (.lst [.ref t0])) l (.lst (List.replicate t.size (V.ref t0)))) := e01.trans (Ex.new hl)
    have hlH : Hb l = none := fresh_back e01 hl
    have hl1 : (upd (upd (upd Hb t0 (.tup [])) l0 (.lst [.ref t0])) l (.lst (List.replicate t.size (V.ref t0)))) l = some (.lst (List.replicate t.size (V.ref t0))) := upd_same
    have ht1 : (upd (upd (upd Hb t0 (.tup [])) l0 (.lst [.ref t0])) l (.lst (List.replicate t.size (V.ref t0)))) t0 = some (.tup []) := ((Ex.new hl0).trans (Ex.new hl)) _ _ upd_same
    generalize upd (upd (upd Hb t0 (.tup [])) l0 (.lst [.ref t0])) l (.lst (List.replicate t.size (V.ref t0))) = H1 at e1 hl1 ht1
    have d1 : Dts K MT H1 (List.replicate t.size (V.ref t0)) ((fnd0 t 0).map tupI) := by
      rw [fnd0_start, List.map_replicate]
      exact dts_same (.tup (xs := []) ht1 .nil) _
    refine q_forR1 (n := (t.size : Int)) (ea_cons (ev_ofI (K := K) (M := MF) ((evd_lenT (K := K) (M := MF) (ta := tCons (tVar 1) tNil) (eva_cons (evd_var (i := 1) (d := rowD t) rfl (hvb.ex e1)) eva_nil)).mono fun d h => by rw [h, List.length_map, ofN_len]; rfl)) ea_nil) (by omega)
      (fun i σ' H' => Ex Hb H' ∧ ∃ u4 u5 u6 xs, σ' = [some (.ref p), some (.ref a), some (.ref lz), some (.ref l), u4, u5, u6] ∧ H' l = some (.lst xs) ∧ Dts K MT H' xs ((fnd0 t i).map tupI))
      (fun H2 e2 => ⟨e1.trans e2, none, none, none, _, rfl, e2 _ _ hl1, d1.ex e2⟩) ?_ ?_
    · rintro i σ' H2 hi ⟨e2, u4, u5, u6, xs, rfl, hl2, d2⟩
      have hi' : i < t.size := by omega
      obtain ⟨e, r, hst, hat, hsu⟩ := stk_head hi'
      obtain ⟨pl, u⟩ := e
      rw [fnd_start hst] at d2
      have hsu : Tr.suf i [t] = u :: r.map (·.2) := hsu
      refine evd_kidst (K := K) (σ := [some (.ref p), some (.ref a), some (.ref lz), some (.ref l), some (.int (i : Int)), u5, u6]) (n := i) rfl rfl rfl (hBb.ex e2) hK (hvb.ex e2) (e2 _ _ hlzb) hO (evd_var (i := 4) rfl (.int _)) hsu H2 (Ex.refl _) _ fun lk ys ds H3 hlk e3 hlk3 dys pds => ?_
      subst pds
      have ey : ys = nums (kst i u) := by
        have := Dts.ints _ dys
        rw [this]
        unfold nums ofN
        rw [List.map_map]
        rfl
      subst ey
      have e23 := e2.trans e3
      have hl3 := e3 _ _ hl2
      have hne : lk ≠ l := (ne_of_none hl2 hlk).symm
      have kl : (nums (kst i u)).length = u.kids.length := by rw [nums_len, kst_len]
      refine ⟨lk, _, rfl, sq_of hlk3, ?_⟩
      refine for_it walk_enum (fun j σ' H' => Ex Hb H' ∧ H' lk = some (.lst (nums (kst i u))) ∧ ∃ u5 u6 xs, σ' = [some (.ref p), some (.ref a), some (.ref lz), some (.ref l), some (.int (i : Int)), u5, u6] ∧ H' l = some (.lst xs) ∧ Dts K MT H' xs ((fnd t i j (pl, u) r).map tupI))
        ⟨e23, hlk3, _, _, xs, rfl, hl3, d2.ex e3⟩ (fun j σ' H' _ z => sq_of z.2.1) ?_ ?_
      · rintro j y σ' H4 H4' hj ⟨e4, hlk4, v5, v6, xs4, rfl, hl4, d4⟩ ⟨tt, c, d, rfl, htt, rfl, hc, hd⟩
        cases hc
        rw [kl] at hj
        have hd : (nums (kst i u))[j]? = some d := hd
        rw [nums_at (kst_at hj)] at hd
        cases hd
        have hk : u.kids[j]? = some (u.kids[j]'hj) := List.getElem?_eq_getElem _
        generalize u.kids[j]'hj = k at hk
        have e5 : Ex H4 (upd H4 tt (.tup [.int (j : Int), .int ((i + 1 + Tr.sizeF (u.kids.take j) : Nat) : Int)])) := Ex.new htt
        have hl5 := e5 _ _ hl4
        have hlk5 := e5 _ _ hlk4
        have d5 := d4.ex e5
        refine ⟨tt, _, rfl, SqT.of upd_same, rfl, _, _, rfl, _, _, rfl, rfl, ?_⟩
        generalize upd H4 tt (.tup [.int (j : Int), .int ((i + 1 + Tr.sizeF (u.kids.take j) : Nat) : Int)]) = H5 at e5 hl5 hlk5 d5
        have fl := fnd_len (j := j) (e := (pl, u)) (r := r) hi' hsu (Nat.le_of_lt hj)
        have hxl : xs4.length = t.size := by rw [d5.length, List.length_map, fl]
        have hdl : Dt K MF H5 (.ref l) (.list ((fnd t i j (pl, u) r).map tupI)) := .lst hl5 (fun h => h) (dts_tups d5)
        have hat' : ((fnd t i j (pl, u) r).map tupI)[i]? = some (.tuple (pl.map PyData.int)) := by
          rw [List.getElem?_map, fnd_at hi']
          rfl
        have hbound : i + 1 + Tr.sizeF (u.kids.take j) < t.size := by
          have h1 := Tr.suf_kid (n := i) hsu hk
          have h2 := (Tr.suf_row h1).2.1
          rw [Tr.size_one] at h2
          have := Tr.size_pos k
          omega
        have hpl : pl.length ≤ 40 := by
          have h1 := (lns_high t []).1 _ (List.mem_of_getElem? hat)
          have h2 := high_size t
          have h3 : pl.length + 1 ≤ 0 + t.high := h1
          omega
        refine s_setP (K := K) (M := MF) (j := i + 1 + Tr.sizeF (u.kids.take j)) (P := (· = tupI (pl ++ [(j : Int)]))) hl5 rfl rfl (by rw [hxl]; exact hbound)
          ((evd_catA (ds := pl.map PyData.int) (es := [.int (j : Int)]) (evd_ixL (j := i) (evd_var (i := 3) rfl hdl) (evd_var (i := 4) rfl (.int _)) rfl hat') (evd_tup (eva_cons (evd_var (i := 5) rfl (.int (j : Int))) eva_nil) (by show 1 ≤ sizeLine; decide)) (by rw [List.length_map]; show pl.length + 1 ≤ _; omega)).mono fun d h => by
            rw [h]
            unfold tupI
            rw [List.map_append]
            rfl) fun x d H6 e6 dx pd => ?_
        subst pd
        refine ⟨Ex.mut ((e4.trans e5).trans e6) hlH, by rw [upd_ne hne]; exact e6 _ _ hlk5, some (.int (j : Int)), some (.int ((i + 1 + Tr.sizeF (u.kids.take j) : Nat) : Int)), xs4.set (i + 1 + Tr.sizeF (u.kids.take j)) x, rfl, upd_same, ?_⟩
        have := (((d5.ex e6).set (i + 1 + Tr.sizeF (u.kids.take j)) (dt_any (M' := MT) dx)).upd (o := .lst (xs4.set (i + 1 + Tr.sizeF (u.kids.take j)) x)) (e6 _ _ hl5) trivial)
        have hs := fnd_step (r := r) (e := (pl, u)) hi' hk
        rw [← hs, List.map_set]
        exact this
      · rintro σ' H4 ⟨e4, hlk4, v5, v6, xs4, rfl, hl4, d4⟩
        rw [kl] at d4
        have := fnd_end (e := (pl, u)) hst hat
        rw [this] at d4
        exact ⟨e4, _, _, _, xs4, rfl, hl4, d4⟩
    · rintro σ' H2 ⟨e2, u4, u5, u6, xs, rfl, hl2, d2⟩
      rw [Int.toNat_natCast, fnd0_end] at d2
      exact ⟨_, rfl, q l xs H2 (fresh_back eab hlH) (eab.trans e2) hl2 d2⟩
end
end TH
set_option maxRecDepth 100000
set_option maxHeartbeats 4000000
namespace TH
open PySem L2 Evl
/-! ### rank, told anew -/
def spRankN (K : PySem.W.Frag) (C : Addr) : Sp := fun vs H Q _ => ∃ (p : Addr) (v : V) (S : List Sg) (t : Tr), vs = [.ref p, v] ∧ BookAt C MF H p S ∧ KidsOk S ∧ Dt K MF H v (rowD t) ∧ OkT S t ∧ t.size ≤ 100000 ∧
  ∀ l xs H', H l = none → Ex H H' → H' l = some (.lst xs) → Dts K MT H' xs ((pairsT t).map pairD) → Q (.ref l) H'
def spParts (K : PySem.W.Frag) (C : Addr) : Sp := fun vs H Q _ => ∃ (p : Addr) (v : V) (S : List Sg) (t : Tr), vs = [.ref p, v] ∧ BookAt C MF H p S ∧ KidsOk S ∧ Dt K MF H v (rowD t) ∧ OkT S t ∧ t.size ≤ 40 ∧
  ∀ l xs (us : List Tr) H', H l = none → Ex H H' → H' l = some (.lst xs) → Dts K MT H' xs (us.map rowD) → us.Pairwise ltT → (∀ u, u ∈ us ↔ u ∈ subs t) → Q (.ref l) H'
/-! ### a dict of rows -/
def keyOf (u : Tr) : List Key := (ofN u.row).map Sum.inl
def kvsOf (us : List Tr) : List (List Key × V) := us.map fun u => (keyOf u, V.bl true)
theorem inl_inj : ∀ {as bs : List Int}, as.map (Sum.inl : Int → Key) = bs.map Sum.inl → as = bs
  | [], [], _ => rfl
  | [], b :: bs, h => by cases h
  | a :: as, [], h => by cases h
  | a :: as, b :: bs, h => by
    rw [List.map_cons, List.map_cons] at h
    injection h with h1 h2
    injection h1 with h1
    rw [h1, inl_inj h2]
theorem keyOf_inj {S : List Sg} {t u : Tr} (ht : OkT S t) (hu : OkT S u) (h : keyOf t = keyOf u) : t = u := row_keyL ht hu (inl_inj h)
theorem putK_us {S : List Sg} {us : List Tr} {u : Tr} (hu : OkT S u) (ho : ∀ x ∈ us, OkT S x) : ∃ us', putK (kvsOf us) (keyOf u) (.bl true) = kvsOf us' ∧ (us.Nodup → us'.Nodup) ∧ (∀ x, x ∈ us' ↔ x ∈ us ∨ x = u) ∧ us'.length ≤ us.length + 1 := by
  have hany : ((kvsOf us).any fun kv => decide (kv.1 = keyOf u)) = true ↔ u ∈ us := by
    rw [List.any_eq_true]
    constructor
    · rintro ⟨kv, hkv, e⟩
      obtain ⟨x, hx, rfl⟩ := List.mem_map.mp hkv
      have e := of_decide_eq_true e
      rw [← keyOf_inj (ho x hx) hu e]
      exact hx
    · intro h
      exact ⟨_, List.mem_map.mpr ⟨u, h, rfl⟩, decide_eq_true rfl⟩
  by_cases h : u ∈ us
  · refine ⟨us, ?_, id, fun x => ⟨.inl, fun hx => hx.elim id fun e => by rw [e]; exact h⟩, Nat.le_succ _⟩
    unfold putK
    rw [if_pos (hany.mpr h)]
    unfold kvsOf
    rw [List.map_map]
    refine List.map_congr_left fun x _ => ?_
    show (if keyOf x = keyOf u then (keyOf x, V.bl true) else (keyOf x, V.bl true)) = _
    split <;> rfl
  · refine ⟨us ++ [u], ?_, fun nd => ?_, fun x => ?_, by rw [List.length_append]; exact Nat.le_refl _⟩
    · unfold putK
      rw [if_neg (fun z => h (hany.mp z))]
      unfold kvsOf
      rw [List.map_append]
      rfl
    · refine List.nodup_append.mpr ⟨nd, by simp, fun a ha b hb e => ?_⟩
      rw [List.mem_singleton.mp hb] at e
      rw [e] at ha
      exact h ha
    · rw [List.mem_append, List.mem_singleton]
theorem kV_key (u : Tr) : (keyOf u).map kV = (ofN u.row).map V.int := by
  unfold keyOf
  rw [List.map_map]
  rfl
section
variable {K : PySem.W.Frag} {M M' : Addr → Prop} {H H1 H' : Hp} {σ : L2.St} {ta tb te tl : TE} {tt : TT} {g : TG} {vs : List Nat} {D : Ends} {tz tu : TS} {C p : Addr} {S : List Sg} {E : XK}
/-- a comprehension over the keys of such a dict -/
theorem evn_lcT {d : Addr} {o : Obj} {us : List Tr} {i : Nat} (F : Tr → PyData) (ok : Ok M H) (hs : σ[i]? = some (some (.ref d))) (hd : H d = some (.frz o (.dT (kvsOf us)))) (hz : us.length < sizeLine)
    (hst : ∀ (M' : Addr → Prop) (u : Tr) (x : V) (H' : Hp), (∀ v d, Dt K M H v d → Dt K M' H' v d) → Ok M' H' → u ∈ us → Ex H H' → Dt K M' H' x (rowD u) →
      ∀ Qg : L2.St → Hp → Prop, (∀ σ2 H2, Ex H' H2 → Turned K M' σ vs tt te true (· = F u) σ2 H2 → Qg σ2 H2) → g x (wipe σ vs) H' Qg) :
    EvNew K M (tLc (iKeys (tVar i)) g tt te vs) σ H (· = us.map F) := fun H0 e Q q =>
  ⟨_, hs, d, o, rfl, .inr ⟨kvsOf us, e _ _ hd, fun A hA => by
    have hw : Walk (Itkt d o (kvsOf us)) us.length (fun H => H d = some (.frz o (.dT (kvsOf us)))) (fun i H x H' => H' = H ∧ ∃ (k : List Key) (v : V) (q : Addr), (kvsOf us)[i]? = some (k, v) ∧ x = .ref q ∧ H q = some (.tup (k.map kV))) := by
      have h := walk_keysT (d := d) (o := o) (kvs := kvsOf us)
      unfold kvsOf at h ⊢
      rw [List.length_map] at h
      exact h
    refine lc_data (K := K) (σ := σ) (vs := vs) us hw (ok.ex e) hA hz (fun _ => true) (fun u e => e = F u) (fun H e2 => e2 _ _ (e _ _ hd)) (fun M' i u x H2 H' hm ok' hu e2 y Qg qg => ?_) (fun H2 es e2 dd pr => ?_)
    · obtain ⟨rfl, k, v, c, hk, rfl, hc⟩ := y
      unfold kvsOf at hk
      rw [List.getElem?_map, hu] at hk
      cases hk
      rw [kV_key] at hc
      exact hst M' u _ _ (fun v d h => (hm v d (h.ex e)).ex e2) ok' (List.mem_of_getElem? hu) (e.trans e2) (dt_of_tup hc) Qg qg
    · cases dd with
      | lst w1 w2 w3 => exact q A _ es H2 hA e2 w1 w3 (by rw [paired_map pr, filter_all])⟩⟩
theorem evn_rank {i : Nat} {v : V} {t : Tr} (h0 : σ[0]? = some (some (.ref p))) (h1 : σ[i]? = some (some v)) (hB : BookAt C MF H p S) (hK : KidsOk S) (hv : Dt K MF H v (rowD t)) (hO : OkT S t) (ht : t.size ≤ 100000) :
    EvNew K M (tCall (spRankN K C) [] E (tCons (tVar 0) (tCons (tVar i) tNil))) σ H (· = (pairsT t).map pairD) := fun H1 e Q q =>
  ⟨_, h0, _, h1, p, v, S, t, rfl, hB.ex e, hK, hv.ex e, hO, ht, fun l xs H2 hl e2 hl2 dx => q l xs _ H2 hl e2 hl2 (dts_pairs dx) rfl⟩
end
def sndD : PyData → PyData
  | .tuple [_, b] => b
  | _ => .none
section
variable {P : Program} {w : World} {K : PySem.W.Frag} {mg : Str → Option Value} {base : Heap} {C CT : Addr}
theorem ok_rankN {f : Addr} {fd : FuncData} (F : Fun K "rank" "rank" sRank f fd) (GZ : GlobZ mg) (B : OneF P w K mg base "sizes_of" 2 ["book", "row"] (spSizes K C)) : FnOk P w K mg base CX0 3 f fd ["book", "row"] (spRankN K C) := by
  obtain ⟨f1, d1, m1, k1, g1, b1⟩ := B
  refine F.ok scRank (fun vs H Q E h => ?_) (fun cdv A outer s H vs Q E hr h => ?_)
  · obtain ⟨p, v, S, t, rfl, _⟩ := h
    rfl
  · obtain ⟨p, v, S, t, rfl, hB, hK, hv, hO, hN, q⟩ := h
    refine ⟨_, pss_one (ps_ret (pe_listzip (by rfl) GZ.list (by rfl) GZ.zip rfl (pa_cons (pe_call g1 hr rfl m1 k1 b1 .nil pass0 (pa_cons (pv 0) (pa_cons (pv 1) pa_nil))) (pa_cons (pv 1) pa_nil)))), ?_⟩
    obtain ⟨a, rfl, hS⟩ := dt_tupS hv
    have hlen : ((ofN t.row).map V.int).length = t.size := by rw [List.length_map, ofN_len]; rfl
    have hz : (nums t.sizes).length = t.size := by rw [nums_len, Tr.sizes_len]
    refine ⟨_, rfl, _, rfl, p, .ref a, S, t, rfl, hB, hK, hv, hO, hN, fun l H1 hl e1 hl1 => ⟨_, rfl, l, a, nums t.sizes, (ofN t.row).map V.int, rfl, sq_of hl1, SqT.of (e1 _ _ hS), by rw [hz, hlen], by rw [hlen]; exact Tr.size_pos t, by rw [hlen]; exact hN, fun l2 ts H2 e2 hl2 hts hp => ?_⟩⟩
    exact q l2 _ H2 (fresh_back e1 hl2) (e1.trans e2) hts (pairs_dts hp)
abbrev nParts : List Str := ["book", "tree", "found", "start", "size", "ranked", "part", "pair"]
theorem scParts : FnScope nParts ["book", "tree"] (defScope sParts) := ⟨rfl, rfl, rfl, by decide +kernel, rfl, by decide +kernel, by decide +kernel⟩
theorem ok_parts {f : Addr} {fd : FuncData} (F : Fun K "parts" "parts" sParts f fd) (G : Glob mg) (GS : GlobS mg) (hso : mg "sorted" = none) (B1 : OneX P w K mg base "check_tree" 4 ["book", "tree"] (spCheck K C CT)) (B2 : OneF P w K mg base "sizes_of" 2 ["book", "row"] (spSizes K C)) (B3 : OneF P w K mg base "rank" 3 ["book", "row"] (spRankN K C)) :
    FnOk P w K mg base (L2.CX P w) 5 f fd ["book", "tree"] (spParts K C) := by
  obtain ⟨f1, d1, m1, k1, g1, b1⟩ := B1
  obtain ⟨f2, d2, m2, k2, g2, b2⟩ := B2
  obtain ⟨f3, d3, m3, k3, g3, b3⟩ := B3
  refine F.okX scParts (fun vs H Q E h => ?_) (fun cdv A outer s H vs Q E hr h => ?_)
  · obtain ⟨p, v, S, t, rfl, _⟩ := h
    rfl
  · obtain ⟨p, v, S, t, rfl, hB, hK, hv, hO, ht, q⟩ := h
    have hr2 : Room 2 _ := hr.mono (show 2 ≤ 4 by decide)
    have hr3 : Room 3 _ := hr.mono (show 3 ≤ 4 by decide)
    have hu4 := hu64 hr
    have hu1 := hu_of hr
    refine ⟨_, pss_cons (ps_expr (pe_call (E := E) g1 hr rfl m1 k1 b1 .nil (passes_call (takes_of rfl rfl rfl rfl) fun _ _ _ _ h => h) (pa_cons (pv 0) (pa_cons (pv 1) pa_nil))))
      (PSs.nox (pss_cons (ps_set (i := 2) scParts.nd rfl (.inl rfl) pe_dnewT)
      (pss_cons (ps_for PassesOwn.never rfl (pi_enum (by rfl) GS.enumerate (pa_cons (pe_call g2 hr2 rfl m2 k2 b2 .nil pass0 (pa_cons (pv 0) (pa_cons (pv 1) pa_nil))) pa_nil)) (pg_tup rfl (pgs_cons (pg_name (i := 3) scParts.nd rfl (.inl rfl)) (pgs_cons (pg_name (i := 4) scParts.nd rfl (.inl rfl)) pgs_nil)))
          (pss_one (ps_dput hu1 (pv 2) (pe_slice sl_tupA (pv 1) (po_some (pv 3)) (po_some (pe_op op_add (pv 3) (pv 4)))) pe_bl rfl)))
      (pss_cons (ps_set (i := 5) scParts.nd rfl (.inl rfl) (pe_callB (cr_sortedD hu4) (by rfl) hso (by decide +kernel) (pa_cons (pe_lock (pe_lc (own := [("part", 6)]) (g := gName 6) (tt := tYes) rfl scParts.nd (pi_keys (pv 2))
            (blkOk_by (N := nParts) (sc := defScope sParts) (by decide +kernel)) (fun _ _ _ _ _ => pg_name (i := 6) scParts.nd rfl (.inl rfl)) (fun _ _ _ _ _ => pts_nil)
            (fun _ _ _ _ _ => pe_tup (pa_cons (pe_call g3 hr3 rfl m3 k3 b3 .nil pass0 (pa_cons (pv 0) (pa_cons (pv 6) pa_nil))) (pa_cons (pv 6) pa_nil))))) pa_nil)))
      (pss_one (ps_ret (pe_lc (own := [("pair", 7)]) (g := gName 7) (tt := tYes) rfl scParts.nd (pi_list (pv 5))
            (blkOk_by (N := nParts) (sc := defScope sParts) (by decide +kernel)) (fun _ _ _ _ _ => pg_name (i := 7) scParts.nd rfl (.inl rfl)) (fun _ _ _ _ _ => pts_nil)
            (fun _ _ _ _ _ => pe_ix (ix_tupK (K := K) rfl) (pv 7) pe_int (fun _ _ => rfl))))))))), ?_⟩
    refine ⟨_, rfl, _, rfl, p, v, S, _, rfl, hB, hK, hv, fun _ Ha ea => ?_, fun hf => ?_⟩
    rotate_left
    · rw [treeB_row hO ht] at hf
      cases hf
    refine fun d hd => ?_
    have hdH : H d = none := fresh_back ea hd
    have e1 : Ex H (upd Ha d (.dT [])) := ea.trans (Ex.new hd)
    have hd1 : (upd Ha d (.dT [])) d = some (.dT (kvsOf [])) := upd_same
    generalize upd Ha d (.dT []) = H1 at e1 hd1
    refine ⟨_, rfl, _, rfl, p, v, S, t, rfl, hB.ex e1, hK, hv.ex e1, hO, by omega, fun lz H2 hlz e2 hlz2 => ?_⟩
    have e12 := e1.trans e2
    refine ⟨lz, _, rfl, sq_of hlz2, ?_⟩
    have zl : (nums t.sizes).length = t.size := by rw [nums_len, Tr.sizes_len]
    have sl : (subs t).length = t.size := by
      unfold subs
      rw [List.length_map]
      exact lnsE_len ([], t)
    have okS : ∀ x ∈ subs t, OkT S x ∧ x.size ≤ t.size := fun x hx => by
      obtain ⟨e, he, rfl⟩ := List.mem_map.mp hx
      exact lnsE_ok t [] hO e he
    refine for_it walk_enum (fun i σ' H' => Ex H H' ∧ H' lz = some (.lst (nums t.sizes)) ∧ ∃ u3 u4 us, σ' = [some (.ref p), some v, some (.ref d), u3, u4, none, none, none] ∧ H' d = some (.dT (kvsOf us)) ∧ us.Nodup ∧ (∀ u, u ∈ us ↔ u ∈ (subs t).take i) ∧ us.length ≤ i)
      ⟨e12, hlz2, none, none, [], rfl, e2 _ _ hd1, List.nodup_nil, fun u => by rw [List.take_zero], Nat.le_refl _⟩ (fun i σ' H' _ z => sq_of z.2.1) ?_ ?_
    · rintro i y σ' H3 H3' hi ⟨e3, hlz3, u3, u4, us, rfl, hd3, nd, hmem, hul⟩ ⟨tt, c, x, rfl, htt, rfl, hc, hx⟩
      cases hc
      rw [zl] at hi
      obtain ⟨e, r, hst, hat, hsu⟩ := stk_head hi
      have hx : (nums t.sizes)[i]? = some x := hx
      rw [nums_at (Tr.sizes_at hsu)] at hx
      cases hx
      have e4 : Ex H3 (upd H3 tt (.tup [.int (i : Int), .int (e.2.size : Int)])) := Ex.new htt
      have hlz4 := e4 _ _ hlz3
      have hd4 := e4 _ _ hd3
      refine ⟨tt, _, rfl, SqT.of upd_same, rfl, _, _, rfl, _, _, rfl, rfl, ?_⟩
      generalize upd H3 tt (.tup [.int (i : Int), .int (e.2.size : Int)]) = H4 at e4 hlz4 hd4
      have e34 := e3.trans e4
      refine ⟨_, rfl, (EvP.mono (evd_slT (K := K) (M := MF) (σ := [some (.ref p), some v, some (.ref d), some (.int (i : Int)), some (.int (e.2.size : Int)), none, none, none]) (ds := (ofN t.row).map PyData.int) (lo := some (i : Int)) (hi := some ((i + e.2.size : Nat) : Int)) (evd_var (i := 1) (d := rowD t) rfl (hv.ex e34)) (evo_some (evd_var (i := 3) rfl (.int _)))
          (evo_some ((evd_add (evd_var (i := 3) rfl (.int _)) (evd_var (i := 4) rfl (.int _))).mono fun d h => by rw [h, Int.natCast_add]))) fun d h => h.trans (rowD_cut hsu)).use fun y z H5 e5 dy pz => ?_⟩
      subst pz
      obtain ⟨b, rfl, hb⟩ := dt_tupS dy
      have hin : (subs t)[i]? = some e.2 := by
        unfold subs
        rw [List.getElem?_map, hat]
        rfl
      have hOe := (okS _ (List.mem_of_getElem? hin)).1
      obtain ⟨us', hput, nd', hm', hl'⟩ := putK_us hOe fun x hx => (okS x (List.mem_of_mem_take ((hmem x).mp hx))).1
      have hdp := DPut.t (v := V.bl true) (k := keyOf e.2) (e5 _ _ hd4) (by rw [kV_key]; exact hb) (by unfold kvsOf; rw [List.length_map]; exact Nat.lt_of_le_of_lt (show us.length ≤ 40 by omega) (by decide))
      rw [hput] at hdp
      refine ⟨d, _, rfl, hdp, ?_⟩
      refine ⟨Ex.mut (e34.trans e5) hdH, ?_, _, _, us', rfl, upd_same, nd' nd, fun u => ?_, by omega⟩
      · rw [upd_ne (show lz ≠ d from fun h => by rw [h, hd4] at hlz4; cases hlz4)]
        exact e5 _ _ hlz4
      · rw [hm', hmem, List.take_add_one, hin, List.mem_append]
        show _ ↔ _ ∨ u ∈ [e.2]
        rw [List.mem_singleton]
    · rintro σ' H3 ⟨e3, hlz3, u3, u4, us, rfl, hd3, nd, hmem, hul⟩
      rw [zl, ← sl, List.take_length] at hmem
      rw [zl] at hul
      have okU : ∀ x ∈ us, OkT S x ∧ x.size ≤ t.size := fun x hx => okS x ((hmem x).mp hx)
      refine q_asgN (K := K) (M := MF) (evn_sorted (enc := rkD) (bs := us) lt_rk (fun a ha b hb => ltT_tri (okU a ha).1 (okU b hb).1) nd alike_rk (.inl (.inl fun x hx => by
            obtain ⟨u, _, rfl⟩ := List.mem_map.mp hx
            exact ⟨_, _, rfl⟩)) (fun b => Nat.le_trans (flat_rk b).depth (by decide)) (evp_lock (d := d) (u := .dT (kvsOf us)) hd3 trivial fun od H4 e4 => ?_)) fun l xs ds H4 hl e4 hl4 dxs pds => ?_
      · have eL : Ex H (upd H4 d (.frz od (.dT (kvsOf us)))) := Ex.mut (e3.trans e4) hdH
        have hdL : (upd H4 d (.frz od (.dT (kvsOf us)))) d = some (.frz od (.dT (kvsOf us))) := upd_same
        generalize upd H4 d (.frz od (.dT (kvsOf us))) = HL at eL hdL
        refine (evn_lcT (K := K) (M := MF) (o := od) rkD okF rfl hdL (Nat.lt_of_le_of_lt (show us.length ≤ 40 by omega) (by decide)) (fun M' u x H' hm ok' hu e dx Qg qg => ?_)).isD okF
        refine qg _ H' (Ex.refl _) ⟨rfl, evt_yes, fun _ => ?_⟩
        have hu2 := okU u hu
        exact evd_tup (eva_cons ((evn_rank (i := 6) (M := M') rfl rfl (hB.ex (eL.trans e)) hK (dt_any dx) hu2.1 (by omega)).isD ok') (eva_cons (evd_var (i := 6) rfl dx) eva_nil)) (by show 2 ≤ sizeLine; decide)
      · obtain ⟨us', rfl, pm, so⟩ := pds
        refine s_retN (K := K) (M := MF) (evn_lcL (K := K) (M := MF) (ds := us'.map rkD) (fun _ => true) sndD okF (evd_var (i := 5) rfl (.lst hl4 (fun h => h) dxs)) (by rw [List.length_map, pm.length_eq]; exact Nat.lt_of_le_of_lt (show us.length ≤ 40 by omega) (by decide)) (fun M' d' x' H' hm ok' hd' e dx Qg qg => ?_)) fun l2 xs2 ds2 H5 hl2 e5 hl5 dxs2 pd2 => ?_
        · obtain ⟨u, hu, rfl⟩ := List.mem_map.mp hd'
          refine qg _ H' (Ex.refl _) ⟨rfl, evt_yes, fun _ => ?_⟩
          exact evd_ixT (j := 1) (ds := [listP (pairsT u), rowD u]) (evd_var (i := 7) (d := rkD u) rfl dx) evd_int rfl rfl
        · subst pd2
          rw [filter_all, List.map_map, show us'.map (sndD ∘ rkD) = us'.map rowD from rfl] at dxs2
          exact q l2 xs2 us' H5 (fresh_back (e3.trans e4) hl2) ((e3.trans e4).trans e5) hl5 (dts_rows dxs2) so fun u => (pm.mem_iff).trans (hmem u)
end
end TH
set_option maxRecDepth 100000
set_option maxHeartbeats 4000000
namespace TH
open PySem L2 Evl
abbrev sLines : Stmt := top 33
def lnD (e : Ln) : PyData := .tuple [tupI e.1, rowD e.2]
def spLines (K : PySem.W.Frag) : Sp := fun vs H Q _ => ∃ (M : Addr → Prop) (v z : V) (S : List Sg) (t : Tr), vs = [v, z] ∧ Ok M H ∧ Dt K M H v (.list (S.map sgD)) ∧ KidsOk S ∧ Dt K MF H z (rowD t) ∧ OkT S t ∧ t.size ≤ 40 ∧
  ∀ l xs L H', FullL t L → H l = none → Ex H H' → H' l = some (.lst xs) → Dts K MT H' xs (L.map lnD) → Q (.ref l) H'
section
variable {P : Program} {w : World} {K : PySem.W.Frag} {mg : Str → Option Value} {base : Heap} {C : Addr}
abbrev nLines : List Str := ["_law_signs_here", "_law_row_here", "_law_found", "_law_spot", "_law_place", "_law_some", "_law_number", "_law_kid"]
theorem scLines : FnScope nLines ["_law_signs_here", "_law_row_here"] (defScope sLines) := ⟨rfl, rfl, rfl, by decide +kernel, rfl, by decide +kernel, by decide +kernel⟩
theorem ok_lines {f : Addr} {fd : FuncData} (F : Fun K "_law_lines" "_law_lines" sLines f fd) (G : Glob mg) (GS : GlobS mg) (B : OneF P w K mg base "_law_kids" 1 ["_law_signs_here", "_law_row_here"] (spLKids K)) :
    FnOk P w K mg base CX0 2 f fd ["_law_signs_here", "_law_row_here"] (spLines K) := by
  obtain ⟨f1, d1, m1, k1, g1, b1⟩ := B
  refine F.ok scLines (fun vs H Q E h => ?_) (fun cdv A outer s H vs Q E hr h => ?_)
  · obtain ⟨M, v, z, S, t, rfl, _⟩ := h
    rfl
  · obtain ⟨M, v, z, S, t, rfl, ok, hv, hK, hz, hO, h40, q⟩ := h
    refine ⟨_, pss_cons (ps_par (by rfl) scLines.nd (i := 2) (j := 3) rfl rfl (by decide) rfl rfl (pa_cons (pe_lst (pa_cons (pe_tup (pa_cons (pe_tup pa_nil) (pa_cons (pv 1) pa_nil))) pa_nil)) (pa_cons pe_int pa_nil)) (by rfl))
      (pss_cons (ps_while PassesOwn.never (pt_cmpR op_lt (pv 3) (pe_callB call_len_seq (by rfl) G.len PySem.boot_len (pa_cons (pv 2) pa_nil)) (nomark _))
        (pss_cons (ps_asg (pe_ix ix_list (pv 2) (pv 3) (fun _ _ => rfl)) (pg_tup rfl (pgs_cons (pg_name (i := 4) scLines.nd rfl (.inl rfl)) (pgs_cons (pg_name (i := 5) scLines.nd rfl (.inl rfl)) pgs_nil))))
        (pss_cons (ps_set (i := 3) scLines.nd rfl (.inl rfl) (pe_op op_add (pv 3) pe_int))
        (pss_one (ps_for PassesOwn.never rfl (pi_enum (by rfl) GS.enumerate (pa_cons (pe_call g1 hr rfl m1 k1 b1 .nil pass0 (pa_cons (pv 0) (pa_cons (pv 5) pa_nil))) pa_nil))
            (pg_tup rfl (pgs_cons (pg_name (i := 6) scLines.nd rfl (.inl rfl)) (pgs_cons (pg_name (i := 7) scLines.nd rfl (.inl rfl)) pgs_nil)))
          (pss_one (ps_expr (pe_bm PySem.F.plainAttrs_list PySem.F.slot_list_append PySem.F.type_list_append mt_append (pv 2)
              (pa_cons (pe_tup (pa_cons (pe_op op_catA (pv 4) (pe_tup (pa_cons (pv 6) pa_nil))) (pa_cons (pv 7) pa_nil))) pa_nil)))))))))
      (pss_one (ps_ret (pv 2)))), ?_⟩
    obtain ⟨a, rfl, hS⟩ := dt_tupS hz
    refine ⟨by decide, fun t0 h0 => ⟨_, rfl, by show 2 ≤ sizeLine; decide, fun t1 h1 => ⟨by show 1 ≤ sizeLine; decide, fun l hl => ⟨_, _, rfl, ?_⟩⟩⟩⟩
    have e01 : Ex H (upd (upd H t0 (.tup [])) t1 (.tup [.ref t0, .ref a])) := (Ex.new h0).trans (Ex.new h1)
    have hlH : H l = none := fresh_back e01 hl
    have e1 : Ex H (upd (upd (upd H t0 (.tup [])) t1 (.tup [.ref t0, .ref a])) l (.lst [.ref t1])) := e01.trans (Ex.new hl)
    have hl1 : (upd (upd (upd H t0 (.tup [])) t1 (.tup [.ref t0, .ref a])) l (.lst [.ref t1])) l = some (.lst [.ref t1]) := upd_same
    have d1 : Dts K MT (upd (upd (upd H t0 (.tup [])) t1 (.tup [.ref t0, .ref a])) l (.lst [.ref t1])) [.ref t1] ([(([], t) : Ln)].map lnD) := by
      refine .one (.tup (xs := [.ref t0, .ref a]) ?_ (.cons (.tup (xs := []) ?_ .nil) (.cons (dt_any (hz.ex e1)) .nil)))
      · rw [upd_ne (ne_of_none upd_same hl)]
        exact upd_same
      · rw [upd_ne (ne_of_none (by rw [upd_ne (ne_of_none upd_same h1)]; exact upd_same) hl), upd_ne (ne_of_none upd_same h1)]
        exact upd_same
    generalize upd (upd (upd H t0 (.tup [])) t1 (.tup [.ref t0, .ref a])) l (.lst [.ref t1]) = H1 at e1 hl1 d1
    have hv0 : Dt K (more M l) H v (.list (S.map sgD)) := hv.more hlH
    have ok0 : ∀ {H'}, Ex H H' → H' l ≠ none → Ok (more M l) H' := fun {H'} e n x m => by
      rcases m with m | rfl
      · exact (ok.ex e) x m
      · exact n
    refine q_while (fun k σ' H' => Ex H H' ∧ ∃ (i : Nat) (L : List Ln) (xs : List V) (u4 u5 u6 u7 : Option V), σ' = [some v, some (.ref a), some (.ref l), some (.int (i : Int)), u4, u5, u6, u7] ∧ H' l = some (.lst xs) ∧ Dts K MT H' xs (L.map lnD) ∧ LInv t i L ∧ k = t.size - i)
      t.size ⟨e1, 0, [([], t)], _, none, none, none, none, rfl, hl1, d1, LInv.start t, rfl⟩ ?_
    rintro k σ' H2 ⟨e2, i, L, xs, u4, u5, u6, u7, rfl, hl2, d2, inv, rfl⟩
    have hxl : xs.length = L.length := by rw [d2.length, List.length_map]
    refine ⟨decide ((i : Int) < (L.length : Int)), evt_test (K := K) (M := MF) ((evd_cmp (g := fun i j => decide (i < j)) (evd_var (i := 3) rfl (.int (i : Int))) (evd_lenL (es := L.map lnD) (eva_cons (evd_var (i := 2) rfl (.lst hl2 (fun h => h) d2.flat)) eva_nil))).mono fun d h => by rw [h, List.length_map]), fun hd H3 e3 => ?_, fun hd H3 e3 => ?_⟩
    · have hi : i < L.length := by have := of_decide_eq_true hd; omega
      obtain ⟨e, he⟩ : ∃ e, L[i]? = some e := ⟨_, List.getElem?_eq_getElem hi⟩
      have inv' := inv.step he
      have hLl := inv.len
      have hin : e ∈ lns [] t := by
        refine inv.perm.mem_iff.mp (List.mem_append_right _ ?_)
        rw [List.drop_eq_getElem_cons hi, List.flatMap_cons]
        obtain ⟨_, h⟩ := List.getElem?_eq_some_iff.mp he
        rw [h, lnsE_eq]
        exact List.mem_append_left _ List.mem_cons_self
      obtain ⟨pl, u⟩ := e
      obtain ⟨hOu, hsu⟩ := lnsE_ok t [] hO _ hin
      have hOu : OkT S u := hOu
      have hpl : pl.length ≤ 40 := by
        have h1 : pl.length + 1 ≤ 0 + t.high := (lns_high t []).1 _ hin
        have h2 := high_size t
        omega
      refine ⟨fun σ' H' => Ex H H' ∧ ∃ (L : List Ln) (xs : List V) (u4 u5 u6 u7 : Option V), σ' = [some v, some (.ref a), some (.ref l), some (.int ((i + 1 : Nat) : Int)), u4, u5, u6, u7] ∧ H' l = some (.lst xs) ∧ Dts K MT H' xs (L.map lnD) ∧ LInv t (i + 1) L,
        fun σ2 H4 ⟨e4, L, xs, u4, u5, u6, u7, h1, h2, h3, h4⟩ => ⟨t.size - (i + 1), by omega, e4, i + 1, L, xs, u4, u5, u6, u7, h1, h2, h3, h4, rfl⟩, ?_⟩
      have hl3 := e3 _ _ hl2
      have d3 := d2.ex e3
      have e03 := e2.trans e3
      obtain ⟨x, hx, dx⟩ := d3.at (i := i) (d := lnD (pl, u)) (by rw [List.getElem?_map, he]; rfl)
      cases dx with
      | tup g1 g2 =>
      cases g2 with
      | @cons vp _ _ _ r1 g2 =>
      cases g2 with
      | @cons vu _ _ _ r2 g2 =>
      cases g2
      refine ⟨_, rfl, _, rfl, l, xs, _, _, rfl, rfl, sq_of hl3, atI_nat hx, _, _, rfl, SqT.of g1, rfl, _, _, rfl, _, _, rfl, rfl, ?_⟩
      refine ⟨_, rfl, _, _, rfl, rfl, ?_⟩
      refine ⟨_, rfl, _, rfl, more M l, v, _, S, u, rfl, ok0 e03 (by rw [hl3]; simp), hv0.ex e03, hK, dt_any r2, hOu, fun lk ys H5 hlk e5 hlk5 dys => ⟨lk, ys, rfl, sq_of hlk5, ?_⟩⟩
      have hl5 := e5 _ _ hl3
      have hyl : ys.length = u.kids.length := by rw [dys.length, List.length_map]
      have hk2 := Tr.kids_le u
      have hne : lk ≠ l := (ne_of_none hl3 hlk).symm
      refine for_it walk_enum (fun j σ' H' => Ex H H' ∧ H' lk = some (.lst ys) ∧ Dts K MT H' ys (u.kids.map rowD) ∧ Dt K MT H' vp (tupI pl) ∧ ∃ (xs : List V) (u6 u7 : Option V), σ' = [some v, some (.ref a), some (.ref l), some (.int ((i : Int) + 1)), some vp, some vu, u6, u7] ∧ H' l = some (.lst xs) ∧ Dts K MT H' xs ((L ++ (kidL (pl, u)).take j).map lnD))
        ⟨e03.trans e5, hlk5, dts_rows dys, (dt_any r1).ex e5, xs, u6, u7, rfl, hl5, ?_⟩ (fun j σ' H' _ z => sq_of z.2.1) ?_ ?_
      · rw [List.take_zero, List.append_nil]
        exact d3.ex e5
      · rintro j y σ' H6 H6' hj ⟨e6, hlk6, dys6, dp6, xs6, v6, v7, rfl, hl6, d6⟩ ⟨tt, c, d, rfl, ht, rfl, hc, hd⟩
        cases hc
        have hd : ys[j]? = some d := hd
        have hjn : j < u.kids.length := by rw [← hyl]; exact hj
        have hk : u.kids[j]? = some (u.kids[j]'hjn) := List.getElem?_eq_getElem _
        generalize u.kids[j]'hjn = k at hk
        obtain ⟨dd, hdd, dt⟩ := dys6.get hd
        rw [List.getElem?_map, hk] at hdd
        cases hdd
        have e7 : Ex H6 (upd H6 tt (.tup [.int (j : Int), d])) := Ex.new ht
        have hl7 := e7 _ _ hl6
        have hlk7 := e7 _ _ hlk6
        have d7 := d6.ex e7
        have dt7 := dt.ex e7
        have dp7 := dp6.ex e7
        have dys7 := dys6.ex e7
        refine ⟨tt, _, rfl, SqT.of upd_same, rfl, _, _, rfl, _, _, rfl, rfl, ?_⟩
        generalize upd H6 tt (.tup [.int (j : Int), d]) = H7 at e7 hl7 hlk7 d7 dt7 dp7 dys7
        refine s_appP (K := K) (M := MT) (P := (· = lnD (pl ++ [(j : Int)], k))) hl7 rfl ?_ ?_ fun va da H8 e8 dva pa => ?_
        · refine (evd_tup (eva_cons (evd_catA (ds := pl.map PyData.int) (es := [.int (j : Int)]) (evd_var (i := 4) (d := tupI pl) rfl dp7) (evd_tup (eva_cons (evd_var (i := 6) rfl (.int (j : Int))) eva_nil) (by show 1 ≤ sizeLine; decide)) (by rw [List.length_map]; show pl.length + 1 ≤ _; omega))
            (eva_cons (evd_var (i := 7) rfl dt7) eva_nil)) (by show 2 ≤ sizeLine; decide)).mono fun d h => h.trans ?_
          show PyData.tuple _ = PyData.tuple [.tuple ((pl ++ [(j : Int)]).map PyData.int), rowD k]
          rw [List.map_append]
          rfl
        · rw [d7.length, List.length_map, List.length_append, List.length_take]
          exact Nat.lt_of_le_of_lt (show L.length + _ ≤ 42 by omega) (by decide)
        · subst pa
          have hl8 := e8 _ _ hl7
          have e68 := e7.trans e8
          refine ⟨Ex.mut (e6.trans e68) hlH, by rw [upd_ne hne]; exact e8 _ _ hlk7, (dys7.ex e8).upd hl8 trivial, (dp7.ex e8).upd hl8 trivial, xs6 ++ [va], some (.int (j : Int)), some d, rfl, upd_same, ?_⟩
          rw [Tr.take_snoc (kidL_at (e := (pl, u)) hk), ← List.append_assoc, List.map_append]
          exact ((d7.ex e8).append (.one dva)).upd hl8 trivial
      · rintro σ' H6 ⟨e6, _, _, _, xs6, v6, v7, rfl, hl6, d6⟩
        have hkl := kidL_len (pl, u)
        have hkl : (kidL (pl, u)).length = u.kids.length := hkl
        rw [hyl, ← hkl, List.take_length] at d6
        exact ⟨e6, _, xs6, some vp, some vu, v6, v7, rfl, hl6, d6, inv'⟩
    · have hi : i = L.length := by
        have := of_decide_eq_false hd
        have := inv.le
        omega
      subst hi
      have hl3 := e3 _ _ hl2
      exact ⟨_, rfl, q l xs L H3 inv.full hlH (e2.trans e3) hl3 (d2.ex e3)⟩
end
end TH
set_option maxRecDepth 100000
set_option maxHeartbeats 4000000
namespace TH
open PySem L2 Evl
theorem dts_pick {K : PySem.W.Frag} {M : Addr → Prop} {H : Hp} : ∀ {ts : List Tr} {xs : List V}, Dts K M H xs (ts.map rowD) → ∃ ks : List (Addr × List Int), xs = ks.map (fun p => V.ref p.1) ∧ ks.map (·.2) = ts.map (fun t => ofN t.row) ∧ ∀ p ∈ ks, H p.1 = some (.tup (p.2.map V.int))
  | [], _, .nil => ⟨[], rfl, rfl, fun p h => nomatch h⟩
  | t :: ts, _, .cons h r => by
    obtain ⟨ks, h1, h2, h3⟩ := dts_pick r
    obtain ⟨a, rfl, ha⟩ := dt_tupS h
    refine ⟨(a, ofN t.row) :: ks, by rw [h1]; rfl, by rw [List.map_cons, h2]; rfl, fun p hp => ?_⟩
    rcases List.mem_cons.mp hp with rfl | hp
    · exact ha
    · exact h3 p hp
theorem rows_of_keys {H : Hp} {K : PySem.W.Frag} {M : Addr → Prop} {ts : List Tr} : ∀ {L : List (Addr × List Int)}, (∀ p ∈ L, H p.1 = some (.tup (p.2.map V.int))) → (∀ p ∈ L, ∃ t ∈ ts, p.2 = ofN t.row) → ∃ us : List Tr, L.map (·.2) = us.map (fun t => ofN t.row) ∧ (∀ u ∈ us, u ∈ ts) ∧ Dts K M H (L.map fun p => V.ref p.1) (us.map rowD)
  | [], _, _ => ⟨[], rfl, (fun u h => nomatch h), .nil⟩
  | p :: L, h, hh => by
    obtain ⟨us, h1, h2, h3⟩ := rows_of_keys (K := K) (M := M) (fun q hq => h q (List.mem_cons_of_mem _ hq)) fun q hq => hh q (List.mem_cons_of_mem _ hq)
    obtain ⟨t, ht, e⟩ := hh p List.mem_cons_self
    have hp := h p List.mem_cons_self
    rw [e] at hp
    refine ⟨t :: us, by rw [List.map_cons, List.map_cons, h1, e], fun u hu => ?_, .cons (dt_of_tup hp) h3⟩
    rcases List.mem_cons.mp hu with rfl | hu
    · exact ht
    · exact h2 u hu
section
variable {K : PySem.W.Frag} {M M' : Addr → Prop} {H H1 H' : Hp} {σ : L2.St} {ta tb te tc td tv tm tl : TE} {tt : TT} {g : TG} {vs : List Nat} {tr : TA} {D : Ends} {tz : TS} {E : XK} {S : List Sg} {C CT CP p b : Addr} {P : Program} {w : World}
theorem evp_lrow {mx : Nat} (ok : Ok M H) (hb : Ev tb σ H (.ref b)) (hx : H b = some (Box b)) (hv : EvD K M tv σ H (.list (S.map sgD))) (g : Good S) (hm : EvP K M tm σ H (fun d => ∃ m : Nat, d = .int (m : Int) ∧ 1 ≤ m ∧ m ≤ mx)) (hmx : mx ≤ 1000) :
    EvP K M (tCall (spLRow K) [] E (tCons tb (tCons tv (tCons tm tNil)))) σ H (fun d => ∃ t, d = rowD t ∧ OkT S t ∧ t.size ≤ mx) := fun H1 e Q q =>
  hb H1 e _ fun H2 e2 => hv H2 (e.trans e2) _ fun v d H3 e3 dv pd => hm H3 ((e.trans e2).trans e3) _ fun vm dm H4 e4 dvm pm => by
    subst pd
    obtain ⟨m, rfl, m1, m2⟩ := pm
    cases dvm
    have e04 := ((e.trans e2).trans e3).trans e4
    exact ⟨M, b, v, S, m, rfl, ok.ex e04, e04 _ _ hx, dv.ex e4, g, m1, by omega, fun u t H5 e5 hO hs du => q u _ H5 (((e2.trans e3).trans e4).trans e5) (dt_any du) ⟨t, rfl, hO, by omega⟩⟩
theorem evt_or2 {t u : TT} {c : Bool} (h1 : EvT t σ H false) (h2 : EvT u σ H c) : EvT (tOr t u) σ H c := fun H1 e Q q =>
  h1 H1 e _ fun H2 e2 => iteF (h2 H2 (e.trans e2) Q fun H3 e3 => q H3 (e2.trans e3))
/-- a comprehension over a list whose data are told by something -/
theorem evn_lcM {β : Type} {bs : List β} (enc F : β → PyData) (ok : Ok M H) (hl : EvD K M tl σ H (.list (bs.map enc))) (hz : bs.length < sizeLine)
    (hs : ∀ (M' : Addr → Prop) (b : β) (x : V) (H' : Hp), (∀ v d, Dt K M H v d → Dt K M' H' v d) → Ok M' H' → b ∈ bs → Ex H H' → Dt K M' H' x (enc b) →
      ∀ Qg : L2.St → Hp → Prop, (∀ σ2 H2, Ex H' H2 → Turned K M' σ vs tt te true (· = F b) σ2 H2 → Qg σ2 H2) → g x (wipe σ vs) H' Qg) :
    EvNew K M (tLc (iList K tl) g tt te vs) σ H (· = bs.map F) := fun H0 e Q q =>
  hl H0 e _ fun v d H1 e1 dv pd => by
    subst pd
    cases dv with
    | lst h1 h2 h3 =>
      rename_i a xs
      refine ⟨a, rfl, ⟨xs, sq_of h1⟩, fun D hD => ?_⟩
      have hw : Walk (Itl K a) bs.length (fun H => SqL K H a xs) (YAt xs) := by
        have := h3.length
        rw [List.length_map] at this
        rw [← this]
        exact walk_list
      refine lc_data (K := K) (σ := σ) (vs := vs) bs hw ((ok.ex (e.trans e1))) hD hz (fun _ => true) (fun b e => e = F b) (fun H e => sq_of (e _ _ h1)) (fun M' i b x H2 H' hm ok' hb e2 y Qg qg => ?_) (fun H2 es e2 dd pr => ?_)
      · obtain ⟨rfl, hx⟩ := y
        obtain ⟨d', hd', dx⟩ := h3.get hx
        rw [List.getElem?_map, hb] at hd'
        cases hd'
        exact hs M' b x _ (fun v d h => (hm v d (h.ex (e.trans e1))).ex e2) ok' (List.mem_of_getElem? hb) ((e.trans e1).trans e2) ((hm _ _ dx).ex e2) Qg qg
      · cases dd with
        | lst w1 w2 w3 => exact q D _ es H2 (fresh_back e1 hD) (e1.trans e2) w1 w3 (by rw [paired_map pr, filter_all])
theorem call_len_seqK {X : Cx} (h : X.K = K) : CallR X (.builtin "len") (fun xs H Q => ∃ p ys, xs = [.ref p] ∧ (SqL K H p ys ∨ SqT K H p ys) ∧ Q (.int ys.length) H) := by
  subst h
  exact call_len_seq
theorem evn_lcMP {β : Type} {PB : List β → Prop} (enc F : β → PyData) (ok : Ok M H) (hl : EvP K M tl σ H (fun d => ∃ bs : List β, d = .list (bs.map enc) ∧ PB bs)) (hz : ∀ bs, PB bs → bs.length < sizeLine)
    (hs : ∀ (M' : Addr → Prop) (bs : List β) (b : β) (x : V) (H' : Hp), (∀ v d, Dt K M H v d → Dt K M' H' v d) → Ok M' H' → PB bs → b ∈ bs → Ex H H' → Dt K M' H' x (enc b) →
      ∀ Qg : L2.St → Hp → Prop, (∀ σ2 H2, Ex H' H2 → Turned K M' σ vs tt te true (· = F b) σ2 H2 → Qg σ2 H2) → g x (wipe σ vs) H' Qg) :
    EvNew K M (tLc (iList K tl) g tt te vs) σ H (fun ds => ∃ bs : List β, ds = bs.map F ∧ PB bs) := fun H0 e Q q =>
  hl H0 e _ fun v d H1 e1 dv pd => by
    obtain ⟨bs, rfl, pb⟩ := pd
    cases dv with
    | lst h1 h2 h3 =>
      rename_i a xs
      refine ⟨a, rfl, ⟨xs, sq_of h1⟩, fun D hD => ?_⟩
      have hw : Walk (Itl K a) bs.length (fun H => SqL K H a xs) (YAt xs) := by
        have := h3.length
        rw [List.length_map] at this
        rw [← this]
        exact walk_list
      refine lc_data (K := K) (σ := σ) (vs := vs) bs hw ((ok.ex (e.trans e1))) hD (hz bs pb) (fun _ => true) (fun b e => e = F b) (fun H e => sq_of (e _ _ h1)) (fun M' i b x H2 H' hm ok' hb e2 y Qg qg => ?_) (fun H2 es e2 dd pr => ?_)
      · obtain ⟨rfl, hx⟩ := y
        obtain ⟨d', hd', dx⟩ := h3.get hx
        rw [List.getElem?_map, hb] at hd'
        cases hd'
        exact hs M' bs b x _ (fun v d h => (hm v d (h.ex (e.trans e1))).ex e2) ok' pb (List.mem_of_getElem? hb) ((e.trans e1).trans e2) ((hm _ _ dx).ex e2) Qg qg
      · cases dd with
        | lst w1 w2 w3 => exact q D _ es H2 (fresh_back e1 hD) (e1.trans e2) w1 w3 ⟨bs, by rw [paired_map pr, filter_all], pb⟩
theorem EvNew.dataP {β : Type} {PB : List β → Prop} {enc : β → PyData} (ok : Ok M H) (h : EvNew K M te σ H (fun ds => ∃ bs : List β, ds = bs.map enc ∧ PB bs)) : EvP K M te σ H (fun d => ∃ bs : List β, d = .list (bs.map enc) ∧ PB bs) :=
  (h.data ok).mono fun d ⟨ds, h1, bs, h2, h3⟩ => ⟨bs, by rw [h1, h2], h3⟩
theorem evn_sortedP {β : Type} {PB : List β → Prop} {enc : β → PyData} {lt : β → β → Prop} (hlt : ∀ a b, PySem.W.dataLt (enc a) (enc b) = true ↔ lt a b) (tri : ∀ bs, PB bs → ∀ a ∈ bs, ∀ b ∈ bs, ¬ lt a b → ¬ lt b a → a = b) (nd : ∀ bs, PB bs → bs.Nodup) (al : ∀ a b, PySem.W.alike (enc a) (enc b) = true)
    (so : ∀ bs, PB bs → PySem.W.Sortable (bs.map enc) ∨ PySem.W.Sortable0 (bs.map enc)) (dp : ∀ b, (enc b).depth ≤ 20) (h : EvP K M te σ H (fun d => ∃ bs : List β, d = .list (bs.map enc) ∧ PB bs)) :
    EvNew K M (tCB (L2.rSortD K) (tCons te tNil)) σ H (fun ds => ∃ bs' : List β, ds = bs'.map enc ∧ ∃ bs, PB bs ∧ bs'.Perm bs ∧ bs'.Pairwise lt) := fun H1 e Q q =>
  h H1 e _ fun v d H2 e2 dv pd => by
    obtain ⟨bs, rfl, pb⟩ := pd
    cases dv with
    | lst h1 h2 h3 =>
      rename_i a xs
      obtain ⟨z1, z2, z3⟩ := zip_fst h3
      obtain ⟨bs', o1, o2, o3⟩ := sorted_out hlt (tri bs pb) z2 (nd bs pb)
      refine ⟨a, xs.zip (bs.map enc), rfl, by rw [z1]; exact sq_of h1, fun z hz => ⟨(z3 z hz).dp, ?_⟩, by rw [z2]; exact PySem.W.AllAlike.of al, by rw [z2]; exact so bs pb, fun p hp => ?_⟩
      · have : z.2 ∈ bs.map enc := by
          rw [← z2]
          exact List.mem_map.mpr ⟨z, hz, rfl⟩
        obtain ⟨b, _, hb⟩ := List.mem_map.mp this
        rw [← hb]
        exact dp b
      · refine q p _ _ _ (fresh_back e2 hp) (e2.trans (Ex.new hp)) upd_same ((dts_of_zip fun z hz => z3 z ((List.mergeSort_perm _ _).mem_iff.mp hz)).ex (Ex.new hp)) ⟨bs', o1, bs, pb, o2, o3⟩
/-- sorted(set(rows)) -/
theorem evn_sortedset {ts : List Tr} (ho : ∀ t ∈ ts, OkT S t) (h64 : ts.length < 64) (h : EvD K M te σ H (.list (ts.map rowD))) :
    EvNew K M (tCB (L2.rSortSetD K P w) (tCons (tCB (L2.rSetOfT K P w) (tCons te tNil)) tNil)) σ H (fun ds => ∃ us : List Tr, ds = us.map rowD ∧ us.Nodup ∧ (∀ u, u ∈ us ↔ u ∈ ts) ∧ us.length < 64) := fun H1 e Q q =>
  h H1 e _ fun v d H2 e2 dv pd => by
    subst pd
    cases dv with
    | lst h1 h2 h3 =>
      rename_i a xs
      obtain ⟨ks, k1, k2, k3⟩ := dts_pick h3
      subst k1
      have kl : ks.length = ts.length := by
        have := congrArg List.length k2
        rw [List.length_map, List.length_map] at this
        exact this
      refine ⟨a, ks, rfl, sq_of h1, fun p hp => SqT.of (k3 p hp), by omega, fun c L hc hL1 hL2 => ?_⟩
      have e3 : Ex H2 (upd H2 c (L2.SetTO P w c L)) := Ex.new hc
      refine ⟨c, L, rfl, upd_same, fun p hp => SqT.of (e3 _ _ (k3 p (hL1 p hp))), fun p hp => ?_, fun L' l pm nd hl64 hl => ?_⟩
      · have : p.2 ∈ ks.map (·.2) := List.mem_map.mpr ⟨p, hL1 p hp, rfl⟩
        rw [k2] at this
        obtain ⟨t, _, e⟩ := List.mem_map.mp this
        rw [← e]
        intro z
        have h1 := congrArg List.length z
        rw [ofN_len] at h1
        have h2 := Tr.size_pos t
        have h1 : t.size = 0 := h1
        omega
      · have e4 : Ex (upd H2 c (L2.SetTO P w c L)) (upd (upd H2 c (L2.SetTO P w c L)) l (.lst (L'.map fun q => V.ref q.1))) := Ex.new hl
        have mem : ∀ p ∈ L', p ∈ ks := fun p hp => hL1 p (pm.mem_iff.mp hp)
        obtain ⟨us, u1, u2, u3⟩ := rows_of_keys (K := K) (M := M) (ts := ts) (L := L') (H := upd (upd H2 c (L2.SetTO P w c L)) l (.lst (L'.map fun q => V.ref q.1))) (fun p hp => (e3.trans e4) _ _ (k3 p (mem p hp))) fun p hp => by
          have : p.2 ∈ ks.map (·.2) := List.mem_map.mpr ⟨p, mem p hp, rfl⟩
          rw [k2] at this
          obtain ⟨t, ht, e⟩ := List.mem_map.mp this
          exact ⟨t, ht, e.symm⟩
        refine q l _ _ _ (fresh_back (e2.trans e3) hl) ((e2.trans e3).trans e4) upd_same u3 ⟨us, rfl, ?_, fun u => ⟨u2 u, fun hu => ?_⟩, ?_⟩
        · rw [u1] at nd
          exact List.Pairwise.of_map _ (fun a b hne e => hne (congrArg (fun t : Tr => ofN t.row) e)) nd
        · have m1 : ofN u.row ∈ ks.map (·.2) := by
            rw [k2]
            exact List.mem_map.mpr ⟨u, hu, rfl⟩
          obtain ⟨p, hp, e⟩ := List.mem_map.mp m1
          have m2 := hL2 p hp
          rw [e] at m2
          have m3 : ofN u.row ∈ L'.map (·.2) := (pm.map (·.2)).mem_iff.mpr m2
          rw [u1] at m3
          obtain ⟨x, hx, e⟩ := List.mem_map.mp m3
          rw [← row_keyL (ho x (u2 x hx)) (ho u hu) e]
          exact hx
        · have := congrArg List.length u1
          rw [List.length_map, List.length_map] at this
          omega
theorem evd_max {ns : List Int} {m : Int} (h : EvD K M te σ H (.list (ns.map PyData.int))) (h0 : 0 < ns.length) (hm : ∀ m', m' ∈ ns → (∀ y, y ∈ ns → y ≤ m') → m' = m) : EvD K M (tCB (rMax K) (tCons te tNil)) σ H (.int m) := fun H1 e Q q =>
  h H1 e _ fun v d H2 e2 dv pd => by
    subst pd
    cases dv with
    | lst h1 h2 h3 =>
      have ew := Dts.ints ns h3
      subst ew
      refine ⟨_, ns, rfl, sq_of h1, h0, fun m' a1 a2 => ?_⟩
      rw [hm m' a1 a2]
      exact q _ _ H2 e2 (.int _) rfl
theorem evd_lkey {t : Tr} (hv : EvD K M tv σ H (.list (S.map sgD))) (hK : KidsOk S) (hb : EvD K M tb σ H (rowD t)) (hO : OkT S t) (ht : t.size ≤ 1000) : EvD K M (tCall (spLKey K) [] E (tCons tv (tCons tb tNil))) σ H (tupI (keyL t)) := fun H1 e Q q =>
  hv H1 e _ fun v d H2 e2 dv pd => hb H2 (e.trans e2) _ fun vb db H3 e3 dvb pb => by
    subst pd pb
    exact ⟨M, v, vb, S, t, rfl, dv.ex e3, hK, dt_any dvb, hO, ht, fun x H4 e4 dx => q x _ H4 ((e2.trans e3).trans e4) (dt_any dx) rfl⟩
end
end TH
set_option maxRecDepth 100000
set_option maxHeartbeats 4000000
namespace TH
open PySem L2 Evl LamX
abbrev sLaw : Stmt := top 34
/-- a list of at most 63 ints is handed in, True comes out -/
def spLaw (K : PySem.W.Frag) : Sp := fun vs H Q _ => ∃ (a : Addr) (ns : List Int), vs = [.ref a] ∧ SqL K H a (ns.map V.int) ∧ ns.length ≤ 63 ∧ ∀ H', Q (.bl true) H'
structure GlobW (mg : Str → Option Value) : Prop extends GlobL mg where
  max : mg "max" = none
  bool : mg "bool" = none
  isinstance : mg "isinstance" = none
  sorted : mg "sorted" = none
  set : mg "set" = none
theorem flat_rows (ts : List Tr) : Flat 2 (.list (ts.map rowD)) := flat_list fun d hd => by
  obtain ⟨t, _, rfl⟩ := List.mem_map.mp hd
  exact flat_tupI _
theorem flat_tups (ls : List (List Int)) : Flat 2 (.list (ls.map tupI)) := flat_list fun d hd => by
  obtain ⟨t, _, rfl⟩ := List.mem_map.mp hd
  exact flat_tupI _
/-- what is told and what is due -/
def toldD (t : Tr) (us : List Tr) (ps : List (List Int)) : PyData := .list [.list (t.kids.map rowD), .list (us.map rowD), .list (ps.map tupI)]
theorem flat_told (t : Tr) (us : List Tr) (ps : List (List Int)) : Flat 3 (toldD t us ps) := flat_list fun d hd => by
  rcases List.mem_cons.mp hd with rfl | hd
  · exact flat_rows _
  · rcases List.mem_cons.mp hd with rfl | hd
    · exact flat_rows _
    · rw [List.mem_singleton.mp hd]
      exact flat_tups _
section
variable {P : Program} {w : World} {K : PySem.W.Frag} {mg : Str → Option Value} {base : Heap}
abbrev nLaw : List Str := ["_law_script", "_law_k", "_law_box_here", "_law_signs_here", "_law_row_here", "_law_book", "_law_lines_here", "_law_kids_here", "_law_some", "_law_due", "_law_spots", "_law_tall", "_law_turn", "_law_found", "_law_told", "_law_one", "_law_place", "_law_kid", "_law_key_here"]
theorem scLaw : FnScope nLaw ["_law_script"] (defScope sLaw) := ⟨rfl, rfl, rfl, by decide +kernel, rfl, by decide +kernel, by decide +kernel⟩
theorem ok_law {f C CN : Addr} {fd : FuncData} (F : Fun K "law" "law" sLaw f fd) (G : GlobW mg)
    (GX : OneF P w K mg base "_law_box" 1 ["_law_script", "_law_k"] (spBox K)) (GT : OneF P w K mg base "_law_take" 2 ["_law_box_here", "_law_count"] spTake) (GS : OneF P w K mg base "_law_signs" 3 ["_law_box_here"] (spSigns K))
    (GR : OneF P w K mg base "_law_row" 3 ["_law_box_here", "_law_signs_here", "_law_most"] (spLRow K)) (GK : OneF P w K mg base "_law_kids" 1 ["_law_signs_here", "_law_row_here"] (spLKids K))
    (GY : OneF P w K mg base "_law_key" 1 ["_law_signs_here", "_law_row_here"] (spLKey K)) (GL : OneF P w K mg base "_law_lines" 2 ["_law_signs_here", "_law_row_here"] (spLines K))
    (GO : OneX P w K mg base "kids_of" 5 ["book", "tree"] (spKidsOf K C)) (GH : OneX P w K mg base "height" 5 ["book", "tree"] (spHeight K C)) (GP : OneX P w K mg base "parts" 5 ["book", "tree"] (spParts K C)) (GQ : OneX P w K mg base "places" 5 ["book", "tree"] (spPlaces K C)) (T : BookT K mg C)
    {fI : Addr} {fdI : FuncData} (mk : Mk K C fI) (GI : FnOk P w K mg base (L2.CX P w) 4 fI fdI ["self", "signs"] (spInit K C CN)) (bI : Binds K fdI ["self", "signs"] []) :
    FnOk P w K mg base CX0 8 f fd ["_law_script"] (spLaw K) := by
  obtain ⟨fX, dX, mX, kX, gX, bX⟩ := GX
  obtain ⟨fT, dT, mT, kT, gT, bT⟩ := GT
  obtain ⟨fS, dS, mS, kS, gS, bS⟩ := GS
  obtain ⟨fR, dR, mR, kR, gR, bR⟩ := GR
  obtain ⟨fK, dK, mK, kK, gK, bK⟩ := GK
  obtain ⟨fY, dY, mY, kY, gY, bY⟩ := GY
  obtain ⟨fL, dL, mL, kL, gL, bL⟩ := GL
  obtain ⟨fO, dO, mO, kO, gO, bO⟩ := GO
  obtain ⟨fH, dH, mH, kH, gH, bH⟩ := GH
  obtain ⟨fP, dP, mP, kP, gP, bP⟩ := GP
  obtain ⟨fQ, dQ, mQ, kQ, gQ, bQ⟩ := GQ
  refine F.ok scLaw (fun vs H Q E h => ?_) fun cdv A outer s H vs Q E hr h => ?_
  · obtain ⟨a, ns, rfl, _⟩ := h
    rfl
  · obtain ⟨a, ns, rfl, hS, hlen, q⟩ := h
    have hr1 : Room 1 _ := hr.mono (show 1 ≤ 7 by decide)
    have hr2 : Room 2 _ := hr.mono (show 2 ≤ 7 by decide)
    have hr3 : Room 3 _ := hr.mono (show 3 ≤ 7 by decide)
    have hr5 : Room 5 _ := hr.mono (show 5 ≤ 7 by decide)
    have hu := hu64 hr
    refine ⟨_, pss_cons (ps_for PassesOwn.never rfl (pi_range1 rfl G.range (pa_cons (pe_callB (call_max2 rfl) (by rfl) G.max (by decide +kernel) (pa_cons pe_int (pa_cons (pe_callB (call_min2 rfl) (by rfl) G.min (by decide +kernel) (pa_cons (pe_callB call_len_seq (by rfl) G.len PySem.boot_len (pa_cons (pv 0) pa_nil)) (pa_cons pe_int pa_nil))) pa_nil))) pa_nil)) (pg_name (i := 1) scLaw.nd rfl (.inl rfl))
      (pss_cons (ps_set (i := 2) scLaw.nd rfl (.inl rfl) (pe_call gX hr1 rfl mX kX bX .nil pass0 (pa_cons (pv 0) (pa_cons (pv 1) pa_nil))))
      (pss_cons (ps_set (i := 3) scLaw.nd rfl (.inr rfl) (pe_call gS hr3 rfl mS kS bS .nil pass0 (pa_cons (pv 2) pa_nil)))
      (pss_cons (ps_set (i := 4) scLaw.nd rfl (.inl rfl) (pe_call gR hr3 rfl mR kR bR .nil pass0 (pa_cons (pv 2) (pa_cons (pv 3) (pa_cons (pe_ix ix_list (pe_lst (pa_cons pe_int (pa_cons pe_int (pa_cons pe_int (pa_cons pe_int pa_nil))))) (pe_call gT hr2 rfl mT kT bT .nil pass0 (pa_cons (pv 2) (pa_cons pe_int pa_nil))) (fun _ _ => rfl)) pa_nil)))))
      (pss_cons (ps_set (i := 5) scLaw.nd rfl (.inl rfl) (pe_make mk GI hr5 rfl T.g bI .nil passL (pa_cons (pv 3) pa_nil)))
      (pss_cons (ps_set (i := 6) scLaw.nd rfl (.inl rfl) (pe_call gL hr2 rfl mL kL bL .nil pass0 (pa_cons (pv 3) (pa_cons (pv 4) pa_nil))))
      (pss_cons (ps_set (i := 7) scLaw.nd rfl (.inl rfl) (pe_call gK hr1 rfl mK kK bK .nil pass0 (pa_cons (pv 3) (pa_cons (pv 4) pa_nil))))
      (pss_cons (ps_set (i := 8) scLaw.nd rfl (.inl rfl) (pe_callB (cr_sortedD hu) (by rfl) G.sorted (by decide +kernel) (pa_cons (pe_lc (own := [("_law_one", 15)]) (g := gName 15) (tt := tYes) rfl scLaw.nd
            (pi_list (pe_callB (cr_sortedSetD rfl hu) (by rfl) G.sorted (by decide +kernel) (pa_cons (pe_callTy (cr_setOfT rfl hu) (by rfl) G.set (by decide +kernel) (pa_cons (pe_lc (own := [("_law_place", 16), ("_law_kid", 17)]) (tt := tYes) rfl scLaw.nd (pi_list (pv 6))
              (blkOk_by (N := nLaw) (sc := defScope sLaw) (by decide +kernel)) (fun _ _ _ _ _ => pg_tupK (K := K) (n := 2) rfl rfl (pgs_cons (pg_name (i := 16) scLaw.nd rfl (.inl rfl)) (pgs_cons (pg_name (i := 17) scLaw.nd rfl (.inl rfl)) pgs_nil))) (fun _ _ _ _ _ => pts_nil)
              (fun _ _ _ _ _ => pv 17)) pa_nil)) pa_nil)))
            (blkOk_by (N := nLaw) (sc := defScope sLaw) (by decide +kernel)) (fun _ _ _ _ _ => pg_name (i := 15) scLaw.nd rfl (.inl rfl)) (fun _ _ _ _ _ => pts_nil)
            (fun _ _ _ _ _ => pe_tup (pa_cons (pe_call gY hr1 rfl mY kY bY .nil pass0 (pa_cons (pv 3) (pa_cons (pv 15) pa_nil))) (pa_cons (pv 15) pa_nil)))) pa_nil)))
      (pss_cons (ps_setLc (i := 9) (own := [("_law_key_here", 18), ("_law_one", 15)]) (by rfl) scLaw.nd rfl rfl (sw_true rfl rfl rfl (by decide +kernel)) (pi_list (pv 8))
            (blkOk_by (N := nLaw) (sc := defScope sLaw) (by decide +kernel)) (fun _ _ _ _ _ => pg_tupK (K := K) (n := 2) rfl rfl (pgs_cons (pg_name (i := 18) scLaw.nd rfl (.inl rfl)) (pgs_cons (pg_name (i := 15) scLaw.nd rfl (.inl rfl)) pgs_nil))) (fun _ _ _ _ _ => pts_nil)
            (fun _ _ _ _ _ => pv 15))
      (pss_cons (ps_set (i := 10) scLaw.nd rfl (.inl rfl) (pe_callB (cr_sortedD hu) (by rfl) G.sorted (by decide +kernel) (pa_cons (pe_lc (own := [("_law_place", 16), ("_law_kid", 17)]) (tt := tYes) rfl scLaw.nd (pi_list (pv 6))
            (blkOk_by (N := nLaw) (sc := defScope sLaw) (by decide +kernel)) (fun _ _ _ _ _ => pg_tupK (K := K) (n := 2) rfl rfl (pgs_cons (pg_name (i := 16) scLaw.nd rfl (.inl rfl)) (pgs_cons (pg_name (i := 17) scLaw.nd rfl (.inl rfl)) pgs_nil))) (fun _ _ _ _ _ => pts_nil)
            (fun _ _ _ _ _ => pv 16)) pa_nil)))
      (pss_cons (ps_set (i := 11) scLaw.nd rfl (.inl rfl) (pe_call gH hr5 rfl mH kH bH .nil passL (pa_cons (pv 5) (pa_cons (pv 4) pa_nil))))
      (pss_cons (ps_if (PW.pt (pw_or (pt_val (pe_callB call_isi (by rfl) G.isinstance (by decide +kernel) (pa_cons (pv 11) (pa_cons (pe_bltn (v := .ty "bool") (by rfl) G.bool (by decide +kernel) rfl) pa_nil))))
            (pw_or1 (pt_cmpR op_ne (pv 11) (pe_op op_add pe_int (pe_callB (cr_max rfl) (by rfl) G.max (by decide +kernel) (pa_cons (pe_lc (own := [("_law_place", 16)]) (g := gName 16) (tt := tYes) rfl scLaw.nd (pi_list (pv 10))
              (blkOk_by (N := nLaw) (sc := defScope sLaw) (by decide +kernel)) (fun _ _ _ _ _ => pg_name (i := 16) scLaw.nd rfl (.inl rfl)) (fun _ _ _ _ _ => pts_nil)
              (fun _ _ _ _ _ => pe_callB (call_len_seqK (K := K) rfl) (by rfl) G.len PySem.boot_len (pa_cons (pv 16) pa_nil))) pa_nil))) (nomark _))))) (pss_one (ps_ret pe_bl)) pss_nil)
      (pss_one (ps_for PassesOwn.never rfl (pi_range1 rfl G.range (pa_cons pe_int pa_nil)) (pg_name (i := 12) scLaw.nd rfl (.inl rfl))
        (pss_cons (ps_set (i := 13) scLaw.nd rfl (.inl rfl) (pe_lst (pa_cons (pe_call gO hr5 rfl mO kO bO .nil passL (pa_cons (pv 5) (pa_cons (pv 4) pa_nil))) (pa_cons (pe_call gP hr5 rfl mP kP bP .nil passL (pa_cons (pv 5) (pa_cons (pv 4) pa_nil))) (pa_cons (pe_call gQ hr5 rfl mQ kQ bQ .nil passL (pa_cons (pv 5) (pa_cons (pv 4) pa_nil))) pa_nil)))))
        (pss_cons (ps_if (pt_cmpR (op_neD hu) (pv 13) (pe_lst (pa_cons (pv 7) (pa_cons (pv 9) (pa_cons (pv 10) pa_nil)))) (nomark _)) (pss_one (ps_ret pe_bl)) pss_nil)
        (pss_one (ps_for PassesOwn.never rfl (pi_list (pv 13)) (pg_name (i := 14) scLaw.nd rfl (.inl rfl))
          (pss_one (ps_expr (pe_bm PySem.F.plainAttrs_list PySem.F.slot_list_append PySem.F.type_list_append mt_append (pv 14) (pa_cons (pe_tup pa_nil) pa_nil))))))))))))))))))))))
    (pss_one (ps_ret pe_bl)), ?_⟩
    have hl63 : (ns.map V.int).length ≤ 63 := by rw [List.length_map]; exact hlen
    refine ⟨_, rfl, _, _, rfl, .inl hS, _, _, rfl, _, _, rfl, _, rfl, ?_, ?_, ?_⟩
    · split <;> split <;> omega
    · split <;> split <;> omega
    have hnt : ∀ z : Int, z = (if (if (3 : Int) < ((ns.map V.int).length : Int) then 3 else ((ns.map V.int).length : Int)) > 1 then (if (3 : Int) < ((ns.map V.int).length : Int) then 3 else ((ns.map V.int).length : Int)) else 1) → z ≤ 3 := by
      intro z hz
      rw [hz]
      split <;> split <;> omega
    have hnt := hnt _ rfl
    generalize (if (if (3 : Int) < ((ns.map V.int).length : Int) then 3 else ((ns.map V.int).length : Int)) > 1 then (if (3 : Int) < ((ns.map V.int).length : Int) then 3 else ((ns.map V.int).length : Int)) else 1) = nt at hnt ⊢
    refine for_range (lo := 0) (n := nt.toNat) (fun i σ' H' => Ex H H' ∧ ∃ u1 u2 u3 u4 u5 u6 u7 u8 u9 u10 u11 u12 u13 u14 u15 u16 u17 u18, σ' = [some (.ref a), u1, u2, u3, u4, u5, u6, u7, u8, u9, u10, u11, u12, u13, u14, u15, u16, u17, u18])
      ⟨Ex.refl H, _, _, _, _, _, _, _, _, _, _, _, _, _, _, _, _, _, _, rfl⟩ ?_ (fun σ' H' ⟨_, u1, u2, u3, u4, u5, u6, u7, u8, u9, u10, u11, u12, u13, u14, u15, u16, u17, u18, e⟩ => q H')
    rintro i σ' Hi hi ⟨eH, u1, u2, u3, u4, u5, u6, u7, u8, u9, u10, u11, u12, u13, u14, u15, u16, u17, u18, rfl⟩
    -- the box, the signs, the tree, the book
    refine q_asgR ⟨_, rfl, _, rfl, a, ns, _, rfl, ex_l eH hS, by omega, by omega, fun b H1 hb e1 hbox => ?_⟩
    refine q_asgR ⟨_, rfl, b, rfl, hbox, fun l xs S H2 gS e2 hl hxs dS => ?_⟩
    have sS := gS.toGood0.sane
    have hsg : Dt K MF H2 (.ref l) (.list (S.map sgD)) := .lst hxs (fun z => z) dS.flat
    have hbox2 := e2 _ _ hbox
    have hK := gS.kidsOk
    refine q_asgP (K := K) (M := MF) (P := fun d => ∃ t, d = rowD t ∧ OkT S t ∧ t.size ≤ 40) (evp_lrow (mx := 40) okF (ev_var (i := 2) rfl) hbox2 (evd_var (i := 3) rfl hsg) gS ?_ (by decide)) fun vr dr H3 e3 dvr pr => ?_
    · refine evp_op (evd_lst okF (eva_cons evd_int (eva_cons evd_int (eva_cons evd_int (eva_cons evd_int eva_nil)))) (by show 4 ≤ sizeLine; decide)) (evp_take (ev_var (i := 2) rfl) hbox2 evd_int (by decide) (by decide)) fun x y a dd H7 e7 dx dy px py Q q => ?_
      obtain ⟨k, rfl, k0, k1⟩ := py
      subst px
      cases dy
      cases dx with
      | lst w1 w2 w3 =>
      have ew := Dts.ints [1, 3, 12, 40] w3
      subst ew
      obtain ⟨n, rfl⟩ := Int.eq_ofNat_of_zero_le k0
      have hn : n = 0 ∨ n = 1 ∨ n = 2 ∨ n = 3 := by omega
      rcases hn with rfl | rfl | rfl | rfl
      · exact ⟨_, _, _, _, rfl, rfl, sq_of w1, atI_nat (j := 0) rfl, q _ _ H7 (Ex.refl _) (.int _) ⟨1, rfl, by decide, by decide⟩⟩
      · exact ⟨_, _, _, _, rfl, rfl, sq_of w1, atI_nat (j := 1) rfl, q _ _ H7 (Ex.refl _) (.int _) ⟨3, rfl, by decide, by decide⟩⟩
      · exact ⟨_, _, _, _, rfl, rfl, sq_of w1, atI_nat (j := 2) rfl, q _ _ H7 (Ex.refl _) (.int _) ⟨12, rfl, by decide, by decide⟩⟩
      · exact ⟨_, _, _, _, rfl, rfl, sq_of w1, atI_nat (j := 3) rfl, q _ _ H7 (Ex.refl _) (.int _) ⟨40, rfl, by decide, by decide⟩⟩
    obtain ⟨t, rfl, hO, h40⟩ := pr
    refine q_asgR (make_book (M := MF) okF (evd_var (i := 3) rfl (hsg.ex e3)) (valid_good gS) sS.len (fun q hq => Nat.le_trans (sS.name q hq) (by decide)) fun x H4 e4 hB => ?_)
    have e34 := e3.trans e4
    have hsg4 := hsg.ex e34
    have hrow4 : Dt K MF H4 vr (rowD t) := dvr.ex e4
    -- the lines, the kids
    refine q_asgR ⟨_, rfl, _, rfl, MF, .ref l, vr, S, t, rfl, okF, hsg4, hK, hrow4, hO, h40, fun ll xl L H5 full hll e5 hll5 dL => ?_⟩
    refine q_asgR ⟨_, rfl, _, rfl, MF, .ref l, vr, S, t, rfl, okF, hsg4.ex e5, hK, hrow4.ex e5, hO, fun lk xk H6 hlk e6 hlk6 dK => ?_⟩
    have e46 := e5.trans e6
    have hlin : ∀ {H'}, Ex H6 H' → Dt K MF H' (.ref ll) (.list (L.map lnD)) := fun e => .lst ((e6.trans e) _ _ hll5) (fun h => h) ((dL.ex (e6.trans e)).flat)
    have hkids : ∀ {H'}, Ex H6 H' → Dt K MF H' (.ref lk) (.list (t.kids.map rowD)) := fun e => .lst (e _ _ hlk6) (fun h => h) (dK.ex e)
    have hLl : L.length = t.size := by
      rw [full.perm.length_eq]
      exact lnsE_len ([], t)
    have okL : ∀ e ∈ L, OkT S e.2 ∧ e.2.size ≤ t.size := fun e he => lnsE_ok t [] hO e (full.perm.mem_iff.mp he)
    have memS : ∀ u, u ∈ L.map (·.2) ↔ u ∈ subs t := fun u => (full.perm.map (·.2)).mem_iff
    have okS : ∀ u ∈ L.map (·.2), OkT S u ∧ u.size ≤ t.size := fun u hu => by
      obtain ⟨e, he, rfl⟩ := List.mem_map.mp hu
      exact okL e he
    -- the parts that are due
    refine q_asgN (K := K) (M := MF) (P := fun ds => ∃ us : List Tr, ds = us.map kyD ∧ us.Pairwise ltT ∧ (∀ u, u ∈ us ↔ u ∈ subs t) ∧ us.length < 64) (EvNew.mono (evn_sortedP (PB := fun us : List Tr => us.Nodup ∧ (∀ u, u ∈ us ↔ u ∈ L.map (·.2)) ∧ us.length < 64) lt_ky (fun us h a ha b hb => ltT_tri (okS a ((h.2.1 a).mp ha)).1 (okS b ((h.2.1 b).mp hb)).1) (fun us h => h.1) alike_ky (fun us h => .inl (.inl fun y hy => by
          obtain ⟨u, _, rfl⟩ := List.mem_map.mp hy
          exact ⟨_, _, rfl⟩)) (fun b => Nat.le_trans (flat_ky b).depth (by decide)) (EvNew.dataP okF (evn_lcMP (K := K) (M := MF) (enc := rowD) (F := kyD) okF (EvNew.dataP okF (evn_sortedset (S := S) (ts := L.map (·.2)) (fun u hu => (okS u hu).1) (by rw [List.length_map]; omega) ?_)) (fun us h => Nat.lt_of_lt_of_le h.2.2 (by decide)) (fun M' us u y H' hm ok' hp hu ex dy Qg qg => ?_)))) ?_) fun ls xs8 ds H7 hls e7 hls7 dxs8 pds => ?_
    · rw [List.map_map]
      refine (evn_lcM (K := K) (M := MF) lnD (fun e => rowD e.2) okF (evd_var (i := 6) rfl (hlin (Ex.refl _))) (Nat.lt_of_le_of_lt (show L.length ≤ 40 by omega) (by decide)) (fun M' e y H' hm ok' he ex dy Qg qg => ?_)).isD okF
      cases dy with
      | tup g1 g2 =>
      cases g2 with
      | @cons vp _ _ _ r1 g2 =>
      cases g2 with
      | @cons vu _ _ _ r2 g2 =>
      cases g2
      exact ⟨_, _, rfl, SqT.of g1, rfl, _, _, rfl, _, _, rfl, rfl, qg _ H' (Ex.refl _) ⟨rfl, evt_yes, fun _ => evd_var (i := 17) rfl r2⟩⟩
    · refine qg _ H' (Ex.refl _) ⟨rfl, evt_yes, fun _ => ?_⟩
      have hu2 := okS u ((hp.2.1 u).mp hu)
      exact evd_tup (eva_cons (evd_lkey (S := S) (evd_var (i := 3) rfl (hm _ _ (hsg4.ex e46))) hK (evd_var (i := 15) rfl dy) hu2.1 (by omega)) (eva_cons (evd_var (i := 15) rfl dy) eva_nil)) (by show 2 ≤ sizeLine; decide)
    · rintro ds ⟨us', h1, us, ⟨_, h3, h4⟩, h5, h6⟩
      exact ⟨us', h1, h6, fun u => h5.mem_iff.trans ((h3 u).trans (memS u)), by rw [h5.length_eq]; exact h4⟩
    obtain ⟨us, rfl, uso, umem, ul⟩ := pds
    refine q_asgN (K := K) (M := MF) (evn_lcM (K := K) (M := MF) kyD rowD okF (evd_var (i := 8) rfl (.lst hls7 (fun h => h) dxs8)) (Nat.lt_of_lt_of_le ul (by decide)) (fun M' u y H' hm ok' hu ex dy Qg qg => ?_)) fun ld xs9 ds H8 hld e8 hld8 dxs9 pds => ?_
    · cases dy with
      | tup g1 g2 =>
      cases g2 with
      | @cons vp _ _ _ r1 g2 =>
      cases g2 with
      | @cons vu _ _ _ r2 g2 =>
      cases g2
      exact ⟨_, _, rfl, SqT.of g1, rfl, _, _, rfl, _, _, rfl, rfl, qg _ H' (Ex.refl _) ⟨rfl, evt_yes, fun _ => evd_var (i := 15) rfl r2⟩⟩
    subst pds
    have e68 := e7.trans e8
    have hdue : ∀ {H'}, Ex H8 H' → Dt K MF H' (.ref ld) (.list (us.map rowD)) := fun e => .lst (e _ _ hld8) (fun h => h) (dxs9.ex e)
    -- the places
    have ndP : (L.map (·.1)).Nodup := by
      have h1 : ((lns [] t).map (·.1)).Nodup := (lns_sorted t []).imp fun {p q} h e => by
        rw [e] at h
        exact ltP_asym _ _ h h
      exact (full.perm.map (·.1)).nodup_iff.mpr h1
    refine q_asgN (K := K) (M := MF) (evn_sorted (enc := tupI) (bs := L.map (·.1)) lt_pl (fun a _ b _ => ltP_tri) ndP alike_tupI (.inr ?_) (fun b => Nat.le_trans (flat_tupI b).depth (by decide)) ?_) fun lp xs10 ds H9 hlp e9 hlp9 dxs10 pds => ?_
    · obtain ⟨r, hr⟩ := full.head
      refine ⟨⟨(r.map (·.1)).map tupI, by rw [hr]; rfl⟩, fun d hd => ?_⟩
      obtain ⟨p, _, rfl⟩ := List.mem_map.mp hd
      exact ⟨_, rfl⟩
    · rw [List.map_map]
      refine (evn_lcM (K := K) (M := MF) lnD (fun e => tupI e.1) okF (evd_var (i := 6) rfl (hlin e68)) (Nat.lt_of_le_of_lt (show L.length ≤ 40 by omega) (by decide)) (fun M' e y H' hm ok' he ex dy Qg qg => ?_)).isD okF
      cases dy with
      | tup g1 g2 =>
      cases g2 with
      | @cons vp _ _ _ r1 g2 =>
      cases g2 with
      | @cons vu _ _ _ r2 g2 =>
      cases g2
      exact ⟨_, _, rfl, SqT.of g1, rfl, _, _, rfl, _, _, rfl, rfl, qg _ H' (Ex.refl _) ⟨rfl, evt_yes, fun _ => evd_var (i := 16) rfl r1⟩⟩
    obtain ⟨ps, rfl, pperm, pso⟩ := pds
    have eps : ps = (lns [] t).map (·.1) := sorted_one (lt := ltP) ltP_asym pso (lns_sorted t []) fun p => (pperm.trans (full.perm.map (·.1))).mem_iff
    subst eps
    have e89 := e8.trans e9
    have e49 : Ex H4 H9 := e46.trans (e7.trans e89)
    have hspots : ∀ {H'}, Ex H9 H' → Dt K MF H' (.ref lp) (.list (((lns [] t).map (·.1)).map tupI)) := fun e => .lst (e _ _ hlp9) (fun h => h) (dxs10.ex e)
    -- how high
    refine q_asgR ⟨_, rfl, _, rfl, x, vr, S, t, rfl, hB.ex e49, hK, hrow4.ex e49, hO, h40, fun H10 e10 => ?_⟩
    have e410 := e49.trans e10
    have lens : EvD K MF (tLc (iList K (tVar 10)) (gName 16) tYes (tCB (fun xs H Q => ∃ p ys, xs = [.ref p] ∧ (SqL K H p ys ∨ SqT K H p ys) ∧ Q (.int ys.length) H) (tCons (tVar 16) tNil)) [16]) [some (.ref a), some (.int (0 + (i : Int))), some (.ref b), some (.ref l), some vr, some (.ref x), some (.ref ll), some (.ref lk), some (.ref ls), some (.ref ld), some (.ref lp), some (.int (t.high : Int)), u12, u13, u14, u15, u16, u17, u18] H10
        (.list ((((lns [] t).map (·.1)).map fun p => (p.length : Int)).map PyData.int)) := by
      rw [List.map_map]
      refine (evn_lcM (K := K) (M := MF) tupI (fun p => .int (p.length : Int)) okF (evd_var (i := 10) rfl (hspots e10)) (by rw [List.length_map]; exact Nat.lt_of_le_of_lt (Nat.le_trans (Nat.le_of_eq (lnsE_len ([], t))) h40) (by decide)) (fun M' p y H' hm ok' hp ex dy Qg qg => ?_)).isD okF
      refine qg _ H' (Ex.refl _) ⟨rfl, evt_yes, fun _ => ?_⟩
      have h := evd_lenT (K := K) (M := M') (ta := tCons (tVar 16) tNil) (eva_cons (evd_var (σ := [some (.ref a), some (.int (0 + (i : Int))), some (.ref b), some (.ref l), some vr, some (.ref x), some (.ref ll), some (.ref lk), some (.ref ls), some (.ref ld), some (.ref lp), some (.int (t.high : Int)), u12, u13, u14, u15, some y, u17, u18]) (i := 16) (d := tupI p) rfl dy) eva_nil)
      rw [List.length_map] at h
      exact h
    refine q_when (b := false) (evt_or2 (fun H1 e Q q => ⟨_, rfl, .int _, .ty "bool", .type "int", .type "bool", false, rfl, .ty _, .base (.int _), kit_ty (by decide +kernel), _, rfl, q H1 (Ex.refl _)⟩)
      (et_is (evt_test (K := K) (M := MF) (evd_neI (evd_var (i := 11) rfl (.int _)) (evd_add evd_int (evd_max (m := (t.high : Int) - 1) lens ?_ ?_)))) ?_)) (fun hb H11 e11 => ?_) (fun hb H11 e11 => ?_)
    · rw [List.length_map, List.length_map]
      have h1 := lnsE_len ([], t)
      have h2 := Tr.size_pos t
      show 0 < (lnsE ([], t)).length
      rw [h1]
      exact h2
    · intro m' hm1 hm2
      obtain ⟨h1, e1, m1, h2⟩ := lns_high t []
      obtain ⟨p, hp, rfl⟩ := List.mem_map.mp hm1
      obtain ⟨e, he, rfl⟩ := List.mem_map.mp hp
      have h3 := h1 e he
      have h4 := hm2 (e1.1.length : Int) (List.mem_map.mpr ⟨e1.1, List.mem_map.mpr ⟨e1, m1, rfl⟩, rfl⟩)
      have h5 : ([] : List Int).length = 0 := rfl
      omega
    · have : (t.high : Int) = 1 + ((t.high : Int) - 1) := by omega
      rw [decide_eq_true this]
      rfl
    · cases hb
    have e411 := e410.trans e11
    have e911 := e10.trans e11
    -- twice
    refine s_forR1 (n := 2) (ea_cons (ev_ofI (K := K) (M := MF) (evd_int (i := 2))) ea_nil) (by omega) (fun j σ' H' => Ex H11 H' ∧ ∃ u12 u13 u14, σ' = [some (.ref a), some (.int (0 + (i : Int))), some (.ref b), some (.ref l), some vr, some (.ref x), some (.ref ll), some (.ref lk), some (.ref ls), some (.ref ld), some (.ref lp), some (.int (t.high : Int)), u12, u13, u14, u15, u16, u17, u18])
      (fun H12 e12 => ⟨e12, _, _, _, rfl⟩) ?_ ?_
    · rintro j σ' Hs hj ⟨es, v12, v13, v14, rfl⟩
      have e4s := e411.trans es
      have hrows := hrow4.ex e4s
      have hBs := hB.ex e4s
      refine ⟨_, rfl, _, rfl, x, vr, S, t, rfl, hBs, hK, hrows, hO, h40, fun l1 x1 HA hl1 eA hlA dA => ⟨_, rfl, _, rfl, x, vr, S, t, rfl, hBs.ex eA, hK, hrows.ex eA, hO, h40, fun l2 x2 us2 HB hl2 eB hlB dB so2 mem2 => ⟨_, rfl, _, rfl, x, vr, S, t, rfl, hBs.ex (eA.trans eB), hK, hrows.ex (eA.trans eB), hO, h40, fun l3 x3 HC hl3 eC hlC dC => ⟨by show 3 ≤ sizeLine; decide, fun lf hlf => ?_⟩⟩⟩⟩
      have eu : us2 = us := sorted_one (lt := ltT) ltT_asym so2 uso fun u => (mem2 u).trans (umem u).symm
      subst eu
      have f2 : Hs l2 = none := fresh_back eA hl2
      have f3 : Hs l3 = none := fresh_back (eA.trans eB) hl3
      have n12 : l1 ≠ l2 := ne_of_none hlA hl2
      have n13 : l1 ≠ l3 := ne_of_none (eB _ _ hlA) hl3
      have n23 : l2 ≠ l3 := ne_of_none hlB hl3
      have eD : Ex HC (upd HC lf (.lst [.ref l1, .ref l2, .ref l3])) := Ex.new hlf
      have hlfD : (upd HC lf (.lst [.ref l1, .ref l2, .ref l3])) lf = some (.lst [.ref l1, .ref l2, .ref l3]) := upd_same
      have nf : ∀ {c : Addr} {o : HO}, HC c = some o → c ≠ lf := fun h => ne_of_none h hlf
      have a1 := eD _ _ (eC _ _ (eB _ _ hlA))
      have a2 := eD _ _ (eC _ _ hlB)
      have a3 := eD _ _ hlC
      have nf1 := nf (eC _ _ (eB _ _ hlA))
      have nf2 := nf (eC _ _ hlB)
      have nf3 := nf hlC
      have dA' := dA.ex ((eB.trans eC).trans eD)
      have dB' := dB.ex (eC.trans eD)
      have dC' := dC.ex eD
      have esD : Ex Hs (upd HC lf (.lst [.ref l1, .ref l2, .ref l3])) := ((eA.trans eB).trans eC).trans eD
      generalize upd HC lf (.lst [.ref l1, .ref l2, .ref l3]) = HD at eD hlfD a1 a2 a3 dA' dB' dC' esD
      have e9D : Ex H9 HD := (e911.trans es).trans esD
      refine q_when (b := false) (et_is (evt_test (K := K) (M := MF) (evd_neD (d1 := toldD t us2 ((lns [] t).map (·.1))) (d2 := toldD t us2 ((lns [] t).map (·.1)))
          (evd_var (i := 13) rfl (.lst hlfD (fun h => h) (.cons (.lst a1 (fun h => h) dA'.flat) (.cons (.lst a2 (fun h => h) dB'.flat) (.cons (.lst a3 (fun h => h) dC'.flat) .nil)))))
          (evd_lst okF (eva_cons (evd_var (i := 7) rfl (hkids ((e7.trans e89).trans e9D))) (eva_cons (evd_var (i := 9) rfl (hdue (e9.trans e9D))) (eva_cons (evd_var (i := 10) rfl (hspots e9D)) eva_nil))) (by show 3 ≤ sizeLine; decide)) (flat_told _ _ _) (flat_told _ _ _))) (by rw [(flat_told _ _ _).self]; rfl)) (fun hb HE eE => ?_) (fun hb HE eE => ?_)
      · cases hb
      have esE := esD.trans eE
      have ki : (t.kids.map rowD).length ≤ 50 := by
        rw [List.length_map]
        have := Tr.kids_le t
        omega
      have k1 : x1.length ≤ 100 := by rw [dA.length]; omega
      have k2 : x2.length ≤ 100 := by rw [dB.length, List.length_map]; omega
      have k3 : x3.length ≤ 100 := by
        have := lnsE_len ([], t)
        have h : (lns [] t).length = t.size := this
        rw [dC.length, List.length_map, List.length_map, h]
        omega
      refine s_forLn (K := K) (a := lf) (xs := [.ref l1, .ref l2, .ref l3]) (ev_var (i := 13) rfl) (sq_of (eE _ _ hlfD))
        (fun m σ' H' => Ex Hs H' ∧ H' lf = some (.lst [.ref l1, .ref l2, .ref l3]) ∧ (∀ c ∈ [l1, l2, l3], ∃ ys, H' c = some (.lst ys) ∧ ys.length ≤ 100 + m) ∧ ∃ u14, σ' = [some (.ref a), some (.int (0 + (i : Int))), some (.ref b), some (.ref l), some vr, some (.ref x), some (.ref ll), some (.ref lk), some (.ref ls), some (.ref ld), some (.ref lp), some (.int (t.high : Int)), some (.int (j : Int)), some (.ref lf), u14, u15, u16, u17, u18])
        (fun HF eF => ⟨esE.trans eF, (eE.trans eF) _ _ hlfD, fun c hc => ?_, _, rfl⟩) (fun m σ' H' _ h => sq_of h.2.1) ?_ ?_
      · have eEF := eE.trans eF
        rcases List.mem_cons.mp hc with rfl | hc
        · exact ⟨_, eEF _ _ a1, by omega⟩
        · rcases List.mem_cons.mp hc with rfl | hc
          · exact ⟨_, eEF _ _ a2, by omega⟩
          · rw [List.mem_singleton.mp hc]
            exact ⟨_, eEF _ _ a3, by omega⟩
      · rintro m y σ' HF hy ⟨eF, hfF, hall, w14, rfl⟩
        have hm3 : m < 3 := (List.getElem?_eq_some_iff.mp hy).1
        obtain ⟨c, hc, rfl⟩ : ∃ c ∈ [l1, l2, l3], y = V.ref c := by
          have := List.mem_of_getElem? hy
          rcases List.mem_cons.mp this with rfl | h
          · exact ⟨l1, by simp, rfl⟩
          · rcases List.mem_cons.mp h with rfl | h
            · exact ⟨l2, by simp, rfl⟩
            · rw [List.mem_singleton.mp h]
              exact ⟨l3, by simp, rfl⟩
        obtain ⟨ys, hys, hyl⟩ := hall c hc
        have hcs : Hs c = none := by
          rcases List.mem_cons.mp hc with rfl | hc
          · exact hl1
          · rcases List.mem_cons.mp hc with rfl | hc
            · exact f2
            · rw [List.mem_singleton.mp hc]
              exact f3
        have hcf : lf ≠ c := by
          rcases List.mem_cons.mp hc with rfl | hc
          · exact nf1.symm
          · rcases List.mem_cons.mp hc with rfl | hc
            · exact nf2.symm
            · rw [List.mem_singleton.mp hc]
              exact nf3.symm
        refine s_appP (K := K) (M := MF) (P := (· = .tuple [])) hys rfl (evd_tup eva_nil (by decide)) (Nat.lt_of_le_of_lt (show ys.length ≤ 200 by omega) (by decide)) fun v d HG eG dv pd => ?_
        refine ⟨Ex.mut (eF.trans eG) hcs, by rw [upd_ne hcf]; exact eG _ _ hfF, fun c' hc' => ?_, _, rfl⟩
        by_cases hcc : c' = c
        · subst hcc
          exact ⟨_, upd_same, by rw [List.length_append]; show ys.length + 1 ≤ _; omega⟩
        · obtain ⟨zs, hzs, hzl⟩ := hall c' hc'
          exact ⟨zs, by rw [upd_ne hcc]; exact eG _ _ hzs, by omega⟩
      · rintro σ' HF ⟨eF, _, _, w14, rfl⟩
        exact ⟨es.trans eF, _, _, _, rfl⟩
    · rintro σ' H12 ⟨e12, v12, v13, v14, rfl⟩
      have eall : Ex Hi H12 := ((((e1.trans e2).trans e34).trans e411)).trans e12
      exact ⟨eH.trans eall, _, _, _, _, _, _, _, _, _, _, _, _, _, _, _, _, _, _, rfl⟩
end
end TH
set_option maxRecDepth 100000
set_option maxHeartbeats 4000000
namespace TH
open PySem L2 Evl LamX
/-! ### what the top has written: each a fact that k_is finds -/
def DefG (K : PySem.W.Frag) (x : Str) (st : Stmt) : Prop := ∃ (f : Addr) (fd : FuncData), PySem.W.nsIn K mainGlobals x = some (some (.ref f)) ∧ Fun K x x st f fd
def MethG (K : PySem.W.Frag) (C : Addr) (m q : Str) (st : Stmt) : Prop := ∃ (f : Addr) (fd : FuncData), Meth K C m f ∧ Fun K m q st f fd
section
variable {K : PySem.W.Frag} {x q : Str} {st : Stmt} {f C : Addr} {oc : Value} {od an : Option Addr} {osl : Array (Option Value)} {kV doc pm cdv ct : Value}
theorem defG_mk (a : PySem.W.nsIn K mainGlobals x = some (some (.ref f))) (l : K.lookup f = some ⟨oc, od, .func (PySem.W.fnOf x x (defArgs st) (defBody st) (defScope st) .none kV doc pm an cdv ct), osl⟩)
    (c : PySem.W.codeIn K cdv x = true) (k : PySem.W.keepIn K (.ref f) = true) : DefG K x st := ⟨f, _, a, fun_mk l c k⟩
theorem methG_mk {m : Str} (a : PySem.W.findIn K (.ref C) m = some (some (.ref f))) (i : PySem.W.isFn K (.ref f) = true) (l : K.lookup f = some ⟨oc, od, .func (PySem.W.fnOf m q (defArgs st) (defBody st) (defScope st) .none kV doc pm an cdv ct), osl⟩)
    (c : PySem.W.codeIn K cdv q = true) (k : PySem.W.keepIn K (.ref f) = true) : MethG K C m q st := ⟨f, _, ⟨a, i, k⟩, fun_mk l c k⟩
end
/-- what the names of the built-ins stand for -/
structure NoneG (K : PySem.W.Frag) : Prop where
  n_range : PySem.W.nsIn K mainGlobals "range" = some none
  n_len : PySem.W.nsIn K mainGlobals "len" = some none
  n_abs : PySem.W.nsIn K mainGlobals "abs" = some none
  n_divmod : PySem.W.nsIn K mainGlobals "divmod" = some none
  n_all : PySem.W.nsIn K mainGlobals "all" = some none
  n_any : PySem.W.nsIn K mainGlobals "any" = some none
  n_enumerate : PySem.W.nsIn K mainGlobals "enumerate" = some none
  n_min : PySem.W.nsIn K mainGlobals "min" = some none
  n_max : PySem.W.nsIn K mainGlobals "max" = some none
  n_list : PySem.W.nsIn K mainGlobals "list" = some none
  n_bool : PySem.W.nsIn K mainGlobals "bool" = some none
  n_isinstance : PySem.W.nsIn K mainGlobals "isinstance" = some none
  n_reversed : PySem.W.nsIn K mainGlobals "reversed" = some none
  n_tuple : PySem.W.nsIn K mainGlobals "tuple" = some none
  n_zip : PySem.W.nsIn K mainGlobals "zip" = some none
  n_sorted : PySem.W.nsIn K mainGlobals "sorted" = some none
  n_set : PySem.W.nsIn K mainGlobals "set" = some none
/-- the class Book -/
structure ClsG (K : PySem.W.Frag) (C : Addr) : Prop where
  a : PySem.W.nsIn K mainGlobals "Book" = some (some (.ref C))
  pg : PySem.W.plainGet K C Str.empty = true
  hd : PySem.W.hasDictIn K C = true
  po : PySem.W.plainOver K C = true
  sa : PySem.W.findIn K (.ref C) "__setattr__" = some (some (.builtin "object.__setattr__"))
  made : PySem.W.makesIn K C = true
  kc : PySem.W.keepIn K (.ref C) = true
  n1 : PySem.W.findIn K (.ref C) "_names" = some none
  n2 : PySem.W.findIn K (.ref C) "_kids" = some none
/-- a class of refusals that is raised -/
structure RaiseG (K : PySem.W.Frag) (C : Addr) : Prop where
  x : PySem.W.excIn K C [.type "ValueError", .type "Exception", .type "BaseException", .type "object"] "ValueError.__new__" = true
  k : PySem.W.keepIn K (.ref C) = true
  b : PySem.W.subIn K (.ref C) (.type "BaseException") = some true
  t : PySem.W.typeIn K (.ref C) = some (.type "type")
theorem all_mk {l : PySem.W.OpenLaw} {w : World} {K : PySem.W.Frag} {h : Heap} {mg : Str → Option Value} {fa C fL : Addr} (X : K.In h) (G : h.Ns mainGlobals mg) (hfa : mg "law" = some (.ref fa))
    {oc : Value} {od an : Option Addr} {osl : Array (Option Value)} {kV doc pm cdL ct : Value} {t1 t2 t3 t4 : Tok} {D1 D2 : Addr}
    (NG : NoneG K) (CG : ClsG K C) (aN : PySem.W.nsIn K mainGlobals "NoBook" = some (some (.ref D1))) (RG : RaiseG K D1) (aT : PySem.W.nsIn K mainGlobals "NoTree" = some (some (.ref D2))) (RT : RaiseG K D2)
    (D_is_name : DefG K "is_name" sName)
    (D_is_sign : DefG K "is_sign" sSign)
    (D_are_signs : DefG K "are_signs" sAre)
    (D_is_row : DefG K "is_row" sIsRow)
    (D_is_tree : DefG K "is_tree" sIsTree)
    (D_check_tree : DefG K "check_tree" sCheck)
    (D_sizes_of : DefG K "sizes_of" sSizes)
    (D_kid_starts : DefG K "kid_starts" sKidSt)
    (D_rank : DefG K "rank" sRank)
    (D_kids_of : DefG K "kids_of" sKidsOf)
    (D_height : DefG K "height" sHeight)
    (D_parts : DefG K "parts" sParts)
    (D_places : DefG K "places" sPlaces)
    (D__law_box : DefG K "_law_box" sBox)
    (D__law_more : DefG K "_law_more" sMore)
    (D__law_take : DefG K "_law_take" sTake)
    (D__law_signs : DefG K "_law_signs" sSigns)
    (D__law_row : DefG K "_law_row" sLRow)
    (D__law_key : DefG K "_law_key" sLKey)
    (D__law_kids : DefG K "_law_kids" sLKids)
    (D__law_lines : DefG K "_law_lines" sLines)
    (M___init__ : MethG K C "__init__" "Book.__init__" sInit)
    (M_many : MethG K C "many" "Book.many" sMany)
    (M_has : MethG K C "has" "Book.has" sHas)
    (M_kids : MethG K C "kids" "Book.kids" sKd)
    (k1 : PySem.W.nsIn K mainGlobals "LONGEST_NAME" = some (some (.int 3 t1))) (k2 : PySem.W.nsIn K mainGlobals "MOST_SIGNS_signs" = some (some (.int 6 t2))) (k3 : PySem.W.nsIn K mainGlobals "MOST_KIDS" = some (some (.int 2 t3))) (k4 : PySem.W.nsIn K mainGlobals "MOST_SIGNS_trees" = some (some (.int 40 t4)))
    (aL : PySem.W.nsIn K mainGlobals "law" = some (some (.ref fL))) (lk : K.lookup fL = some ⟨oc, od, .func (PySem.W.fnOf "law" "law" (defArgs sLaw) (defBody sLaw) (defScope sLaw) .none kV doc pm an cdL ct), osl⟩)
    (hcd : PySem.W.codeIn K cdL "law" = true) (kL : PySem.W.keepIn K (.ref fL) = true) :
    LawAtS l w K CX0 8 63 "_law_script" mg fa h := by
  have e := hfa.symm.trans (PySem.W.mg_of X G aL)
  cases e
  have gn : ∀ {x : Str}, PySem.W.nsIn K mainGlobals x = some none → mg x = none := fun z => PySem.W.mg_none_of X G z
  have gs : ∀ {x : Str} {v : Value}, PySem.W.nsIn K mainGlobals x = some (some v) → mg x = some v := fun z => PySem.W.mg_of X G z
  have GS : GlobS mg := { range := gn NG.n_range, len := gn NG.n_len, abs := gn NG.n_abs, divmod := gn NG.n_divmod, all := gn NG.n_all, any := gn NG.n_any, longest := ⟨_, gs k1⟩, most := ⟨_, gs k2⟩, mostK := ⟨_, gs k3⟩, enumerate := gn NG.n_enumerate }
  have GL : GlobL mg := { GS with min := gn NG.n_min }
  have GW : GlobW mg := { GL with max := gn NG.n_max, bool := gn NG.n_bool, isinstance := gn NG.n_isinstance, sorted := gn NG.n_sorted, set := gn NG.n_set }
  have GR : GlobR mg := { mostT := ⟨_, gs k4⟩, reversed := gn NG.n_reversed }
  have GU : GlobU mg := { tuple := gn NG.n_tuple }
  have GZ : GlobZ mg := { list := gn NG.n_list, zip := gn NG.n_zip }
  have T : BookT K mg C := ⟨⟨CG.pg, CG.hd, CG.po, CG.sa⟩, CG.n1, CG.n2, gs CG.a⟩
  have TN : ExcT K mg "NoBook" D1 := ⟨gs aN, RG.x, RG.k, RG.b, RG.t⟩
  have TT : ExcT K mg "NoTree" D2 := ⟨gs aT, RT.x, RT.k, RT.b, RT.t⟩
  obtain ⟨f_is_name, d_is_name, a_is_name, F_is_name⟩ := D_is_name
  have b_is_name := F_is_name.binds (ps := ["name", "longest"]) fun _ _ _ _ _ _ us hl => match us, hl with | [_, _], _ => rfl
  obtain ⟨f_is_sign, d_is_sign, a_is_sign, F_is_sign⟩ := D_is_sign
  have b_is_sign := F_is_sign.binds (ps := ["sign"]) fun _ _ _ _ _ _ us hl => match us, hl with | [_], _ => rfl
  obtain ⟨f_are_signs, d_are_signs, a_are_signs, F_are_signs⟩ := D_are_signs
  have b_are_signs := F_are_signs.binds (ps := ["signs"]) fun _ _ _ _ _ _ us hl => match us, hl with | [_], _ => rfl
  obtain ⟨f_is_row, d_is_row, a_is_row, F_is_row⟩ := D_is_row
  have b_is_row := F_is_row.binds (ps := ["book", "row"]) fun _ _ _ _ _ _ us hl => match us, hl with | [_, _], _ => rfl
  obtain ⟨f_is_tree, d_is_tree, a_is_tree, F_is_tree⟩ := D_is_tree
  have b_is_tree := F_is_tree.binds (ps := ["book", "tree"]) fun _ _ _ _ _ _ us hl => match us, hl with | [_, _], _ => rfl
  obtain ⟨f_check_tree, d_check_tree, a_check_tree, F_check_tree⟩ := D_check_tree
  have b_check_tree := F_check_tree.binds (ps := ["book", "tree"]) fun _ _ _ _ _ _ us hl => match us, hl with | [_, _], _ => rfl
  obtain ⟨f_sizes_of, d_sizes_of, a_sizes_of, F_sizes_of⟩ := D_sizes_of
  have b_sizes_of := F_sizes_of.binds (ps := ["book", "row"]) fun _ _ _ _ _ _ us hl => match us, hl with | [_, _], _ => rfl
  obtain ⟨f_kid_starts, d_kid_starts, a_kid_starts, F_kid_starts⟩ := D_kid_starts
  have b_kid_starts := F_kid_starts.binds (ps := ["book", "row", "sizes", "start"]) fun _ _ _ _ _ _ us hl => match us, hl with | [_, _, _, _], _ => rfl
  obtain ⟨f_rank, d_rank, a_rank, F_rank⟩ := D_rank
  have b_rank := F_rank.binds (ps := ["book", "row"]) fun _ _ _ _ _ _ us hl => match us, hl with | [_, _], _ => rfl
  obtain ⟨f_kids_of, d_kids_of, a_kids_of, F_kids_of⟩ := D_kids_of
  have b_kids_of := F_kids_of.binds (ps := ["book", "tree"]) fun _ _ _ _ _ _ us hl => match us, hl with | [_, _], _ => rfl
  obtain ⟨f_height, d_height, a_height, F_height⟩ := D_height
  have b_height := F_height.binds (ps := ["book", "tree"]) fun _ _ _ _ _ _ us hl => match us, hl with | [_, _], _ => rfl
  obtain ⟨f_parts, d_parts, a_parts, F_parts⟩ := D_parts
  have b_parts := F_parts.binds (ps := ["book", "tree"]) fun _ _ _ _ _ _ us hl => match us, hl with | [_, _], _ => rfl
  obtain ⟨f_places, d_places, a_places, F_places⟩ := D_places
  have b_places := F_places.binds (ps := ["book", "tree"]) fun _ _ _ _ _ _ us hl => match us, hl with | [_, _], _ => rfl
  obtain ⟨f__law_box, d__law_box, a__law_box, F__law_box⟩ := D__law_box
  have b__law_box := F__law_box.binds (ps := ["_law_script", "_law_k"]) fun _ _ _ _ _ _ us hl => match us, hl with | [_, _], _ => rfl
  obtain ⟨f__law_more, d__law_more, a__law_more, F__law_more⟩ := D__law_more
  have b__law_more := F__law_more.binds (ps := ["_law_box_here"]) fun _ _ _ _ _ _ us hl => match us, hl with | [_], _ => rfl
  obtain ⟨f__law_take, d__law_take, a__law_take, F__law_take⟩ := D__law_take
  have b__law_take := F__law_take.binds (ps := ["_law_box_here", "_law_count"]) fun _ _ _ _ _ _ us hl => match us, hl with | [_, _], _ => rfl
  obtain ⟨f__law_signs, d__law_signs, a__law_signs, F__law_signs⟩ := D__law_signs
  have b__law_signs := F__law_signs.binds (ps := ["_law_box_here"]) fun _ _ _ _ _ _ us hl => match us, hl with | [_], _ => rfl
  obtain ⟨f__law_row, d__law_row, a__law_row, F__law_row⟩ := D__law_row
  have b__law_row := F__law_row.binds (ps := ["_law_box_here", "_law_signs_here", "_law_most"]) fun _ _ _ _ _ _ us hl => match us, hl with | [_, _, _], _ => rfl
  obtain ⟨f__law_key, d__law_key, a__law_key, F__law_key⟩ := D__law_key
  have b__law_key := F__law_key.binds (ps := ["_law_signs_here", "_law_row_here"]) fun _ _ _ _ _ _ us hl => match us, hl with | [_, _], _ => rfl
  obtain ⟨f__law_kids, d__law_kids, a__law_kids, F__law_kids⟩ := D__law_kids
  have b__law_kids := F__law_kids.binds (ps := ["_law_signs_here", "_law_row_here"]) fun _ _ _ _ _ _ us hl => match us, hl with | [_, _], _ => rfl
  obtain ⟨f__law_lines, d__law_lines, a__law_lines, F__law_lines⟩ := D__law_lines
  have b__law_lines := F__law_lines.binds (ps := ["_law_signs_here", "_law_row_here"]) fun _ _ _ _ _ _ us hl => match us, hl with | [_, _], _ => rfl
  obtain ⟨f___init__, d___init__, m___init__, F___init__⟩ := M___init__
  have b___init__ := F___init__.binds (ps := ["self", "signs"]) fun _ _ _ _ _ _ us hl => match us, hl with | [_, _], _ => rfl
  obtain ⟨f_many, d_many, m_many, F_many⟩ := M_many
  have b_many := F_many.binds (ps := ["self"]) fun _ _ _ _ _ _ us hl => match us, hl with | [_], _ => rfl
  obtain ⟨f_has, d_has, m_has, F_has⟩ := M_has
  have b_has := F_has.binds (ps := ["self", "sign"]) fun _ _ _ _ _ _ us hl => match us, hl with | [_, _], _ => rfl
  obtain ⟨f_kids, d_kids, m_kids, F_kids⟩ := M_kids
  have b_kids := F_kids.binds (ps := ["self", "sign"]) fun _ _ _ _ _ _ us hl => match us, hl with | [_, _], _ => rfl
  have bL : ∀ (s : Shared) (u : Value), BindsTo s (PySem.W.fnOf "law" "law" (defArgs sLaw) (defBody sLaw) (defScope sLaw) .none kV doc pm an cdL ct) ⟨[u], []⟩ [("_law_script", u)] := fun s v => .of_eq rfl
  refine ⟨_, [], spLaw K, fun p hp => (nomatch hp), fun p hp => (nomatch hp), fun p hp => (nomatch hp), bL, fun H a ns hl _ _ hS => ⟨a, ns, rfl, hS, hl, fun _ => rfl⟩, fun base KB GBs TB => ?_⟩
  have BK : BookK l.prog w K mg base C := ⟨T, ⟨_, _, m_many, ok_many F_many GS T, b_many⟩, ⟨_, _, m_kids, ok_kd F_kids T, b_kids⟩⟩
  have BH : OneM l.prog w K mg base C "has" 1 ["self", "sign"] (spHas C) := ⟨_, _, m_has, ok_has F_has GS T, b_has⟩
  have GX : OneF l.prog w K mg base "_law_box" 1 ["_law_script", "_law_k"] (spBox K) := ⟨_, _, gs a__law_box, F__law_box.kp, ok_box F__law_box GS.toGlob, b__law_box⟩
  have OT : OneF l.prog w K mg base "_law_take" 2 ["_law_box_here", "_law_count"] spTake := ⟨_, _, gs a__law_take, F__law_take.kp, ok_take F__law_take GS.toGlob F__law_more (gs a__law_more) b__law_more, b__law_take⟩
  obtain ⟨fT, dT, mT, kT, gT, bT⟩ := id OT
  have OS : OneF l.prog w K mg base "_law_signs" 3 ["_law_box_here"] (spSigns K) := ⟨_, _, gs a__law_signs, F__law_signs.kp, ok_signs F__law_signs GL gT kT mT bT, b__law_signs⟩
  have OR : OneF l.prog w K mg base "_law_row" 3 ["_law_box_here", "_law_signs_here", "_law_most"] (spLRow K) := ⟨_, _, gs a__law_row, F__law_row.kp, ok_lrow F__law_row GS.toGlob GU gT kT mT bT, b__law_row⟩
  have OK : OneF l.prog w K mg base "_law_kids" 1 ["_law_signs_here", "_law_row_here"] (spLKids K) := ⟨_, _, gs a__law_kids, F__law_kids.kp, ok_lkids F__law_kids GS.toGlob, b__law_kids⟩
  have OY : OneF l.prog w K mg base "_law_key" 1 ["_law_signs_here", "_law_row_here"] (spLKey K) := ⟨_, _, gs a__law_key, F__law_key.kp, ok_lkey F__law_key GS.toGlob GR GZ, b__law_key⟩
  have OL : OneF l.prog w K mg base "_law_lines" 2 ["_law_signs_here", "_law_row_here"] (spLines K) := ⟨_, _, gs a__law_lines, F__law_lines.kp, ok_lines F__law_lines GS.toGlob GS OK, b__law_lines⟩
  have R1 : OneF l.prog w K mg base "is_row" 2 ["book", "row"] (spIsRow K C) := ⟨_, _, gs a_is_row, F_is_row.kp, ok_isrow F_is_row BK BH, b_is_row⟩
  have R2 : OneF l.prog w K mg base "is_tree" 3 ["book", "tree"] (spIsTree K C) := ⟨_, _, gs a_is_tree, F_is_tree.kp, ok_istree F_is_tree GS.toGlob GR R1, b_is_tree⟩
  have R3 : OneX l.prog w K mg base "check_tree" 4 ["book", "tree"] (spCheck K C D2) := ⟨_, _, gs a_check_tree, F_check_tree.kp, ok_check F_check_tree TT R2, b_check_tree⟩
  have R4 : OneF l.prog w K mg base "sizes_of" 2 ["book", "row"] (spSizes K C) := ⟨_, _, gs a_sizes_of, F_sizes_of.kp, ok_sizes F_sizes_of GS.toGlob GR BK, b_sizes_of⟩
  have R5 : OneF l.prog w K mg base "kid_starts" 2 ["book", "row", "sizes", "start"] (spKidSt K C) := ⟨_, _, gs a_kid_starts, F_kid_starts.kp, ok_kidst F_kid_starts GS.toGlob BK, b_kid_starts⟩
  have R6 : OneF l.prog w K mg base "rank" 3 ["book", "row"] (spRankN K C) := ⟨_, _, gs a_rank, F_rank.kp, ok_rankN F_rank GZ R4, b_rank⟩
  have R7 : OneX l.prog w K mg base "kids_of" 5 ["book", "tree"] (spKidsOf K C) := ⟨_, _, gs a_kids_of, F_kids_of.kp, ok_kidsof F_kids_of R3 R4 R5, b_kids_of⟩
  have R8 : OneX l.prog w K mg base "height" 5 ["book", "tree"] (spHeight K C) := ⟨_, _, gs a_height, F_height.kp, ok_height F_height GS.toGlob GR GW.max R3 R4 R5, b_height⟩
  have R9 : OneX l.prog w K mg base "parts" 5 ["book", "tree"] (spParts K C) := ⟨_, _, gs a_parts, F_parts.kp, ok_parts F_parts GS.toGlob GS GW.sorted R3 R4 R6, b_parts⟩
  have R10 : OneX l.prog w K mg base "places" 5 ["book", "tree"] (spPlaces K C) := ⟨_, _, gs a_places, F_places.kp, ok_places F_places GS.toGlob GS R3 R4 R5, b_places⟩
  exact ok_law (fun_mk lk hcd kL) GW GX OT OS OR OK OY OL R7 R8 R9 R10 T ⟨CG.made, m___init__.at_, m___init__.fn, CG.kc⟩ (ok_init F___init__ GS T TN F_is_name (gs a_is_name) b_is_name F_is_sign (gs a_is_sign) b_is_sign F_are_signs (gs a_are_signs) b_are_signs) b___init__
end TH
open PySem PySem.W PyProof.Rows
set_option maxRecDepth 100000 in
set_option maxHeartbeats 0 in
theorem PySem.Challenge.cw_treehands_k03_kids_parts_places_holds : PySem.Challenge.rw_treehands_k03_kids_parts_places.Holds := by
  w_on; o_law; k_head; (case hw => w_witness2)
  k_fill
  refine LamX.walk_ofTs (l := PySem.Challenge.rw_treehands_k03_kids_parts_places) (n := 63) (k := 8) (x := "_law_script") (CX := fun _ => L2.CX0) rfl (by decide) rfl ⟨rfl, by decide, by decide⟩ (fun w h Y => PySem.W.kIn_of Y) ?F (fun _ _ _ _ _ z => z)
  case F =>
    intro w mg fa h Y KX G hmg
    refine' TH.all_mk KX G hmg ?NG ?CG ?aN ?RG ?aT ?RT ?D_is_name ?D_is_sign ?D_are_signs ?D_is_row ?D_is_tree ?D_check_tree ?D_sizes_of ?D_kid_starts ?D_rank ?D_kids_of ?D_height ?D_parts ?D_places ?D__law_box ?D__law_more ?D__law_take ?D__law_signs ?D__law_row ?D__law_key ?D__law_kids ?D__law_lines ?M___init__ ?M_many ?M_has ?M_kids ?k1 ?k2 ?k3 ?k4 ?aL ?lk ?hcd ?kL
    case NG => exact ⟨by k_is, by k_is, by k_is, by k_is, by k_is, by k_is, by k_is, by k_is, by k_is, by k_is, by k_is, by k_is, by k_is, by k_is, by k_is, by k_is, by k_is⟩
    case CG => (refine' TH.ClsG.mk ?a ?pg ?hd ?po ?sa ?made ?kc ?n1 ?n2; (case a => k_is); (case pg => k_is); (case hd => k_is); (case po => k_is); (case sa => k_is); (case made => k_is); (case kc => k_is); (case n1 => k_is); (case n2 => k_is))
    case aN => k_is
    case RG => (refine' TH.RaiseG.mk ?x ?k ?b ?t; (case x => kernel_rfl); (case k => k_is); (case b => k_is); (case t => k_is))
    case aT => k_is
    case RT => (refine' TH.RaiseG.mk ?x ?k ?b ?t; (case x => kernel_rfl); (case k => k_is); (case b => k_is); (case t => k_is))
    case D_is_name => (refine' TH.defG_mk ?a ?l ?c ?k; (case a => k_is); (case l => k_is); (case c => k_is); (case k => k_is))
    case D_is_sign => (refine' TH.defG_mk ?a ?l ?c ?k; (case a => k_is); (case l => k_is); (case c => k_is); (case k => k_is))
    case D_are_signs => (refine' TH.defG_mk ?a ?l ?c ?k; (case a => k_is); (case l => k_is); (case c => k_is); (case k => k_is))
    case D_is_row => (refine' TH.defG_mk ?a ?l ?c ?k; (case a => k_is); (case l => k_is); (case c => k_is); (case k => k_is))
    case D_is_tree => (refine' TH.defG_mk ?a ?l ?c ?k; (case a => k_is); (case l => k_is); (case c => k_is); (case k => k_is))
    case D_check_tree => (refine' TH.defG_mk ?a ?l ?c ?k; (case a => k_is); (case l => k_is); (case c => k_is); (case k => k_is))
    case D_sizes_of => (refine' TH.defG_mk ?a ?l ?c ?k; (case a => k_is); (case l => k_is); (case c => k_is); (case k => k_is))
    case D_kid_starts => (refine' TH.defG_mk ?a ?l ?c ?k; (case a => k_is); (case l => k_is); (case c => k_is); (case k => k_is))
    case D_rank => (refine' TH.defG_mk ?a ?l ?c ?k; (case a => k_is); (case l => k_is); (case c => k_is); (case k => k_is))
    case D_kids_of => (refine' TH.defG_mk ?a ?l ?c ?k; (case a => k_is); (case l => k_is); (case c => k_is); (case k => k_is))
    case D_height => (refine' TH.defG_mk ?a ?l ?c ?k; (case a => k_is); (case l => k_is); (case c => k_is); (case k => k_is))
    case D_parts => (refine' TH.defG_mk ?a ?l ?c ?k; (case a => k_is); (case l => k_is); (case c => k_is); (case k => k_is))
    case D_places => (refine' TH.defG_mk ?a ?l ?c ?k; (case a => k_is); (case l => k_is); (case c => k_is); (case k => k_is))
    case D__law_box => (refine' TH.defG_mk ?a ?l ?c ?k; (case a => k_is); (case l => k_is); (case c => k_is); (case k => k_is))
    case D__law_more => (refine' TH.defG_mk ?a ?l ?c ?k; (case a => k_is); (case l => k_is); (case c => k_is); (case k => k_is))
    case D__law_take => (refine' TH.defG_mk ?a ?l ?c ?k; (case a => k_is); (case l => k_is); (case c => k_is); (case k => k_is))
    case D__law_signs => (refine' TH.defG_mk ?a ?l ?c ?k; (case a => k_is); (case l => k_is); (case c => k_is); (case k => k_is))
    case D__law_row => (refine' TH.defG_mk ?a ?l ?c ?k; (case a => k_is); (case l => k_is); (case c => k_is); (case k => k_is))
    case D__law_key => (refine' TH.defG_mk ?a ?l ?c ?k; (case a => k_is); (case l => k_is); (case c => k_is); (case k => k_is))
    case D__law_kids => (refine' TH.defG_mk ?a ?l ?c ?k; (case a => k_is); (case l => k_is); (case c => k_is); (case k => k_is))
    case D__law_lines => (refine' TH.defG_mk ?a ?l ?c ?k; (case a => k_is); (case l => k_is); (case c => k_is); (case k => k_is))
    case M___init__ => (refine' TH.methG_mk ?a ?i ?l ?c ?k; (case a => k_is); (case i => k_is); (case l => k_is); (case c => k_is); (case k => k_is))
    case M_many => (refine' TH.methG_mk ?a ?i ?l ?c ?k; (case a => k_is); (case i => k_is); (case l => k_is); (case c => k_is); (case k => k_is))
    case M_has => (refine' TH.methG_mk ?a ?i ?l ?c ?k; (case a => k_is); (case i => k_is); (case l => k_is); (case c => k_is); (case k => k_is))
    case M_kids => (refine' TH.methG_mk ?a ?i ?l ?c ?k; (case a => k_is); (case i => k_is); (case l => k_is); (case c => k_is); (case k => k_is))
    case k1 => k_is
    case k2 => k_is
    case k3 => k_is
    case k4 => k_is
    case aL => k_is
    case lk => k_is
    case hcd => k_is
    case kL => k_is
#print axioms PySem.Challenge.cw_treehands_k03_kids_parts_places_holds
