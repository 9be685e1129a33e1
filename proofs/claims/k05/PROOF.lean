import PyProof.Rows.All
import Wide.All
import OpenK.AllK
import Wide.FinOn
import HandS.ForMost
import HandS.ForExc
import HandS.Evl
import HandS.Walk
import HandS.Wide
import HandS.WideBits
import HandS.SetBool
import HandS.SetKeys
import HandS.IsInst
import HandS.ExcIs
import HandS.Lambda
import HandS.Style
import HandS.RevRange
import HandS.TupAny
import KE.KDictPairs
import HandS.TupMul
import HandS.EndTab
import PySem.Challenge.RW_treehands_k05_at_and_put
set_option Elab.async false
set_option linter.all false
set_option maxRecDepth 100000
set_option maxHeartbeats 4000000
namespace TH
open PySem PySem.Spec PyProof.Rows L2 Evl

/-! ### the box: a list of two ints whose values nobody asks for -/
def BoxAt (b : Addr) (h : Heap) : Prop :=
  ∃ (i j : Int) (t u : Tok) (n : Nat), h.get? b = some { cls := .type "list", data := .seq [Value.int i t, .int j u].toArray n }
def Box (b : Addr) : HO := .ext (BoxAt b)

theorem box_shut {P : Program} {w : World} {H H' : Hp} {h : Heap} {b : Addr} {i j : Int}
    (x : ObjOk P w H h b (.lst [.int i, .int j])) : ObjOk P w H' h b (Box b) := by
  obtain ⟨_, its, n, r, e⟩ := x
  cases r with
  | cons r1 r =>
    cases r with
    | cons r2 r =>
      cases r
      obtain ⟨t, rfl⟩ := r1
      obtain ⟨u, rfl⟩ := r2
      exact ⟨⟨i, j, t, u, n, e⟩, ⟨_, e⟩, fun h1 h2 ⟨i, j, t, u, n, q⟩ k => ⟨i, j, t, u, n, k _ q⟩⟩
theorem box_open {P : Program} {w : World} {H : Hp} {h : Heap} {b : Addr}
    (x : ObjOk P w H h b (Box b)) : ∃ i j : Int, ∀ H', ObjOk P w H' h b (.lst [.int i, .int j]) := by
  obtain ⟨⟨i, j, t, u, n, e⟩, _, _⟩ := x
  exact ⟨i, j, fun H' => ⟨by show 2 ≤ sizeLine; decide, _, n, .cons ⟨t, rfl⟩ (.cons ⟨u, rfl⟩ .nil), e⟩⟩
section
variable {X : Cx} {pins : List (Addr × Obj)} {σ : L2.St} {H : Hp} {s : Shared} {b : Addr}
theorem inv_swap {o o' : HO} (I : Inv X pins σ H s) (ho : H b = some o) (mu : Mut (some o))
    (lt : ∃ u, s.heap.get? b = some u) (new : ObjOk X.prog X.w (upd H b o') s.heap b o') : Inv X pins σ (upd H b o') s := by
  exact I.write (e := b) (t' := s.toks) (by rw [ho]; exact mu) (.inl rfl) (fun _ _ _ q => q) lt new
theorem inv_shut {i j : Int} (I : Inv X pins σ H s) (hb : H b = some (.lst [.int i, .int j])) : Inv X pins σ (upd H b (Box b)) s :=
  let ⟨_, _, _, _, e⟩ := I.hok b _ hb; inv_swap I hb trivial ⟨_, e⟩ (box_shut (I.hok b _ hb))
theorem inv_open (I : Inv X pins σ H s) (hb : H b = some (Box b)) : ∃ i j : Int, Inv X pins σ (upd H b (.lst [.int i, .int j])) s := by
  obtain ⟨i, j, k⟩ := box_open (I.hok b _ hb)
  exact ⟨i, j, inv_swap I hb trivial (I.hok b _ hb).2.1 (k _)⟩
theorem upd_same_eq {o : HO} (h : H b = some o) : upd H b o = H := by
  funext c
  unfold upd
  split
  · rename_i e
    rw [e, h]
  · rfl
end
section
variable {X : Cx}
/-- box[0], box[1] -/
def rIxBox : R2 := fun x y H Q => ∃ (b : Addr) (k : Int), x = .ref b ∧ y = .int k ∧ (k = 0 ∨ k = 1) ∧ H b = some (Box b) ∧ ∀ z, Q (.int z) H
theorem ix_box : IxR X rIxBox := by
  intro value slice pins s σ H x y v u Q I rx ry h hs
  obtain ⟨b, k, rfl, rfl, hk, hb, q⟩ := h
  obtain ⟨i, j, I1⟩ := inv_open I hb
  have hx : ∃ z, atI [V.int i, V.int j] k = some (.int z) := by
    rcases hk with rfl | rfl
    · exact ⟨i, rfl⟩
    · exact ⟨j, rfl⟩
  obtain ⟨z, hz⟩ := hx
  refine wpAny_mono (ix_list value slice pins s σ _ (.ref b) (.int k) v u (fun v H1 => v = .int z ∧ H1 = upd H b (.lst [.int i, .int j])) I1 rx ry ⟨b, _, k, _, rfl, rfl, SqL.of upd_same, hz, rfl, rfl⟩ hs) (fun w s1 hw => ?_) fun _ _ e => e
  obtain ⟨v1, H1, I2, r1, e1, e2⟩ := hw
  subst e1 e2
  have I3 := inv_shut I2 upd_same
  rw [upd_upd, upd_same_eq hb] at I3
  exact ⟨_, H, I3, r1, q z⟩
/-- box[0] = an int -/
def rSetBox : V → V → V → Hp → (Hp → Prop) → Prop := fun o i v H Q => ∃ (b : Addr) (k z : Int), o = .ref b ∧ i = .int k ∧ v = .int z ∧ (k = 0 ∨ k = 1) ∧ H b = some (Box b) ∧ Q H
theorem set_box : PSet X rSetBox := by
  intro pins s σ H o i v ov iv u Q I ro ri rv h
  obtain ⟨b, k, z, rfl, rfl, rfl, hk, hb, q⟩ := h
  obtain ⟨i0, j0, I1⟩ := inv_open I hb
  have hx : ∃ n i1 j1, ixN [V.int i0, V.int j0].length k = some n ∧ [V.int i0, V.int j0].set n (.int z) = [.int i1, .int j1] := by
    rcases hk with rfl | rfl
    · exact ⟨0, z, j0, rfl, rfl⟩
    · exact ⟨1, i0, z, rfl, rfl⟩
  obtain ⟨n, i1, j1, hn, hset⟩ := hx
  refine wpAny_mono (set_list pins s σ _ (.ref b) (.int k) (.int z) ov iv u (fun H1 => H1 = upd (upd H b (.lst [.int i0, .int j0])) b (.lst [.int i1, .int j1])) I1 ro ri rv ⟨b, _, k, n, rfl, rfl, upd_same, hn, by rw [hset]⟩) (fun _ s1 hw => ?_) fun _ _ e => e
  obtain ⟨H1, I2, e1⟩ := hw
  subst e1
  have I3 := inv_shut I2 upd_same
  rw [upd_upd, upd_upd, upd_same_eq hb] at I3
  exact ⟨H, I3, q⟩
/-- a value that is a new list of two ints becomes a box -/
theorem pe_shut {e : Expr} {t : TE} (h : PE X e t) : PE X e (fun σ H Q => t σ H fun v H1 => ∃ b i j, v = .ref b ∧ H1 b = some (.lst [.int i, .int j]) ∧ Q (.ref b) (upd H1 b (Box b))) := by
  refine ⟨fun pins s σ H Q I q => ?_⟩
  refine wpAny_mono (h.run pins s σ H _ I q) (fun u s1 hu => ?_) fun _ _ e => e
  obtain ⟨v, H1, I1, r1, b, i, j, rfl, hb, q1⟩ := hu
  exact ⟨.ref b, _, inv_shut I1 hb, r1, q1⟩
end
theorem divP {i j : Int} {b : Nat} (h : 0 < j) (hb : j.natAbs < 2 ^ b) (h0 : 0 < b) (h9 : b ≤ 9000) : CDivP i j :=
  ⟨h, PyProof.noPylong_of_log2 (Nat.lt_of_lt_of_le (PySem.Flt.log2_lt_of h0 hb) h9)⟩
end TH
set_option maxRecDepth 100000
set_option maxHeartbeats 4000000
namespace TH
open PySem L2 Evl
def top (i : Nat) : Stmt := PySem.Challenge.pw_treehands_k05_at_and_put.main.body.getD i (.Pass ⟨0, 0, 0, 0⟩)
abbrev sBox : Stmt := top 36
abbrev sMore : Stmt := top 37
abbrev sTake : Stmt := top 38

structure Glob (mg : Str → Option Value) : Prop where
  range : mg "range" = none
  len : mg "len" = none
  abs : mg "abs" = none
  divmod : mg "divmod" = none

/-- _law_box: a new box -/
def spBox (K : PySem.W.Frag) : Sp := fun vs H Q _ => ∃ (a : Addr) (ns : List Int) (k : Int), vs = [.ref a, .int k] ∧ SqL K H a (ns.map V.int) ∧ 0 ≤ k ∧ k ≤ 100 ∧
  ∀ b H', H b = none → Ex H H' → H' b = some (Box b) → Q (.ref b) H'
/-- _law_more: a number that is not negative -/
def spMore : Sp := fun vs H Q _ => ∃ b : Addr, vs = [.ref b] ∧ H b = some (Box b) ∧ ∀ n : Int, 0 ≤ n → n.natAbs < 2 ^ 200 → Q (.int n) H
/-- _law_take: a digit below the count -/
def spTake : Sp := fun vs H Q _ => ∃ (b : Addr) (n : Int), vs = [.ref b, .int n] ∧ H b = some (Box b) ∧ 0 < n ∧ n.natAbs < 2 ^ 200 ∧
  ∀ d H', 0 ≤ d → d < n → Ex H H' → Q (.int d) H'

section
variable {P : Program} {w : World} {K : PySem.W.Frag} {mg : Str → Option Value} {base : Heap}
theorem scBox : FnScope ["_law_script", "_law_k", "_law_here", "_law_number", "_law_j", "_law_piece"] ["_law_script", "_law_k"] (defScope sBox) :=
  ⟨rfl, rfl, rfl, by decide +kernel, rfl, by decide +kernel, by decide +kernel⟩
theorem ok_box {f : Addr} {fd : FuncData} (F : Fun K "_law_box" "_law_box" sBox f fd) (G : Glob mg) :
    FnOk P w K mg base CX0 1 f fd ["_law_script", "_law_k"] (spBox K) := by
  refine F.ok scBox (fun vs H Q E h => ?_) (fun cdv A outer s H vs Q E hr h => ?_)
  · obtain ⟨a, ns, k, rfl, _⟩ := h
    rfl
  · obtain ⟨a, ns, k, rfl, hS, hk0, hk1, q⟩ := h
    refine ⟨_, pss_cons (ps_set (i := 2) scBox.nd rfl (.inl rfl) (pe_op op_add (pe_op op_mul pe_int (pv 1)) pe_int))
      (pss_cut (ps_if (pt_cmpR op_lt (pv 1) (pe_callB call_len_seq (by rfl) G.len PySem.boot_len (pa_cons (pv 0) pa_nil)) (nomark _))
        (pss_one (ps_set (i := 2) scBox.nd rfl (.inl rfl) (pe_ix ix_list (pv 0) (pv 1) (fun _ _ => rfl)))) pss_nil)
      (pss_cons (ps_if (pt_cmpR op_eq (pe_op op_mod (pv 2) pe_int) pe_int (nomark _))
        (pss_one (ps_ret (pe_shut (pe_lst (pa_cons (pe_op op_fdiv (pv 2) pe_int) (pa_cons (pe_op op_mod (pe_callB call_abs (by rfl) G.abs (by decide +kernel) (pa_cons (pv 2) pa_nil)) pe_int) pa_nil)))))) pss_nil)
      (pss_cons (ps_set (i := 3) scBox.nd rfl (.inl rfl) pe_int)
      (pss_cons (ps_for PassesOwn.never rfl (pi_range1 rfl G.range (pa_cons pe_int pa_nil)) (pg_name (i := 4) scBox.nd rfl (.inl rfl))
        (pss_cons (ps_set (i := 5) scBox.nd rfl (.inl rfl) (pe_op op_mod (pe_op op_add (pe_op op_add (pe_op op_mul (pe_op op_mod (pv 2) pe_int) pe_int) (pe_op op_mul pe_int (pv 4))) pe_int) pe_int))
        (pss_cons (ps_set (i := 5) scBox.nd rfl (.inl rfl) (pe_op op_mod (pe_op op_mul (pv 5) (pv 5)) pe_int))
        (pss_one (ps_set (i := 3) scBox.nd rfl (.inl rfl) (pe_op op_add (pe_op op_mul (pv 3) pe_int) (pe_op op_mod (pe_op op_mul (pv 5) (pe_op op_add (pv 5) pe_int)) pe_int)))))))
      (pss_one (ps_ret (pe_shut (pe_lst (pa_cons (pv 3) (pa_cons (pe_op op_mod (pe_callB call_abs (by rfl) G.abs (by decide +kernel) (pa_cons (pv 2) pa_nil)) pe_int) pa_nil)))))))))), ?_⟩
    -- 7919 * k + 13
    refine ⟨_, rfl, _, _, rfl, rfl, .inl (by decide), _, _, rfl, rfl, ?_⟩
    -- if k < len(script)
    refine ⟨fun σ' H' => H' = H ∧ ∃ z : Int, σ' = [some (.ref a), some (.int k), some (.int z), none, none, none], ?_, ?_⟩
    · refine ⟨_, rfl, _, rfl, _, _, rfl, .inl hS, _, _, rfl, rfl, _, rfl, ite2 (fun c => ?_) (fun _ => ?_)⟩
      · have c' : k < ((ns.map V.int).length : Int) := of_decide_eq_true c
        rw [List.length_map] at c'
        obtain ⟨j, rfl⟩ := Int.eq_ofNat_of_zero_le hk0
        have hj : j < ns.length := by omega
        refine ⟨_, rfl, _, rfl, _, _, _, .int ns[j], rfl, rfl, hS, atI_nat (by simp [hj]), rfl, ns[j], rfl⟩
      · exact ⟨rfl, _, rfl⟩
    · rintro σ' H' ⟨rfl, z, rfl⟩
      -- if here % 2 == 0
      refine ⟨_, rfl, _, _, rfl, rfl, (by show (0 : Int) < 2; decide), rfl, _, rfl, ite2 (fun _ => ?_) (fun _ => ?_)⟩
      · refine ⟨_, rfl, _, _, rfl, rfl, ⟨by decide, by decide⟩, _, rfl, _, rfl, _, _, rfl, rfl, (by show (0 : Int) < 2147483647; decide), (by show 2 ≤ sizeLine; decide), fun p hp => ⟨p, _, _, rfl, upd_same, ?_⟩⟩
        rw [upd_upd]
        exact q p _ hp (Ex.new hp) upd_same
      · refine ⟨16, rfl, by decide, by decide, for_range (n := 16) (fun i σ' H'' => H'' = H' ∧ ∃ (n : Int) (u v : Option V), σ' = [some (.ref a), some (.int k), some (.int z), some (.int n), u, v]) ⟨rfl, 0, none, none, rfl⟩ ?_ ?_⟩
        · rintro i σ' H'' hi ⟨rfl, n, u, v, rfl⟩
          have hm : ∀ x : Int, 0 ≤ x % 2147483647 ∧ x % 2147483647 < 2147483647 := fun x => ⟨Int.emod_nonneg _ (by decide), Int.emod_lt_of_pos _ (by decide)⟩
          have hm2 : ∀ x : Int, 0 ≤ x % 2147483629 ∧ x % 2147483629 < 2147483629 := fun x => ⟨Int.emod_nonneg _ (by decide), Int.emod_lt_of_pos _ (by decide)⟩
          refine ⟨_, rfl, _, _, rfl, rfl, (by show (0 : Int) < 2147483647; decide), _, _, rfl, rfl, .inr (by decide), _, rfl, _, _, rfl, rfl, .inl (by decide), _, _, rfl, rfl, _, _, rfl, rfl, _, _, rfl, rfl, (by show (0 : Int) < 2147483647; decide), ?_⟩
          refine ⟨_, rfl, _, rfl, _, _, rfl, rfl, .inl ?_, _, _, rfl, rfl, (by show (0 : Int) < 2147483629; decide), ?_⟩
          · have := hm (z % 2147483647 * 48271 + 7919 * (0 + (i : Int)) + 1)
            omega
          refine ⟨_, rfl, _, _, rfl, rfl, .inr (by decide), _, rfl, _, rfl, _, _, rfl, rfl, _, _, rfl, rfl, .inl ?_, _, _, rfl, rfl, (by show (0 : Int) < 2147483647; decide), _, _, rfl, rfl, rfl, _, _, _, rfl⟩
          · have := hm2 ((z % 2147483647 * 48271 + 7919 * (0 + (i : Int)) + 1) % 2147483647 * ((z % 2147483647 * 48271 + 7919 * (0 + (i : Int)) + 1) % 2147483647))
            omega
        · rintro σ' H'' ⟨rfl, n, u, v, rfl⟩
          refine ⟨_, rfl, _, rfl, _, rfl, _, _, rfl, rfl, (by show (0 : Int) < 2147483647; decide), (by show 2 ≤ sizeLine; decide), fun p hp => ⟨p, _, _, rfl, upd_same, ?_⟩⟩
          rw [upd_upd]
          exact q p _ hp (Ex.new hp) upd_same
theorem pow_step {i : Nat} {n r : Int} (h0 : 0 ≤ n) (h : n < 65521 ^ i) (r0 : 0 ≤ r) (r1 : r < 65521) : 0 ≤ n * 65521 + r ∧ n * 65521 + r < 65521 ^ (i + 1) := by
  rw [Int.pow_succ]
  have h2 : n + 1 ≤ 65521 ^ i := h
  have h3 : (n + 1) * 65521 ≤ 65521 ^ i * 65521 := Int.mul_le_mul_of_nonneg_right h2 (by decide)
  rw [Int.add_mul] at h3
  refine ⟨?_, ?_⟩
  · have := Int.mul_nonneg h0 (show (0 : Int) ≤ 65521 by decide)
    omega
  · omega
theorem scMore : FnScope ["_law_box_here", "_law_number", "_law_j"] ["_law_box_here"] (defScope sMore) :=
  ⟨rfl, rfl, rfl, by decide +kernel, rfl, by decide +kernel, by decide +kernel⟩
theorem ok_more {f : Addr} {fd : FuncData} (F : Fun K "_law_more" "_law_more" sMore f fd) (G : Glob mg) :
    FnOk P w K mg base CX0 1 f fd ["_law_box_here"] spMore := by
  refine F.ok scMore (fun vs H Q E h => ?_) (fun cdv A outer s H vs Q E hr h => ?_)
  · obtain ⟨b, rfl, _⟩ := h
    rfl
  · obtain ⟨b, rfl, hb, q⟩ := h
    refine ⟨_, pss_cons (ps_set (i := 1) scMore.nd rfl (.inl rfl) pe_int)
      (pss_cons (ps_for PassesOwn.never rfl (pi_range1 rfl G.range (pa_cons pe_int pa_nil)) (pg_name (i := 2) scMore.nd rfl (.inl rfl))
        (pss_cons (ps_asg (pe_op op_mod (pe_op op_add (pe_op op_mul (pe_ix ix_box (pv 0) pe_int (fun _ _ => rfl)) pe_int) pe_int) pe_int) (pg_sub (pv 0) pe_int set_box))
        (pss_one (ps_set (i := 1) scMore.nd rfl (.inl rfl) (pe_op op_add (pe_op op_mul (pv 1) pe_int) (pe_op op_mod (pe_op op_fdiv (pe_ix ix_box (pv 0) pe_int (fun _ _ => rfl)) pe_int) pe_int))))))
      (pss_one (ps_ret (pv 1)))), ?_⟩
    refine ⟨12, rfl, by decide, by decide, for_range (n := 12) (fun i σ' H' => H' = H ∧ ∃ (n : Int) (u : Option V), σ' = [some (.ref b), some (.int n), u] ∧ 0 ≤ n ∧ n < 65521 ^ i) ⟨rfl, 0, none, rfl, by decide, by decide⟩ ?_ ?_⟩
    · rintro i σ' H' hi ⟨rfl, n, u, rfl, h0, h1⟩
      refine ⟨_, rfl, b, 1, rfl, rfl, .inr rfl, hb, fun z => ⟨_, _, rfl, rfl, .inr (by decide), _, _, rfl, rfl, _, _, rfl, rfl, (by show (0 : Int) < 2147483647; decide), ?_⟩⟩
      refine ⟨_, rfl, b, 1, _, rfl, rfl, rfl, .inr rfl, hb, ?_⟩
      refine ⟨_, rfl, _, _, rfl, rfl, .inr (by decide), _, rfl, b, 1, rfl, rfl, .inr rfl, hb, fun y => ⟨_, _, rfl, rfl, ⟨by decide, by decide⟩, _, _, rfl, rfl, (by show (0 : Int) < 65521; decide), _, _, rfl, rfl, rfl, _, _, rfl, ?_⟩⟩
      exact pow_step h0 h1 (Int.emod_nonneg _ (by decide)) (Int.emod_lt_of_pos _ (by decide))
    · rintro σ' H' ⟨rfl, n, u, rfl, h0, h1⟩
      refine ⟨_, rfl, q n h0 ?_⟩
      have e : (65521 : Int) ^ 12 < 2 ^ 200 := by decide
      have e2 : ((n.natAbs : Nat) : Int) < ((2 ^ 200 : Nat) : Int) := by
        rw [Int.natAbs_of_nonneg h0]
        exact Int.lt_trans h1 (by decide)
      exact Int.ofNat_lt.mp e2
theorem scTake : FnScope ["_law_box_here", "_law_count", "_law_rest_of", "_law_digit"] ["_law_box_here", "_law_count"] (defScope sTake) :=
  ⟨rfl, rfl, rfl, by decide +kernel, rfl, by decide +kernel, by decide +kernel⟩
theorem ok_take {f fM : Addr} {fd fdM : FuncData} (F : Fun K "_law_take" "_law_take" sTake f fd) (G : Glob mg) (FM : Fun K "_law_more" "_law_more" sMore fM fdM) (mM : mg "_law_more" = some (.ref fM)) (bM : Binds K fdM ["_law_box_here"] []) :
    FnOk P w K mg base CX0 2 f fd ["_law_box_here", "_law_count"] spTake := by
  have GM : FnOk P w K mg base CX0 1 fM fdM ["_law_box_here"] spMore := ok_more FM G
  refine F.ok scTake (fun vs H Q E h => ?_) (fun cdv A outer s H vs Q E hr h => ?_)
  · obtain ⟨b, n, rfl, _⟩ := h
    rfl
  · obtain ⟨b, n, rfl, hb, n0, nb, q⟩ := h
    refine ⟨_, pss_cut (ps_if (pt_chain op_le op_lt pe_int (pe_ix ix_box (pv 0) pe_int (fun _ _ => rfl)) (pv 1))
        (pss_one (ps_asg (pe_op op_add (pe_ix ix_box (pv 0) pe_int (fun _ _ => rfl)) (pe_op op_mulW (pv 1) (pe_call GM hr rfl mM FM.kp bM .nil pass0 (pa_cons (pv 0) pa_nil)))) (pg_sub (pv 0) pe_int set_box))) pss_nil)
      (pss_cons (ps_asg (pe_callB call_divmodW (by rfl) G.divmod (by decide +kernel) (pa_cons (pe_ix ix_box (pv 0) pe_int (fun _ _ => rfl)) (pa_cons (pv 1) pa_nil)))
        (pg_tup (by rfl) (pgs_cons (pg_name (i := 2) scTake.nd rfl (.inl rfl)) (pgs_cons (pg_name (i := 3) scTake.nd rfl (.inl rfl)) pgs_nil))))
      (pss_cons (ps_asg (pv 2) (pg_sub (pv 0) pe_int set_box))
      (pss_one (ps_ret (pv 3))))), ?_⟩
    refine ⟨fun σ' H' => H' = H ∧ σ' = [some (.ref b), some (.int n), none, none], ?_, ?_⟩
    · refine ⟨_, rfl, b, 0, rfl, rfl, .inl rfl, hb, fun z => ⟨_, _, rfl, rfl, _, rfl, ite2 (fun c => ?_) (fun _ => ?_)⟩⟩
      · refine ⟨_, rfl, _, _, rfl, rfl, _, rfl, ite2 (fun _ => ?_) (fun _ => ?_)⟩
        · refine ⟨_, rfl, b, 0, rfl, rfl, .inl rfl, hb, fun y => ⟨_, rfl, _, rfl, b, rfl, hb, fun m m0 mb => ⟨_, _, rfl, rfl, wide_mul nb mb (by decide) (by decide) (by decide), _, _, rfl, rfl, ?_⟩⟩⟩
          exact ⟨_, rfl, b, 0, _, rfl, rfl, rfl, .inl rfl, hb, rfl, rfl⟩
        · exact ⟨rfl, rfl⟩
      · exact ⟨_, rfl, iteF ⟨rfl, rfl⟩⟩
    · rintro σ' H' ⟨rfl, rfl⟩
      refine ⟨_, rfl, b, 0, rfl, rfl, .inl rfl, hb, fun z => ⟨_, rfl, _, _, rfl, divP n0 nb (by decide) (by decide), fun p hp => ?_⟩⟩
      have e : Ex H' (upd H' p (.tup [.int (z / n), .int (z % n)])) := Ex.new hp
      refine ⟨p, _, rfl, SqT.of upd_same, rfl, _, _, rfl, _, _, rfl, rfl, ?_⟩
      refine ⟨_, rfl, _, rfl, b, 0, _, rfl, rfl, rfl, .inl rfl, e _ _ hb, ?_⟩
      exact ⟨_, rfl, q _ _ (Int.emod_nonneg _ (by omega)) (Int.emod_lt_of_pos _ n0) e⟩
end
end TH
set_option maxRecDepth 100000
set_option maxHeartbeats 4000000
namespace TH
open PySem L2 Evl
/-! ### data as it lies in the heap, its lists apart from the ones that are being changed (M) -/
mutual
inductive Dt (K : PySem.W.Frag) (M : Addr → Prop) (H : Hp) : V → PyData → Prop
  | non : Dt K M H .non .none
  | bl (b : Bool) : Dt K M H (.bl b) (.bool b)
  | int (i : Int) : Dt K M H (.int i) (.int i)
  | str (x : Str) : Dt K M H (.str x) (.str x)
  | lst {a : Addr} {xs : List V} {ds : List PyData} : H a = some (.lst xs) → ¬ M a → Dts K M H xs ds → Dt K M H (.ref a) (.list ds)
  | tup {a : Addr} {xs : List V} {ds : List PyData} : H a = some (.tup xs) → Dts K M H xs ds → Dt K M H (.ref a) (.tuple ds)
inductive Dts (K : PySem.W.Frag) (M : Addr → Prop) (H : Hp) : List V → List PyData → Prop
  | nil : Dts K M H [] []
  | cons {v : V} {vs : List V} {d : PyData} {ds : List PyData} : Dt K M H v d → Dts K M H vs ds → Dts K M H (v :: vs) (d :: ds)
end
section
variable {K : PySem.W.Frag} {M M' : Addr → Prop} {H H' H1 H2 : Hp}
mutual
/-- data in another heap, lists and tuples kept -/
theorem Dt.move (hl : ∀ a xs, H a = some (.lst xs) → ¬ M a → H' a = some (.lst xs) ∧ ¬ M' a) (ht : ∀ a xs, H a = some (.tup xs) → H' a = some (.tup xs)) : ∀ (d : PyData) (v : V), Dt K M H v d → Dt K M' H' v d
  | .none, _, h => by cases h; exact .non
  | .bool b, _, h => by cases h; exact .bl b
  | .int i, _, h => by cases h; exact .int i
  | .str x, _, h => by cases h; exact .str x
  | .list ds, _, h => by
    cases h with
    | lst h1 h2 h3 => exact .lst (hl _ _ h1 h2).1 (hl _ _ h1 h2).2 (Dts.move hl ht ds _ h3)
  | .tuple ds, _, h => by
    cases h with
    | tup h1 h3 => exact .tup (ht _ _ h1) (Dts.move hl ht ds _ h3)
  | .dict _, _, h => by cases h
theorem Dts.move (hl : ∀ a xs, H a = some (.lst xs) → ¬ M a → H' a = some (.lst xs) ∧ ¬ M' a) (ht : ∀ a xs, H a = some (.tup xs) → H' a = some (.tup xs)) : ∀ (ds : List PyData) (vs : List V), Dts K M H vs ds → Dts K M' H' vs ds
  | [], _, h => by cases h; exact .nil
  | d :: ds, _, h => by
    cases h with
    | cons h1 h2 => exact .cons (Dt.move hl ht d _ h1) (Dts.move hl ht ds _ h2)
end
mutual
theorem Dt.dp : ∀ (d : PyData) (v : V), Dt K M H v d → Dp K H v d
  | .none, _, h => by cases h; exact .non
  | .bool b, _, h => by cases h; exact .bl b
  | .int i, _, h => by cases h; exact .int i
  | .str x, _, h => by cases h; exact .str x
  | .list ds, _, h => by
    cases h with
    | lst h1 h2 h3 => exact .lst (sq_of h1) (Dts.dp ds _ h3)
  | .tuple ds, _, h => by
    cases h with
    | tup h1 h3 => exact .tup (SqT.of h1) (Dts.dp ds _ h3)
  | .dict _, _, h => by cases h
theorem Dts.dp : ∀ (ds : List PyData) (vs : List V), Dts K M H vs ds → DpAll K H vs ds
  | [], _, h => by cases h; exact .nil
  | d :: ds, _, h => by
    cases h with
    | cons h1 h2 => exact .cons (Dt.dp d _ h1) (Dts.dp ds _ h2)
end
theorem Dt.ex {v : V} {d : PyData} (h : Dt K M H v d) (e : Ex H H') : Dt K M H' v d := Dt.move (fun a xs h n => ⟨e _ _ h, n⟩) (fun a xs h => e _ _ h) d v h
theorem Dts.ex {vs : List V} {ds : List PyData} (h : Dts K M H vs ds) (e : Ex H H') : Dts K M H' vs ds := Dts.move (fun a xs h n => ⟨e _ _ h, n⟩) (fun a xs h => e _ _ h) ds vs h
theorem Dt.weak {v : V} {d : PyData} (h : Dt K M H v d) (m : ∀ a, M' a → M a) : Dt K M' H v d := Dt.move (fun a xs h n => ⟨h, fun z => n (m a z)⟩) (fun a xs h => h) d v h
theorem Dts.weak {vs : List V} {ds : List PyData} (h : Dts K M H vs ds) (m : ∀ a, M' a → M a) : Dts K M' H vs ds := Dts.move (fun a xs h n => ⟨h, fun z => n (m a z)⟩) (fun a xs h => h) ds vs h
theorem sqt_upd {a l : Addr} {xs ys : List V} {o : HO} (hl : H l = some (.lst ys)) (h : SqT K H a xs) : SqT K (upd H l o) a xs := by
  have ne : ∀ u, H a = some u → (∀ zs, u ≠ .lst zs) → a ≠ l := fun u h1 h2 z => by
    subst z
    rw [hl] at h1
    exact h2 ys (Option.some.inj h1).symm
  rcases h with (h | ⟨u, h⟩) | h
  · exact .inl (.inl (by rw [upd_ne (ne _ h fun zs z => by cases z)]; exact h))
  · exact .inl (.inr ⟨u, by rw [upd_ne (ne _ h fun zs z => by cases z)]; exact h⟩)
  · exact .inr h
theorem Dt.upd {v : V} {d : PyData} {l : Addr} {ys : List V} {o : HO} (h : Dt K M H v d) (hl : H l = some (.lst ys)) (m : M l) : Dt K M (L2.upd H l o) v d :=
  Dt.move (fun a xs h n => ⟨by rw [upd_ne (show a ≠ l from fun z => n (by rw [z]; exact m))]; exact h, n⟩) (fun a xs h => by rw [upd_ne (ne_of h hl (by intro z; cases z))]; exact h) d v h
theorem Dts.upd {vs : List V} {ds : List PyData} {l : Addr} {ys : List V} {o : HO} (h : Dts K M H vs ds) (hl : H l = some (.lst ys)) (m : M l) : Dts K M (L2.upd H l o) vs ds :=
  Dts.move (fun a xs h n => ⟨by rw [upd_ne (show a ≠ l from fun z => n (by rw [z]; exact m))]; exact h, n⟩) (fun a xs h => by rw [upd_ne (ne_of h hl (by intro z; cases z))]; exact h) ds vs h
theorem Dts.length : ∀ {vs : List V} {ds : List PyData}, Dts K M H vs ds → vs.length = ds.length
  | _, _, .nil => rfl
  | _, _, .cons _ t => by rw [List.length_cons, List.length_cons, Dts.length t]
theorem Dts.get : ∀ {vs : List V} {ds : List PyData} {i : Nat} {v : V}, Dts K M H vs ds → vs[i]? = some v → ∃ d, ds[i]? = some d ∧ Dt K M H v d
  | _, _, _, _, .nil, e => by simp at e
  | _, _, 0, _, .cons r _, e => by simp at e; subst e; exact ⟨_, rfl, r⟩
  | _, _, i + 1, v, .cons _ t, e => by
    obtain ⟨u, h1, h2⟩ := Dts.get (i := i) (v := v) t (by simpa using e)
    exact ⟨u, by simpa using h1, h2⟩
theorem Dts.at : ∀ {vs : List V} {ds : List PyData} {i : Nat} {d : PyData}, Dts K M H vs ds → ds[i]? = some d → ∃ v, vs[i]? = some v ∧ Dt K M H v d
  | _, _, _, _, .nil, e => by simp at e
  | _, _, 0, _, .cons r _, e => by simp at e; subst e; exact ⟨_, rfl, r⟩
  | _, _, i + 1, v, .cons _ t, e => by
    obtain ⟨u, h1, h2⟩ := Dts.at (i := i) (d := v) t (by simpa using e)
    exact ⟨u, by simpa using h1, h2⟩
theorem Dts.append : ∀ {xs ys : List V} {ds es : List PyData}, Dts K M H xs ds → Dts K M H ys es → Dts K M H (xs ++ ys) (ds ++ es)
  | _, _, _, _, .nil, s => s
  | _, _, _, _, .cons r t, s => .cons r (Dts.append t s)
theorem Dts.one {v : V} {d : PyData} (h : Dt K M H v d) : Dts K M H [v] [d] := .cons h .nil
theorem Dts.take : ∀ {xs : List V} {ds : List PyData} (n : Nat), Dts K M H xs ds → Dts K M H (xs.take n) (ds.take n)
  | _, _, 0, _ => .nil
  | _, _, _ + 1, .nil => .nil
  | _, _, n + 1, .cons r t => .cons r (Dts.take n t)
theorem Dts.drop : ∀ {xs : List V} {ds : List PyData} (n : Nat), Dts K M H xs ds → Dts K M H (xs.drop n) (ds.drop n)
  | _, _, 0, r => r
  | _, _, _ + 1, .nil => .nil
  | _, _, n + 1, .cons _ t => Dts.drop n t
theorem Dts.set : ∀ {xs : List V} {ds : List PyData} {v : V} {d : PyData} (i : Nat), Dt K M H v d → Dts K M H xs ds → Dts K M H (xs.set i v) (ds.set i d)
  | _, _, _, _, _, _, .nil => .nil
  | _, _, _, _, 0, r, .cons _ t => .cons r t
  | _, _, _, _, n + 1, r, .cons q t => .cons q (Dts.set n r t)
theorem Dts.reverse : ∀ {xs : List V} {ds : List PyData}, Dts K M H xs ds → Dts K M H xs.reverse ds.reverse
  | _, _, .nil => .nil
  | _, _, .cons r t => by
    rw [List.reverse_cons, List.reverse_cons]
    exact Dts.append (Dts.reverse t) (.one r)
/-- a part of a list -/
def cutG {α : Type} (xs : List α) (lo hi : Option Int) : List α := (xs.drop (HT.sIx xs.length 0 lo)).take (HT.sIx xs.length xs.length hi - HT.sIx xs.length 0 lo)
theorem Dts.cut {xs : List V} {ds : List PyData} {lo hi : Option Int} (h : Dts K M H xs ds) : Dts K M H (cutV xs lo hi) (cutG ds lo hi) := by
  unfold cutV cutG
  rw [h.length]
  exact (h.drop _).take _
theorem Dts.ints : ∀ {vs : List V} (ns : List Int), Dts K M H vs (ns.map PyData.int) → vs = ns.map V.int
  | _, [], .nil => rfl
  | _, n :: ns, .cons (.int _) t => by rw [Dts.ints ns t]; rfl
theorem Dts.strs : ∀ {vs : List V} (ns : List Str), Dts K M H vs (ns.map PyData.str) → vs = ns.map V.str
  | _, [], .nil => rfl
  | _, n :: ns, .cons (.str _) t => by rw [Dts.strs ns t]; rfl
theorem Dts.bls : ∀ {vs : List V} (ns : List Bool), Dts K M H vs (ns.map PyData.bool) → vs = ns.map V.bl
  | _, [], .nil => rfl
  | _, n :: ns, .cons (.bl _) t => by rw [Dts.bls ns t]; rfl
theorem Dts.of_ints : ∀ (ns : List Int), Dts K M H (ns.map V.int) (ns.map PyData.int)
  | [] => .nil
  | n :: ns => .cons (.int n) (Dts.of_ints ns)
theorem Dts.of_strs : ∀ (ns : List Str), Dts K M H (ns.map V.str) (ns.map PyData.str)
  | [] => .nil
  | n :: ns => .cons (.str n) (Dts.of_strs ns)

/-! ### what an expression gives, as data -/
/-- the changing ones are all known -/
def Ok (M : Addr → Prop) (H : Hp) : Prop := ∀ l, M l → H l ≠ none
theorem Ok.ex (h : Ok M H) (e : Ex H H') : Ok M H' := fun l m z => by
  cases q : H l with
  | none => exact h l m q
  | some o =>
    rw [e l o q] at z
    cases z
theorem Ok.new (h : Ok M H) {p : Addr} (n : H p = none) : ¬ M p := fun m => h p m n
def EvP (K : PySem.W.Frag) (M : Addr → Prop) (te : TE) (σ : L2.St) (H : Hp) (P : PyData → Prop) : Prop :=
  ∀ H1, Ex H H1 → ∀ Q : VK, (∀ v d H2, Ex H1 H2 → Dt K M H2 v d → P d → Q v H2) → te σ H1 Q
def EvPA (K : PySem.W.Frag) (M : Addr → Prop) (ta : TA) (σ : L2.St) (H : Hp) (P : List PyData → Prop) : Prop :=
  ∀ H1, Ex H H1 → ∀ Q : List V → Hp → Prop, (∀ vs ds H2, Ex H1 H2 → Dts K M H2 vs ds → P ds → Q vs H2) → ta σ H1 Q
abbrev EvD (K : PySem.W.Frag) (M : Addr → Prop) (te : TE) (σ : L2.St) (H : Hp) (d : PyData) : Prop := EvP K M te σ H (· = d)
abbrev EvDA (K : PySem.W.Frag) (M : Addr → Prop) (ta : TA) (σ : L2.St) (H : Hp) (ds : List PyData) : Prop := EvPA K M ta σ H (· = ds)
end
section
variable {K : PySem.W.Frag} {M : Addr → Prop} {H H' : Hp} {σ : L2.St} {ta tb te tc : TE} {r : R2} {P PA PB : PyData → Prop} {d d1 d2 : PyData}
theorem EvP.use (h : EvP K M te σ H P) {Q : VK} (q : ∀ v d H2, Ex H H2 → Dt K M H2 v d → P d → Q v H2) : te σ H Q := h H (Ex.refl H) Q q
theorem EvP.ex (h : EvP K M te σ H P) (e : Ex H H') : EvP K M te σ H' P := fun H1 e1 => h H1 (e.trans e1)
theorem EvPA.use {ta : TA} {P : List PyData → Prop} (h : EvPA K M ta σ H P) {Q : List V → Hp → Prop} (q : ∀ vs ds H2, Ex H H2 → Dts K M H2 vs ds → P ds → Q vs H2) : ta σ H Q := h H (Ex.refl H) Q q
theorem EvPA.ex {ta : TA} {P : List PyData → Prop} (h : EvPA K M ta σ H P) (e : Ex H H') : EvPA K M ta σ H' P := fun H1 e1 => h H1 (e.trans e1)
theorem EvP.mono (h : EvP K M te σ H P) (k : ∀ d, P d → PA d) : EvP K M te σ H PA := fun H1 e Q q => h H1 e Q fun v d H2 e2 hd hp => q v d H2 e2 hd (k d hp)
/-- data from a value that is known -/
theorem evd_of {v : V} (h : Ev te σ H v) (hd : Dt K M H v d) : EvD K M te σ H d := fun H1 e Q q => h H1 e Q fun H2 e2 => q v d H2 e2 (hd.ex (e.trans e2)) rfl
theorem evd_var {i : Nat} {v : V} (h : σ[i]? = some (some v)) (hd : Dt K M H v d) : EvD K M (tVar i) σ H d := evd_of (ev_var h) hd
theorem evd_int {i : Int} : EvD K M (tC (.int i)) σ H (.int i) := evd_of ev_c (.int i)
theorem evd_str {x : Str} : EvD K M (tC (.str x)) σ H (.str x) := evd_of ev_c (.str x)
theorem evd_bl {b : Bool} : EvD K M (tC (.bl b)) σ H (.bool b) := evd_of ev_c (.bl b)
theorem evd_non : EvD K M (tC .non) σ H .none := evd_of ev_c .non
/-- an operator, by its rule on data -/
theorem evp_op (ha : EvP K M ta σ H PA) (hb : EvP K M tb σ H PB)
    (hr : ∀ x y a b H1, Ex H H1 → Dt K M H1 x a → Dt K M H1 y b → PA a → PB b → ∀ Q : VK, (∀ v d H2, Ex H1 H2 → Dt K M H2 v d → P d → Q v H2) → r x y H1 Q) : EvP K M (tOp r ta tb) σ H P := fun H1 e Q q =>
  ha H1 e _ fun x a H2 e2 dx px => hb H2 (e.trans e2) _ fun y b H3 e3 dy py => hr x y a b H3 ((e.trans e2).trans e3) (dx.ex e3) dy px py Q fun v d H4 e4 dv pv => q v d H4 ((e2.trans e3).trans e4) dv pv
/-- two ints -/
theorem evp_I0 {g : Int → Int → V} (ha : EvP K M ta σ H PA) (hb : EvP K M tb σ H PB) (hg : ∀ a b, PA a → PB b → ∃ i j, a = .int i ∧ b = .int j ∧ ∃ d, P d ∧ ∀ H', Dt K M H' (g i j) d) : EvP K M (tOp (rI0 g) ta tb) σ H P :=
  evp_op ha hb fun x y a b H1 e dx dy px py Q q => by
    obtain ⟨i, j, rfl, rfl, d, pd, hd⟩ := hg a b px py
    cases dx
    cases dy
    exact ⟨i, j, rfl, rfl, q _ d H1 (Ex.refl _) (hd _) pd⟩
theorem evp_I {C : Int → Int → Prop} {g : Int → Int → V} (ha : EvP K M ta σ H PA) (hb : EvP K M tb σ H PB) (hg : ∀ a b, PA a → PB b → ∃ i j, a = .int i ∧ b = .int j ∧ C i j ∧ ∃ d, P d ∧ ∀ H', Dt K M H' (g i j) d) : EvP K M (tOp (rI C g) ta tb) σ H P :=
  evp_op ha hb fun x y a b H1 e dx dy px py Q q => by
    obtain ⟨i, j, rfl, rfl, hc, d, pd, hd⟩ := hg a b px py
    cases dx
    cases dy
    exact ⟨i, j, rfl, rfl, hc, q _ d H1 (Ex.refl _) (hd _) pd⟩
theorem evd_add {i j : Int} (ha : EvD K M ta σ H (.int i)) (hb : EvD K M tb σ H (.int j)) : EvD K M (tOp (rI0 fun i j => .int (i + j)) ta tb) σ H (.int (i + j)) :=
  evp_I0 ha hb fun a b pa pb => ⟨i, j, pa, pb, _, rfl, fun _ => .int _⟩
theorem evd_sub {i j : Int} (ha : EvD K M ta σ H (.int i)) (hb : EvD K M tb σ H (.int j)) : EvD K M (tOp (rI0 fun i j => .int (i - j)) ta tb) σ H (.int (i - j)) :=
  evp_I0 ha hb fun a b pa pb => ⟨i, j, pa, pb, _, rfl, fun _ => .int _⟩
theorem evd_cmp {g : Int → Int → Bool} {i j : Int} (ha : EvD K M ta σ H (.int i)) (hb : EvD K M tb σ H (.int j)) : EvD K M (tOp (rI0 fun i j => .bl (g i j)) ta tb) σ H (.bool (g i j)) :=
  evp_I0 ha hb fun a b pa pb => ⟨i, j, pa, pb, _, rfl, fun _ => .bl _⟩
/-- == of ints, of texts -/
theorem evd_eqI {i j : Int} (ha : EvD K M ta σ H (.int i)) (hb : EvD K M tb σ H (.int j)) : EvD K M (tOp rEq ta tb) σ H (.bool (decide (i = j))) :=
  evp_op ha hb fun x y a b H1 e dx dy px py Q q => by
    subst px py
    cases dx
    cases dy
    refine ⟨rfl, q _ _ H1 (Ex.refl _) (.bl _) ?_⟩
    simp
theorem evd_neI {i j : Int} (ha : EvD K M ta σ H (.int i)) (hb : EvD K M tb σ H (.int j)) : EvD K M (tOp rNe ta tb) σ H (.bool (!decide (i = j))) :=
  evp_op ha hb fun x y a b H1 e dx dy px py Q q => by
    subst px py
    cases dx
    cases dy
    refine ⟨rfl, q _ _ H1 (Ex.refl _) (.bl _) ?_⟩
    simp
theorem evd_eqS {i j : Str} (ha : EvD K M ta σ H (.str i)) (hb : EvD K M tb σ H (.str j)) : EvD K M (tOp rEq ta tb) σ H (.bool (decide (i = j))) :=
  evp_op ha hb fun x y a b H1 e dx dy px py Q q => by
    subst px py
    cases dx
    cases dy
    refine ⟨rfl, q _ _ H1 (Ex.refl _) (.bl _) ?_⟩
    simp
theorem evd_neS {i j : Str} (ha : EvD K M ta σ H (.str i)) (hb : EvD K M tb σ H (.str j)) : EvD K M (tOp rNe ta tb) σ H (.bool (!decide (i = j))) :=
  evp_op ha hb fun x y a b H1 e dx dy px py Q q => by
    subst px py
    cases dx
    cases dy
    refine ⟨rfl, q _ _ H1 (Ex.refl _) (.bl _) ?_⟩
    simp
/-- arguments -/
theorem eva_nil : EvDA K M tNil σ H [] := fun H1 e Q q => q [] [] H1 (Ex.refl _) .nil rfl
theorem evpa_cons {tr : TA} {PR : List PyData → Prop} (ha : EvP K M ta σ H PA) (hr : EvPA K M tr σ H PR) : EvPA K M (tCons ta tr) σ H (fun l => ∃ a ds, l = a :: ds ∧ PA a ∧ PR ds) := fun H1 e Q q =>
  ha H1 e _ fun x a H2 e2 dx px => hr H2 (e.trans e2) _ fun vs ds H3 e3 dv pv => q _ _ H3 (e2.trans e3) (.cons (dx.ex e3) dv) ⟨a, ds, rfl, px, pv⟩
theorem eva_cons {tr : TA} {ds : List PyData} (ha : EvD K M ta σ H d) (hr : EvDA K M tr σ H ds) : EvDA K M (tCons ta tr) σ H (d :: ds) := fun H1 e Q q =>
  ha H1 e _ fun x a H2 e2 dx px => hr H2 (e.trans e2) _ fun vs es H3 e3 dv pv => q _ _ H3 (e2.trans e3) (.cons (dx.ex e3) dv) (by rw [px, pv])
/-- displays -/
theorem evp_tup {t : TA} {PL : List PyData → Prop} (h : EvPA K M t σ H PL) (hl : ∀ ds, PL ds → ds.length ≤ sizeLine) : EvP K M (tTup t) σ H (fun d => ∃ ds, d = .tuple ds ∧ PL ds) := fun H1 e Q q =>
  h H1 e _ fun vs ds H2 e2 dv pv => ⟨by rw [dv.length]; exact hl ds pv, fun p hp => q _ _ _ (e2.trans (Ex.new hp)) (.tup upd_same (dv.ex (Ex.new hp))) ⟨ds, rfl, pv⟩⟩
theorem evd_tup {t : TA} {ds : List PyData} (h : EvDA K M t σ H ds) (hl : ds.length ≤ sizeLine := by decide) : EvD K M (tTup t) σ H (.tuple ds) := fun H1 e Q q =>
  h H1 e _ fun vs es H2 e2 dv pv => ⟨by rw [dv.length, pv]; exact hl, fun p hp => q _ _ _ (e2.trans (Ex.new hp)) (.tup upd_same (dv.ex (Ex.new hp))) (by rw [pv])⟩
theorem evp_lst {t : TA} {PL : List PyData → Prop} (ok : Ok M H) (h : EvPA K M t σ H PL) (hl : ∀ ds, PL ds → ds.length ≤ sizeLine) : EvP K M (tLst t) σ H (fun d => ∃ ds, d = .list ds ∧ PL ds) := fun H1 e Q q =>
  h H1 e _ fun vs ds H2 e2 dv pv => ⟨by rw [dv.length]; exact hl ds pv, fun p hp => q _ _ _ (e2.trans (Ex.new hp)) (.lst upd_same ((ok.ex (e.trans e2)).new hp) (dv.ex (Ex.new hp))) ⟨ds, rfl, pv⟩⟩
theorem evd_lst {t : TA} {ds : List PyData} (ok : Ok M H) (h : EvDA K M t σ H ds) (hl : ds.length ≤ sizeLine := by decide) : EvD K M (tLst t) σ H (.list ds) := fun H1 e Q q =>
  h H1 e _ fun vs es H2 e2 dv pv => ⟨by rw [dv.length, pv]; exact hl, fun p hp => q _ _ _ (e2.trans (Ex.new hp)) (.lst upd_same ((ok.ex (e.trans e2)).new hp) (dv.ex (Ex.new hp))) (by rw [pv])⟩
/-- an item of a list, of a tuple -/
theorem evd_ixL {ds : List PyData} {i : Int} {j : Nat} (ha : EvD K M ta σ H (.list ds)) (hb : EvD K M tb σ H (.int i)) (hi : i = (j : Int)) (hj : ds[j]? = some d) : EvD K M (tOp (rIxL K) ta tb) σ H d :=
  evp_op ha hb fun x y a b H1 e dx dy px py Q q => by
    subst px py
    cases dx with
    | lst h1 h2 h3 =>
      cases dy
      obtain ⟨v, hv, dv⟩ := h3.at hj
      exact ⟨_, _, _, v, rfl, rfl, sq_of h1, by rw [hi]; exact atI_nat hv, q v d H1 (Ex.refl _) dv rfl⟩
theorem evd_ixT {ds : List PyData} {i : Int} {j : Nat} (ha : EvD K M ta σ H (.tuple ds)) (hb : EvD K M tb σ H (.int i)) (hi : i = (j : Int)) (hj : ds[j]? = some d) : EvD K M (tOp (rIxT K) ta tb) σ H d :=
  evp_op ha hb fun x y a b H1 e dx dy px py Q q => by
    subst px py
    cases dx with
    | tup h1 h3 =>
      cases dy
      obtain ⟨v, hv, dv⟩ := h3.at hj
      exact ⟨_, _, _, v, rfl, rfl, SqT.of h1, by rw [hi]; exact atI_nat hv, q v d H1 (Ex.refl _) dv rfl⟩
/-- a part of a list, two lists together, list(..) -/
def EvPO (K : PySem.W.Frag) (M : Addr → Prop) (t : TO) (σ : L2.St) (H : Hp) (o : Option Int) : Prop := ∀ H1, Ex H H1 → ∀ Q : Option Int → Hp → Prop, (∀ H2, Ex H1 H2 → Q o H2) → t σ H1 Q
theorem evo_none : EvPO K M tNoPart σ H none := fun H1 e Q q => q H1 (Ex.refl _)
theorem evo_some {i : Int} (h : EvD K M te σ H (.int i)) : EvPO K M (tPart te) σ H (some i) := fun H1 e Q q =>
  h H1 e _ fun v d H2 e2 dv pd => by
    subst pd
    cases dv
    exact ⟨i, rfl, q H2 e2⟩
theorem evd_slL {ds : List PyData} {tl th : TO} {lo hi : Option Int} (ok : Ok M H) (ha : EvD K M ta σ H (.list ds)) (hl : EvPO K M tl σ H lo) (hh : EvPO K M th σ H hi) : EvD K M (tSl (rSlL K) ta tl th) σ H (.list (cutG ds lo hi)) := fun H1 e Q q =>
  ha H1 e _ fun v d H2 e2 dv pd => hl H2 (e.trans e2) _ fun H3 e3 => hh H3 ((e.trans e2).trans e3) _ fun H4 e4 => by
    subst pd
    cases dv.ex (e3.trans e4) with
    | lst h1 h2 h3 => exact ⟨_, _, rfl, sq_of h1, fun p hp => q _ _ _ (((e2.trans e3).trans e4).trans (Ex.new hp)) (.lst upd_same ((ok.ex (((e.trans e2).trans e3).trans e4)).new hp) (h3.cut.ex (Ex.new hp))) rfl⟩
theorem evd_slS {z : Str} {tl th : TO} {lo hi : Option Int} (ha : EvD K M ta σ H (.str z)) (hz : z.length ≤ sizeLine) (hl : EvPO K M tl σ H lo) (hh : EvPO K M th σ H hi) : EvD K M (tSl (fun x lo hi H Q => ∃ z, x = .str z ∧ z.length ≤ sizeLine ∧ Q (.str (cutS z lo hi)) H) ta tl th) σ H (.str (cutS z lo hi)) := fun H1 e Q q =>
  ha H1 e _ fun v d H2 e2 dv pd => hl H2 (e.trans e2) _ fun H3 e3 => hh H3 ((e.trans e2).trans e3) _ fun H4 e4 => by
    subst pd
    cases dv
    exact ⟨_, rfl, hz, q _ _ H4 ((e2.trans e3).trans e4) (.str _) rfl⟩
theorem evd_cat {ds es : List PyData} (ok : Ok M H) (ha : EvD K M ta σ H (.list ds)) (hb : EvD K M tb σ H (.list es)) (hs : ds.length + es.length ≤ sizeLine) : EvD K M (tOp rCat ta tb) σ H (.list (ds ++ es)) :=
  evp_op ha hb fun x y a b H1 e dx dy px py Q q => by
    subst px py
    cases dx with
    | lst h1 h2 h3 =>
      cases dy with
      | lst k1 k2 k3 => exact ⟨_, _, _, _, rfl, rfl, h1, k1, by rw [h3.length, k3.length]; exact hs, fun p hp => q _ _ _ (Ex.new hp) (.lst upd_same ((ok.ex e).new hp) ((h3.append k3).ex (Ex.new hp))) rfl⟩
theorem evd_addS {i j : Str} (ha : EvD K M ta σ H (.str i)) (hb : EvD K M tb σ H (.str j)) (hs : i.length + j.length ≤ sizeLine) : EvD K M (tOp (fun x y H Q => ∃ i j, x = .str i ∧ y = .str j ∧ i.length + j.length ≤ sizeLine ∧ Q (.str (i ++ j)) H) ta tb) σ H (.str (i ++ j)) :=
  evp_op ha hb fun x y a b H1 e dx dy px py Q q => by
    subst px py
    cases dx
    cases dy
    exact ⟨i, j, rfl, rfl, hs, q _ _ H1 (Ex.refl _) (.str _) rfl⟩
/-- a built-in, an own def -/
theorem evp_cb {r : List V → Hp → VK → Prop} {t : TA} {PL : List PyData → Prop} (h : EvPA K M t σ H PL)
    (hr : ∀ vs ds H1, Ex H H1 → Dts K M H1 vs ds → PL ds → ∀ Q : VK, (∀ v d H2, Ex H1 H2 → Dt K M H2 v d → P d → Q v H2) → r vs H1 Q) : EvP K M (tCB r t) σ H P := fun H1 e Q q =>
  h H1 e _ fun vs ds H2 e2 dv pv => hr vs ds H2 (e.trans e2) dv pv Q fun v d H3 e3 dd pd => q v d H3 (e2.trans e3) dd pd
/-- the promise of a def from data to data -/
def spD (K : PySem.W.Frag) (A : List PyData → Prop) (B : List PyData → PyData → Prop) : Sp := fun vs H Q _ =>
  ∃ (M : Addr → Prop) (ds : List PyData), Ok M H ∧ Dts K M H vs ds ∧ A ds ∧ ∀ v d H', Ex H H' → Dt K M H' v d → B ds d → Q v H'
theorem evp_call {A : List PyData → Prop} {B : List PyData → PyData → Prop} {E : XK} {t : TA} {PL : List PyData → Prop} (ok : Ok M H) (h : EvPA K M t σ H PL) (ha : ∀ ds, PL ds → A ds) : EvP K M (tCall (spD K A B) [] E t) σ H (fun d => ∃ ds, PL ds ∧ B ds d) := fun H1 e Q q =>
  h H1 e _ fun vs ds H2 e2 dv pv => ⟨M, ds, ok.ex (e.trans e2), by rw [List.append_nil]; exact dv, ha ds pv, fun v d H3 e3 dd pd => q v d H3 (e2.trans e3) dd ⟨ds, pv, pd⟩⟩
theorem evd_call {A : List PyData → Prop} {F : List PyData → PyData} {E : XK} {t : TA} {ds : List PyData} (ok : Ok M H) (h : EvDA K M t σ H ds) (ha : A ds) : EvD K M (tCall (spD K A fun ds d => d = F ds) [] E t) σ H (F ds) :=
  (evp_call ok h fun es pe => by rw [pe]; exact ha).mono fun d ⟨es, pe, pd⟩ => by rw [pd, pe]
/-- tests -/
theorem EvT.use {t : TT} {b : Bool} (h : EvT t σ H b) {Q : Bool → Hp → Prop} (q : ∀ H2, Ex H H2 → Q b H2) : t σ H Q := h H (Ex.refl H) Q q
theorem evt_test {b : Bool} (h : EvD K M te σ H (.bool b)) : EvT (tTest te) σ H b := fun H1 e Q q => h H1 e _ fun v d H2 e2 dv pd => by
  subst pd
  cases dv
  exact ⟨b, rfl, q H2 e2⟩
theorem evt_B {b : Bool} (h : EvD K M te σ H (.bool b)) : EvT (tB te) σ H b := fun H1 e Q q => h H1 e _ fun v d H2 e2 dv pd => by
  subst pd
  cases dv
  exact ⟨b, rfl, q H2 e2⟩
theorem evt_yes : EvT tYes σ H true := fun H1 e Q q => q H1 (Ex.refl _)
theorem evd_andV {a b : Bool} (ha : EvD K M ta σ H (.bool a)) (hb : a = true → EvD K M tb σ H (.bool b)) : EvD K M (tAndV ta tb) σ H (.bool (a && b)) := fun H1 e Q q => ha H1 e _ fun v d H2 e2 dv pd => by
  subst pd
  cases dv
  refine ⟨a, rfl, ?_⟩
  cases a with
  | true => exact iteT (hb rfl H2 (e.trans e2) _ fun v d H3 e3 dv pd => q v d H3 (e2.trans e3) dv (by rw [pd]; rfl))
  | false => exact iteF (q _ _ H2 e2 (.bl _) rfl)
theorem evd_orV {a b : Bool} (ha : EvD K M ta σ H (.bool a)) (hb : a = false → EvD K M tb σ H (.bool b)) : EvD K M (tOrV ta tb) σ H (.bool (a || b)) := fun H1 e Q q => ha H1 e _ fun v d H2 e2 dv pd => by
  subst pd
  cases dv
  refine ⟨a, rfl, ?_⟩
  cases a with
  | false => exact iteF (hb rfl H2 (e.trans e2) _ fun v d H3 e3 dv pd => q v d H3 (e2.trans e3) dv (by rw [pd]; rfl))
  | true => exact iteT (q _ _ H2 e2 (.bl _) rfl)
theorem evd_notV {a : Bool} (ha : EvD K M ta σ H (.bool a)) : EvD K M (tNotV ta) σ H (.bool (!a)) := fun H1 e Q q => ha H1 e _ fun v d H2 e2 dv pd => by
  subst pd
  cases dv
  exact ⟨a, rfl, q _ _ H2 e2 (.bl _) rfl⟩
theorem evp_if {t : TT} {b : Bool} (h : EvT t σ H b) (h1 : b = true → EvP K M ta σ H P) (h2 : b = false → EvP K M tb σ H P) : EvP K M (tIf t ta tb) σ H P := fun H1 e Q q => h H1 e _ fun H2 e2 => by
  cases b with
  | true => exact iteT (h1 rfl H2 (e.trans e2) Q fun v d H3 e3 => q v d H3 (e2.trans e3))
  | false => exact iteF (h2 rfl H2 (e.trans e2) Q fun v d H3 e3 => q v d H3 (e2.trans e3))
/-- a chain of two comparisons of ints -/
theorem evd_chainI {g g' : Int → Int → Bool} {i j k : Int} (ha : EvD K M ta σ H (.int i)) (hb : EvD K M tb σ H (.int j)) (hc : EvD K M tc σ H (.int k)) : EvD K M (tChain (rI0 fun i j => .bl (g i j)) (rI0 fun i j => .bl (g' i j)) ta tb tc) σ H (.bool (g i j && g' j k)) := fun H1 e Q q =>
  ha H1 e _ fun x a H2 e2 dx px => hb H2 (e.trans e2) _ fun y b H3 e3 dy py => by
    subst px py
    cases dx
    cases dy
    refine ⟨i, j, rfl, rfl, g i j, rfl, ?_⟩
    cases hg : g i j with
    | false => exact iteF (q _ _ H3 (e2.trans e3) (.bl _) (by rw [hg]; rfl))
    | true => exact iteT (hc H3 ((e.trans e2).trans e3) _ fun z c H4 e4 dz pz => by
        subst pz
        cases dz
        exact ⟨j, k, rfl, rfl, q _ _ H4 ((e2.trans e3).trans e4) (.bl _) (by rw [hg]; rfl)⟩)
end
end TH
set_option maxRecDepth 100000
set_option maxHeartbeats 4000000
namespace TH
open PySem L2 Evl
section
variable {K : PySem.W.Frag} {M : Addr → Prop} {H H1 H' : Hp} {σ : L2.St} {ta tb te tl : TE} {tt : TT} {g : TG} {vs : List Nat}
def more (M : Addr → Prop) (D : Addr) : Addr → Prop := fun a => M a ∨ a = D
theorem Dt.more {v : V} {d : PyData} {D : Addr} (h : Dt K M H v d) (hD : H D = none) : Dt K (TH.more M D) H v d :=
  Dt.move (fun a xs h n => ⟨h, fun z => z.elim n fun e => by rw [e, hD] at h; cases h⟩) (fun a xs h => h) d v h
theorem Dts.more {v : List V} {d : List PyData} {D : Addr} (h : Dts K M H v d) (hD : H D = none) : Dts K (TH.more M D) H v d :=
  Dts.move (fun a xs h n => ⟨h, fun z => z.elim n fun e => by rw [e, hD] at h; cases h⟩) (fun a xs h => h) d v h
theorem more_sub {D : Addr} : ∀ a, M a → TH.more M D a := fun _ h => .inl h
theorem paired_map {α : Type} {F : α → PyData} : ∀ {l : List α} {es : List PyData}, Paired (fun a e => e = F a) l es → es = l.map F
  | _, _, .nil => rfl
  | _, _, .cons h t => by rw [h, paired_map t]; rfl
theorem paired_len {α : Type} {P : α → PyData → Prop} : ∀ {l : List α} {es : List PyData}, Paired P l es → es.length = l.length
  | _, _, .nil => rfl
  | _, _, .cons h t => by rw [List.length_cons, List.length_cons, paired_len t]
theorem paired_mem {α : Type} {P : α → PyData → Prop} : ∀ {l : List α} {es : List PyData}, Paired P l es → ∀ e ∈ es, ∃ a ∈ l, P a e
  | _, _, .nil, e, h => by cases h
  | _, _, .cons h t, e, he => by
    rcases List.mem_cons.mp he with rfl | he
    · exact ⟨_, List.mem_cons_self, h⟩
    · obtain ⟨a, ha, p⟩ := paired_mem t e he
      exact ⟨a, List.mem_cons_of_mem _ ha, p⟩
/-- what a turn of a comprehension gives -/
def Turned (K : PySem.W.Frag) (M : Addr → Prop) (σ : L2.St) (vs : List Nat) (tt : TT) (te : TE) (b : Bool) (P : PyData → Prop) (σ2 : L2.St) (H2 : Hp) : Prop :=
  wipe σ2 vs = wipe σ vs ∧ EvT tt σ2 H2 b ∧ (b = true → EvP K M te σ2 H2 P)
theorem lc_data {α : Type} (L : List α) {J : It} {G : Hp → Prop} {Y : Nat → Hp → V → Hp → Prop} (w : Walk J L.length G Y) {D : Addr} {Qd : Hp → Prop} (ok : Ok M H1) (hD : H1 D = none) (hn : L.length < sizeLine)
    (f : α → Bool) (P : α → PyData → Prop) (hG : ∀ H, Ex H1 H → G H)
    (hs : ∀ (M' : Addr → Prop) (i : Nat) (a : α) (x : V) (H H' : Hp), (∀ v d, Dt K M H1 v d → Dt K M' H1 v d) → Ok M' H → L[i]? = some a → Ex H1 H → Y i H x H' →
      ∀ Qg : L2.St → Hp → Prop, (∀ σ2 H2, Ex H H2 → Turned K M' σ vs tt te (f a) (P a) σ2 H2 → Qg σ2 H2) → g x (wipe σ vs) H' Qg)
    (q : ∀ H es, Ex H1 H → Dt K M H (.ref D) (.list es) → Paired P (L.filter f) es → Qd H) :
    ∃ W : Nat → Nat → Hp → Prop, (∃ m, W 0 m (upd H1 D (.lst []))) ∧ ∀ i m H, W i m H →
      (J.stop i H ∧ Qd H) ∨ (J.go i H ∧ ∃ Nx : Hp → Prop, (∀ H', Nx H' → ∃ m', m' < m ∧ W (i + 1) m' H') ∧ ∀ x H', J.yld i H x H' → g x (wipe σ vs) H' fun σ2 H2 => wipe σ2 vs = wipe σ vs ∧ tt σ2 H2 fun b H3 =>
        if b = true then te σ2 H3 fun y H4 => ∃ acc, H4 D = some (.lst acc) ∧ acc.length < sizeLine ∧ Nx (upd H4 D (.lst (acc ++ [y]))) else Nx H3) := by
  have ok' : ∀ {H}, Ex H1 H → H D ≠ none → Ok (TH.more M D) H := fun {H} e n l m => by
    rcases m with m | rfl
    · exact (ok.ex e) l m
    · exact n
  refine lc_it w (fun i H => Ex H1 H ∧ ∃ acc es, H D = some (.lst acc) ∧ Dts K (TH.more M D) H acc es ∧ Paired P ((L.take i).filter f) es)
    ⟨Ex.new hD, [], [], upd_same, .nil, .nil⟩ (fun i H _ p => hG H p.1) (fun i x H H' hi p y => ?_) (fun H p => ?_)
  · obtain ⟨e, acc, es, hacc, dacc, pr⟩ := p
    obtain ⟨a, ha⟩ : ∃ a, L[i]? = some a := ⟨L[i], List.getElem?_eq_getElem hi⟩
    have tk : L.take (i + 1) = L.take i ++ [a] := by rw [List.take_add_one, ha]; rfl
    refine hs (TH.more M D) i a x H H' (fun v d h => h.more hD) (ok' e (by rw [hacc]; simp)) ha e y _ fun σ2 H2 e2 T => ?_
    obtain ⟨hw, ht, he⟩ := T
    refine ⟨hw, ht H2 (Ex.refl _) _ fun H3 e3 => ?_⟩
    have e03 := e2.trans e3
    have lacc : acc.length ≤ i := by
      rw [dacc.length, paired_len pr]
      refine Nat.le_trans (List.length_filter_le _ _) ?_
      rw [List.length_take]
      exact Nat.min_le_left _ _
    cases hf : f a with
    | true =>
      refine iteT (he hf H3 e3 _ fun y d H4 e4 dy py => ?_)
      refine ⟨acc, e4 _ _ (e03 _ _ hacc), Nat.lt_of_le_of_lt lacc (Nat.lt_trans hi hn), ?_, acc ++ [y], es ++ [d], upd_same, ?_, ?_⟩
      · exact Ex.mut ((e.trans e03).trans e4) hD
      · exact (((dacc.ex (e03.trans e4))).append (.one dy)).upd (e4 _ _ (e03 _ _ hacc)) (.inr rfl)
      · rw [tk, List.filter_append, List.filter_cons, hf, if_pos rfl]
        exact Paired.snoc pr py
    | false =>
      refine iteF ⟨e.trans e03, acc, es, e03 _ _ hacc, dacc.ex e03, ?_⟩
      rw [tk, List.filter_append, List.filter_cons, hf]
      simpa using pr
  · obtain ⟨e, acc, es, hacc, dacc, pr⟩ := p
    rw [List.take_length] at pr
    exact q H es e (.lst hacc (ok.new hD) (dacc.weak more_sub)) pr
/-- over a list -/
theorem evp_lcL {ds : List PyData} (f : PyData → Bool) (P : PyData → PyData → Prop) (ok : Ok M H) (hl : EvD K M tl σ H (.list ds)) (hz : ds.length < sizeLine)
    (hs : ∀ (M' : Addr → Prop) (d : PyData) (x : V) (H' : Hp), (∀ v d, Dt K M H v d → Dt K M' H' v d) → Ok M' H' → d ∈ ds → Ex H H' → Dt K M' H' x d →
      ∀ Qg : L2.St → Hp → Prop, (∀ σ2 H2, Ex H' H2 → Turned K M' σ vs tt te (f d) (P d) σ2 H2 → Qg σ2 H2) → g x (wipe σ vs) H' Qg) :
    EvP K M (tLc (iList K tl) g tt te vs) σ H (fun d => ∃ es, d = .list es ∧ Paired P (ds.filter f) es) := fun H0 e Q q =>
  hl H0 e _ fun v d H1 e1 dv pd => by
    subst pd
    cases dv with
    | lst h1 h2 h3 =>
      rename_i a xs
      refine ⟨a, rfl, ⟨xs, sq_of h1⟩, fun D hD => ?_⟩
      have hw : Walk (Itl K a) ds.length (fun H => SqL K H a xs) (YAt xs) := by
        rw [← h3.length]
        exact walk_list
      refine lc_data (σ := σ) (vs := vs) ds hw ((ok.ex (e.trans e1))) hD hz f P (fun H e => sq_of (e _ _ h1)) (fun M' i d x H2 H' hm ok' hd e2 y Qg qg => ?_) (fun H2 es e2 dd pr => q _ _ H2 (e1.trans e2) dd ⟨es, rfl, pr⟩)
      obtain ⟨rfl, hx⟩ := y
      obtain ⟨d', hd', dx⟩ := h3.get hx
      rw [hd] at hd'
      cases hd'
      exact hs M' d x _ (fun v d h => (hm v d (h.ex (e.trans e1))).ex e2) ok' (List.mem_of_getElem? hd) ((e.trans e1).trans e2) ((hm _ _ dx).ex e2) Qg qg
theorem evd_lcL {ds : List PyData} (f : PyData → Bool) (F : PyData → PyData) (ok : Ok M H) (hl : EvD K M tl σ H (.list ds)) (hz : ds.length < sizeLine)
    (hs : ∀ (M' : Addr → Prop) (d : PyData) (x : V) (H' : Hp), (∀ v d, Dt K M H v d → Dt K M' H' v d) → Ok M' H' → d ∈ ds → Ex H H' → Dt K M' H' x d →
      ∀ Qg : L2.St → Hp → Prop, (∀ σ2 H2, Ex H' H2 → Turned K M' σ vs tt te (f d) (· = F d) σ2 H2 → Qg σ2 H2) → g x (wipe σ vs) H' Qg) :
    EvD K M (tLc (iList K tl) g tt te vs) σ H (.list ((ds.filter f).map F)) :=
  (evp_lcL f (fun d e => e = F d) ok hl hz hs).mono fun d ⟨es, e, pr⟩ => by rw [e, paired_map pr]
/-- over a text -/
theorem evp_lcS {z : Str} (f : Nat → Bool) (P : Nat → PyData → Prop) (ok : Ok M H) (hl : EvD K M tl σ H (.str z)) (hz : z.length < sizeLine)
    (hs : ∀ (M' : Addr → Prop) (c : Nat) (H' : Hp), (∀ v d, Dt K M H v d → Dt K M' H' v d) → Ok M' H' → c ∈ z.cps.toList → Ex H H' →
      ∀ Qg : L2.St → Hp → Prop, (∀ σ2 H2, Ex H' H2 → Turned K M' σ vs tt te (f c) (P c) σ2 H2 → Qg σ2 H2) → g (.str ⟨#[c]⟩) (wipe σ vs) H' Qg) :
    EvP K M (tLc (iStr tl) g tt te vs) σ H (fun d => ∃ es, d = .list es ∧ Paired P (z.cps.toList.filter f) es) := fun H0 e Q q =>
  hl H0 e _ fun v d H1 e1 dv pd => by
    subst pd
    cases dv
    refine ⟨z, rfl, fun D hD => ?_⟩
    have hw : Walk (Its z) z.cps.toList.length (fun _ => True) (fun i H v H' => H' = H ∧ ∃ c, z.cps[i]? = some c ∧ v = .str ⟨#[c]⟩) := by
      rw [Array.length_toList]
      exact walk_str
    refine lc_data (σ := σ) (vs := vs) z.cps.toList hw ((ok.ex (e.trans e1))) hD (by rw [Array.length_toList]; exact hz) f P (fun H e => trivial) (fun M' i d x H2 H' hm ok' hd e2 y Qg qg => ?_) (fun H2 es e2 dd pr => q _ _ H2 (e1.trans e2) dd ⟨es, rfl, pr⟩)
    obtain ⟨rfl, c, hc, rfl⟩ := y
    have ec : c = d := by
      rw [Array.getElem?_toList, hc] at hd
      exact Option.some.inj hd
    subst ec
    exact hs M' c _ (fun v d h => (hm v d (h.ex (e.trans e1))).ex e2) ok' (Array.mem_toList_iff.mpr (Array.mem_of_getElem? hc)) ((e.trans e1).trans e2) Qg qg
theorem evd_lcS {z : Str} (f : Nat → Bool) (F : Nat → PyData) (ok : Ok M H) (hl : EvD K M tl σ H (.str z)) (hz : z.length < sizeLine)
    (hs : ∀ (M' : Addr → Prop) (c : Nat) (H' : Hp), (∀ v d, Dt K M H v d → Dt K M' H' v d) → Ok M' H' → c ∈ z.cps.toList → Ex H H' →
      ∀ Qg : L2.St → Hp → Prop, (∀ σ2 H2, Ex H' H2 → Turned K M' σ vs tt te (f c) (· = F c) σ2 H2 → Qg σ2 H2) → g (.str ⟨#[c]⟩) (wipe σ vs) H' Qg) :
    EvD K M (tLc (iStr tl) g tt te vs) σ H (.list ((z.cps.toList.filter f).map F)) :=
  (evp_lcS f (fun d e => e = F d) ok hl hz hs).mono fun d ⟨es, e, pr⟩ => by rw [e, paired_map pr]
/-- over range(n) -/
theorem evp_lcR {ta : TA} {PN : Int → Prop} (f : Nat → Bool) (P : Nat → PyData → Prop) (ok : Ok M H) (hl : EvPA K M ta σ H (fun l => ∃ n : Int, l = [.int n] ∧ PN n)) (hz : ∀ n, PN n → 0 ≤ n ∧ n ≤ 100000)
    (hs : ∀ (M' : Addr → Prop) (n : Int) (i : Nat) (H' : Hp), (∀ v d, Dt K M H v d → Dt K M' H' v d) → Ok M' H' → PN n → (i : Int) < n → Ex H H' →
      ∀ Qg : L2.St → Hp → Prop, (∀ σ2 H2, Ex H' H2 → Turned K M' σ vs tt te (f i) (P i) σ2 H2 → Qg σ2 H2) → g (.int (i : Int)) (wipe σ vs) H' Qg) :
    EvP K M (tLc (iRng1 ta) g tt te vs) σ H (fun d => ∃ (n : Int) (es : List PyData), PN n ∧ d = .list es ∧ Paired P ((List.range n.toNat).filter f) es) := fun H0 e Q q =>
  hl H0 e _ fun us ds H1 e1 dv pd => by
    obtain ⟨n, rfl, pn⟩ := pd
    have hz := hz n pn
    cases dv with
    | cons h1 h2 =>
      cases h1
      cases h2
      refine ⟨n, rfl, by omega, by omega, fun D hD => ?_⟩
      have hw : Walk (Itr 0 n.toNat) (List.range n.toNat).length (fun _ => True) (YFn fun i => .int (0 + i)) := by
        rw [List.length_range]
        exact walk_range
      refine lc_data (σ := σ) (vs := vs) (List.range n.toNat) hw ((ok.ex (e.trans e1))) hD (by rw [List.length_range]; exact Nat.lt_of_le_of_lt (show n.toNat ≤ 100000 by omega) (by decide)) f P (fun H e => trivial) (fun M' i d x H2 H' hm ok' hd e2 y Qg qg => ?_) (fun H2 es e2 dd pr => q _ _ H2 (e1.trans e2) dd ⟨n, es, pn, rfl, pr⟩)
      obtain ⟨h1, h2⟩ := List.getElem?_eq_some_iff.mp hd
      rw [List.getElem_range] at h2
      rw [List.length_range] at h1
      subst h2
      obtain ⟨rfl, rfl⟩ := y
      show g (V.int (0 + (i : Int))) (wipe σ vs) _ Qg
      rw [Int.zero_add]
      exact hs M' n i _ (fun v d h => (hm v d (h.ex (e.trans e1))).ex e2) ok' pn (by omega) ((e.trans e1).trans e2) Qg qg
end
/-! ### rules by the written part's own letter, for a comprehension's block -/
section
variable {X : Cx} {K : PySem.W.Frag}
theorem ix_tupK (h : X.K = K) : IxR X (rIxT K) := by
  subst h
  exact ix_tup
theorem ix_listK (h : X.K = K) : IxR X (rIxL K) := by
  subst h
  exact ix_list
theorem sl_listK (h : X.K = K) : SlR X (rSlL K) := by
  subst h
  exact sl_list
theorem pi_listK {tg l : Expr} {tl : TE} (h : X.K = K) (hl : PE X l tl) : PI X tg l (iList K tl) := by
  subst h
  exact pi_list hl
theorem op_notIn_seqK (h : X.K = K) : OpR X (compareOp .NotIn) (rIn K true) := by
  subst h
  exact op_notIn_seq
theorem op_in_seqK (h : X.K = K) : OpR X (compareOp .In) (rIn K false) := by
  subst h
  exact op_in_seq
end
/-! ### statements -/
section
variable {K : PySem.W.Frag} {M : Addr → Prop} {H H' : Hp} {σ : L2.St} {te : TE} {P : PyData → Prop} {D : Ends} {tz : TS}
theorem s_retP (h : EvP K M te σ H P) (k : ∀ v d H1, Ex H H1 → Dt K M H1 v d → P d → D.rt v H1) : tRet te D σ H := h.use k
theorem q_asgP {i : Nat} (h : EvP K M te σ H P) (k : ∀ v d H1, Ex H H1 → Dt K M H1 v d → P d → tz D (σ.set i (some v)) H1) : tSeq (tAsg te (gName i)) tz D σ H := h.use k
theorem s_asgP {i : Nat} (h : EvP K M te σ H P) (k : ∀ v d H1, Ex H H1 → Dt K M H1 v d → P d → D.nx (σ.set i (some v)) H1) : tAsg te (gName i) D σ H := h.use k
theorem s_dropP (h : EvP K M te σ H P) (k : ∀ v d H1, Ex H H1 → Dt K M H1 v d → P d → D.nx σ H1) : tDrop te D σ H := h.use k
theorem q_dropP (h : EvP K M te σ H P) (k : ∀ v d H1, Ex H H1 → Dt K M H1 v d → P d → tz D σ H1) : tSeq (tDrop te) tz D σ H := h.use k
end
end TH
set_option maxRecDepth 100000
set_option maxHeartbeats 4000000
namespace TH
open PySem L2 Evl
abbrev sName : Stmt := top 31
abbrev sSign : Stmt := top 32
structure GlobS (mg : Str → Option Value) : Prop extends Glob mg where
  all : mg "all" = none
  any : mg "any" = none
  longest : ∃ t, mg "LONGEST_NAME" = some (.int 3 t)
  most : ∃ t, mg "MOST_SIGNS_signs" = some (.int 6 t)
  mostK : ∃ t, mg "MOST_KIDS" = some (.int 2 t)
  enumerate : mg "enumerate" = none
section
variable {K : PySem.W.Frag} {M : Addr → Prop} {H H1 H' : Hp} {σ : L2.St} {ta tb tc te tl : TE}
/-- a chain of two <= of texts -/
theorem evd_chainS {i j k : Str} (ha : EvD K M ta σ H (.str i)) (hb : EvD K M tb σ H (.str j)) (hc : EvD K M tc σ H (.str k)) :
    EvD K M (tChain (fun x y H Q => ∃ i j, x = .str i ∧ y = .str j ∧ Q (.bl (!decide (j.cps.toList < i.cps.toList))) H) (fun x y H Q => ∃ i j, x = .str i ∧ y = .str j ∧ Q (.bl (!decide (j.cps.toList < i.cps.toList))) H) ta tb tc) σ H
      (.bool ((!decide (j.cps.toList < i.cps.toList)) && (!decide (k.cps.toList < j.cps.toList)))) := fun H1 e Q q =>
  ha H1 e _ fun x a H2 e2 dx px => hb H2 (e.trans e2) _ fun y b H3 e3 dy py => by
    subst px py
    cases dx
    cases dy
    refine ⟨i, j, rfl, rfl, _, rfl, ?_⟩
    cases hg : (!decide (j.cps.toList < i.cps.toList)) with
    | false => exact iteF (q _ _ H3 (e2.trans e3) (.bl _) (by rw [hg]; rfl))
    | true => exact iteT (hc H3 ((e.trans e2).trans e3) _ fun z c H4 e4 dz pz => by
        subst pz
        cases dz
        exact ⟨j, k, rfl, rfl, q _ _ H4 ((e2.trans e3).trans e4) (.bl _) (by rw [hg]; rfl)⟩)
/-- all, any -/
theorem evd_all {ta : TA} {bs : List Bool} (h : EvDA K M ta σ H [.list (bs.map PyData.bool)]) : EvD K M (tCB (rAll K) ta) σ H (.bool (bs.all id)) :=
  evp_cb h fun vs ds H1 e dv pd Q q => by
    subst pd
    cases dv with
    | cons h1 h2 =>
      cases h2
      cases h1 with
      | lst k1 k2 k3 => exact ⟨_, bs, rfl, by rw [← k3.bls]; exact sq_of k1, q _ _ H1 (Ex.refl _) (.bl _) rfl⟩
theorem evd_any {ta : TA} {bs : List Bool} (h : EvDA K M ta σ H [.list (bs.map PyData.bool)]) : EvD K M (tCB (rAny K) ta) σ H (.bool (bs.any id)) :=
  evp_cb h fun vs ds H1 e dv pd Q q => by
    subst pd
    cases dv with
    | cons h1 h2 =>
      cases h2
      cases h1 with
      | lst k1 k2 k3 => exact ⟨_, bs, rfl, by rw [← k3.bls]; exact sq_of k1, q _ _ H1 (Ex.refl _) (.bl _) rfl⟩
/-- len of a text, of a list, of a tuple -/
theorem evd_lenS {ta : TA} {z : Str} (h : EvDA K M ta σ H [.str z]) (hz : z.length ≤ sizeLine) : EvD K M (tCB (fun xs H Q => ∃ z, xs = [.str z] ∧ z.length ≤ sizeLine ∧ Q (.int z.length) H) ta) σ H (.int z.length) :=
  evp_cb h fun vs ds H1 e dv pd Q q => by
    subst pd
    cases dv with
    | cons h1 h2 =>
      cases h2
      cases h1
      exact ⟨z, rfl, hz, q _ _ H1 (Ex.refl _) (.int _) rfl⟩
theorem evd_lenL {ta : TA} {es : List PyData} (h : EvDA K M ta σ H [.list es]) : EvD K M (tCB (fun xs H Q => ∃ p ys, xs = [.ref p] ∧ (SqL K H p ys ∨ SqT K H p ys) ∧ Q (.int ys.length) H) ta) σ H (.int es.length) :=
  evp_cb h fun vs ds H1 e dv pd Q q => by
    subst pd
    cases dv with
    | cons h1 h2 =>
      cases h2
      cases h1 with
      | lst k1 k2 k3 => exact ⟨_, _, rfl, .inl (sq_of k1), q _ _ H1 (Ex.refl _) (.int _) (by rw [k3.length])⟩
theorem evd_lenT {ta : TA} {es : List PyData} (h : EvDA K M ta σ H [.tuple es]) : EvD K M (tCB (fun xs H Q => ∃ p ys, xs = [.ref p] ∧ (SqL K H p ys ∨ SqT K H p ys) ∧ Q (.int ys.length) H) ta) σ H (.int es.length) :=
  evp_cb h fun vs ds H1 e dv pd Q q => by
    subst pd
    cases dv with
    | cons h1 h2 =>
      cases h2
      cases h1 with
      | tup k1 k3 => exact ⟨_, _, rfl, .inr (SqT.of k1), q _ _ H1 (Ex.refl _) (.int _) (by rw [k3.length])⟩
theorem evt_not {t : TT} {b : Bool} (h : EvT t σ H b) : EvT (tNot t) σ H (!b) := et_not h
end
theorem filter_yes {α : Type} (l : List α) : l.filter (fun _ => true) = l := by simp
/-! ### is_name, is_sign -/
def okc (c : Nat) : Bool := (!decide ([c] < ("a" : Str).cps.toList)) && (!decide (("z" : Str).cps.toList < [c]))
def isNameB (z : Str) : Bool := (decide (1 ≤ (z.length : Int)) && decide ((z.length : Int) ≤ 3)) && z.cps.toList.all okc
def nameA : List PyData → Prop := fun ds => ∃ z : Str, ds = [.str z, .int 3] ∧ z.length ≤ 100000
def nameF : List PyData → PyData
  | [.str z, .int _] => .bool (isNameB z)
  | _ => .none
section
variable {P : Program} {w : World} {K : PySem.W.Frag} {mg : Str → Option Value} {base : Heap}
theorem scName : FnScope ["name", "longest", "letter"] ["name", "longest"] (defScope sName) := ⟨rfl, rfl, rfl, by decide +kernel, rfl, by decide +kernel, by decide +kernel⟩
theorem ok_name {f : Addr} {fd : FuncData} (F : Fun K "is_name" "is_name" sName f fd) (G : GlobS mg) : FnOk P w K mg base CX0 1 f fd ["name", "longest"] (spD K nameA fun ds d => d = nameF ds) := by
  refine F.ok scName (fun vs H Q E h => ?_) (fun cdv A outer s H vs Q E hr h => ?_)
  · obtain ⟨M, ds, _, dv, ⟨z, rfl, _⟩, _⟩ := h
    exact dv.length
  · obtain ⟨M, ds, ok, dv, ⟨z, rfl, hz⟩, q⟩ := h
    cases dv with
    | cons h1 h2 =>
    cases h2 with
    | cons h3 h4 =>
    cases h1
    cases h3
    cases h4
    refine ⟨_, pss_cons (ps_if (pt_not (pt_chain op_le op_le pe_int (pe_callB call_len_str (by rfl) G.len PySem.boot_len (pa_cons (pv 0) pa_nil)) (pv 1))) (pss_one (ps_ret pe_bl)) pss_nil)
      (pss_one (ps_ret (pe_callB (cr_all rfl) (by rfl) G.all (by decide +kernel) (pa_cons (pe_lc (own := [("letter", 2)]) (g := gName 2) (tt := tYes) rfl scName.nd (pi_str (pv 0))
          (blkOk_by (N := ["name", "longest", "letter"]) (sc := defScope sName) (by decide +kernel)) (fun _ _ _ _ _ => pg_name (i := 2) scName.nd rfl (.inl rfl)) (fun _ _ _ _ _ => pts_nil)
          (fun _ _ _ _ _ => pe_chain op_le_str op_le_str pe_str (pv 2) pe_str)) pa_nil)))), ?_⟩
    have hs : z.length ≤ sizeLine := sz_of hz
    -- if not 1 <= len(name) <= 3
    refine q_when (evt_not (evt_test (K := K) (M := M) (evd_chainI (g := fun i j => decide (i ≤ j)) (g' := fun i j => decide (i ≤ j)) evd_int (evd_lenS (eva_cons (evd_var rfl (.str z)) eva_nil) hs) (evd_var rfl (.int 3))))) (fun hb H1 e1 => ?_) (fun hb H1 e1 => ?_)
    · refine q _ _ H1 e1 (.bl _) ?_
      show PyData.bool false = .bool (isNameB z)
      unfold isNameB
      rw [Bool.not_eq_true'] at hb
      rw [hb]
      rfl
    · rw [Bool.not_eq_false'] at hb
      have ok1 := ok.ex e1
      refine s_retP (K := K) (M := M) (evd_all (bs := z.cps.toList.map okc) (eva_cons ?_ eva_nil)) fun v d H2 e2 dv pd => q v d H2 (e1.trans e2) dv ?_
      · refine (evd_lcS (fun _ => true) (fun c => .bool (okc c)) ok1 (evd_var rfl (.str z)) (Nat.lt_of_le_of_lt hz (by decide)) fun M' c H' hm ok' hc e Qg qg => ?_).mono fun d h => ?_
        · exact qg _ H' (Ex.refl _) ⟨rfl, evt_yes, fun _ => (evd_chainS (i := "a") (j := ⟨#[c]⟩) (k := "z") evd_str (evd_var rfl (.str _)) evd_str).mono fun d h => h⟩
        · rw [h, filter_yes, List.map_map]
          rfl
      · rw [pd]
        show _ = PyData.bool (isNameB z)
        unfold isNameB
        rw [hb, List.all_map]
        rfl
end
end TH
set_option maxRecDepth 100000
set_option maxHeartbeats 4000000
namespace TH
open PySem PySem.Spec PyProof.Rows L2 Evl PpSet
/-! ### {elt for target in iter}, the members ints or texts -/
section
variable {X : Cx}
/-- one turn of the block: the member goes into the set at D -/
def SetTurn (P : Program) (w : World) (D : Addr) (σ0 : L2.St) (vs : List Nat) (tt : TT) (te : TE) (Nx : Hp → Prop) (σ2 : L2.St) (H2 : Hp) : Prop :=
  wipe σ2 vs = wipe σ0 vs ∧ tt σ2 H2 fun b H3 =>
    if b = true then te σ2 H3 fun y H4 =>
      ∃ (k : Key) (S : Key → Bool) (n : Nat), y = kV k ∧ H4 D = some (SetK P w D S n) ∧ n + 1 < scanBound ∧
        Nx (upd H4 D (SetK P w D (fun j => S j || decide (j = k)) (if S k = true then n else n + 1)))
    else Nx H3
def tScK (P : Program) (w : World) (wi : TI) (g : TG) (tt : TT) (te : TE) (vs : List Nat) : TE := fun σ H Q =>
  wi σ H fun J H1 => ∀ D, H1 D = none → ∃ W : Nat → Nat → Hp → Prop,
    (∃ m, W 0 m (upd H1 D (SetK P w D (fun _ => false) 0))) ∧
    ∀ i m H, W i m H → (J.stop i H ∧ Q (.ref D) H) ∨
      (J.go i H ∧ ∃ Nx : Hp → Prop, (∀ H', Nx H' → ∃ m', m' < m ∧ W (i + 1) m' H') ∧
        ∀ x H', J.yld i H x H' → g x (wipe σ vs) H' (SetTurn P w D σ vs tt te Nx))
/-- the member is added, within any context -/
theorem addK_ok {Y : Cx} {pins : List (Addr × Obj)} {σ : L2.St} {G : Hp} {s : Shared} {D : Addr} {S : Key → Bool} {n : Nat} {k : Key} {u : Value} {Q E : Value → Shared → Prop}
    (I : Inv Y pins σ G s) (hD : G D = some (SetK Y.prog Y.w D S n)) (ru : RelV (kV k) u) (room : n + 1 < scanBound)
    (h : ∀ v s', Inv Y pins σ (upd G D (SetK Y.prog Y.w D (fun j => S j || decide (j = k)) (if S k = true then n else n + 1))) s' → Q v s') :
    wpAny (model Y.prog Y.w) Y.A (call (.builtin "set.add") [.ref D, u]) Q E s := by
  refine call_set_add (kV_is ru) (key_scan ru) (setK_get I hD) room fun hp' same born => ?_
  have there : ∃ o, hp'.get? D = some o := by
    obtain ⟨o, _, _, _, ho, _⟩ := id born
    exact ⟨o, ho⟩
  exact h _ _ (I.write (e := D) (t' := s.toks + 1) (by rw [hD]; trivial) (.inl rfl) (fun b o hb ho => (same.2 b hb).trans ho) there (setK_new born))
theorem setK_start {G : Hp} {s : Shared} {pins : List (Addr × Obj)} {σ : L2.St} (I : Inv X pins σ G s) :
    Inv X pins σ (upd G s.heap.objs.size (SetK X.prog X.w s.heap.objs.size (fun _ => false) 0))
      { s with heap := s.heap.push { cls := .type "set", dict := none, data := .set #[] 0 (.fresh 0 0 (!X.w.params.followText "set-order")) } } := by
  have born : (s.heap.push { cls := .type "set", dict := none, data := .set #[] 0 (.fresh 0 0 (!X.w.params.followText "set-order")) }).SetOf (mixKind X.prog X.w) s.heap.objs.size (fun _ => false) 0 := by
    refine ⟨_, #[], 0, _, Heap.get?_push_size _ rfl, ⟨rfl, rfl, rfl⟩, rfl, ?_, ?_, by decide, by rfl, rfl⟩
    · intro e he
      simp at he
    · intro k
      simp
  exact I.laid (t' := s.toks) (fun b u q => Heap.get?_push_of_some _ q) (Nat.le_refl _) (setK_new born)
theorem pe_scK {elt tg iter : Expr} {ifs : List Expr} {scope : Scope} {own : List (Str × Nat)} {pos : Pos} {wi : TI} {g : TG} {tt : TT} {te : TE}
    (calm : X.calm = true) (nodup : X.N.Nodup) (src : PI X tg iter wi) (blk : BlkOk X.N X.env.scope scope own)
    (ptg : ∀ (s : Shared) (G : Hp) (C : Addr) (cl : List (Str × Addr)) (fp : List Addr), PG (X.blk s G scope (compEnvC scope cl C X.env) fp) tg g)
    (pif : ∀ (s : Shared) (G : Hp) (C : Addr) (cl : List (Str × Addr)) (fp : List Addr), PTs (X.blk s G scope (compEnvC scope cl C X.env) fp) ifs tt)
    (pel : ∀ (s : Shared) (G : Hp) (C : Addr) (cl : List (Str × Addr)) (fp : List Addr), PE (X.blk s G scope (compEnvC scope cl C X.env) fp) elt te)
    (fold : ∀ x, foldedSetIterable iter X.env x = pure x := by intro _; rfl) :
    PE X (.SetComp elt [⟨tg, iter, ifs, 0⟩] scope pos) (tScK X.prog X.w wi g tt te (own.map (·.2))) := by
  refine ⟨fun pins s σ G Q I wish => ?_⟩
  rw [eval_SetComp]
  have caught : ∀ y ∈ scope.names, y.2 = .free → ∃ c, X.env.cells.lookup y.1 = some c := by
    intro y hy hf
    cases blk.free y hy hf with
    | inl z => exact I.ok.has _ (.inl z)
    | inr z => exact I.ok.has _ (.inr z)
  refine wpAny_comprehension_free rfl fold (closure_ok caught) blk.kind (fun y hy z => by rw [blk.uniq y hy, z]) ?_
  refine thn (src.run pins s σ G _ I wish) fun seqv sA hA => thn hA fun itv sB hB => ?_
  obtain ⟨it, fp, turnAt, J, GB, eit, IB, TT, stB, fpB, hq⟩ := hB
  subst eit
  refine newSet_ok (newEnv_comp ?_)
  have fresh : GB sB.heap.objs.size = none := IB.hok.fresh (Nat.le_refl _)
  have IC := setK_start IB
  revert fresh IC
  generalize eD : sB.heap.objs.size = D
  intro fresh IC
  obtain ⟨W, ⟨m0, w0⟩, steps⟩ := hq D fresh
  revert IC
  generalize eC : ({ sB with heap := sB.heap.push { cls := .type "set", dict := none, data := .set #[] 0 (.fresh 0 0 (!X.w.params.followText "set-order")) } } : Shared) = sC
  generalize eG : upd GB D (SetK X.prog X.w D (fun _ => false) 0) = GC at w0
  intro IC
  have grown : ∀ b o, sB.heap.get? b = some o → sC.heap.get? b = some o := by
    intro b o q
    rw [← eC]
    exact Heap.get?_push_of_some _ q
  have small : ∀ b ∈ fp, b < sB.heap.objs.size := by
    intro b hb
    obtain ⟨o, q, _⟩ := TT.obj _ _ stB b hb
    exact Heap.lt_size q
  have fpC : ∀ b ∈ fp, FpOk X pins GC b ∧ b < sC.heap.objs.size := by
    intro b hb
    have lt := small b hb
    constructor
    · refine ⟨?_, (fpB b hb).2⟩
      rw [← eG, upd_ne (by rw [← eD]; exact Nat.ne_of_lt lt)]
      exact (fpB b hb).1
    · rw [← eC]
      show b < (sB.heap.push _).objs.size
      rw [Heap.size_push]
      exact Nat.lt_succ_of_lt lt
  have stC : turnAt 0 sC.heap := TT.keep _ _ _ stB fun b _ o q => grown b o q
  have ID := block_start IC blk nodup fpC
  have tgD := ptg sC GC sC.heap.objs.size (cellsFrom (sC.heap.objs.size + 1) scope.names (cloFrom X.env.cells scope.names [])) fp
  have ifD := pif sC GC sC.heap.objs.size (cellsFrom (sC.heap.objs.size + 1) scope.names (cloFrom X.env.cells scope.names [])) fp
  have elD := pel sC GC sC.heap.objs.size (cellsFrom (sC.heap.objs.size + 1) scope.names (cloFrom X.env.cells scope.names [])) fp
  have post : ∀ (s' : Shared) (m : Str → Option Value) (G' : Hp), Inv X pins σ G' s' → Q (.ref D) G' → s'.heap.Ns sC.heap.objs.size m → FpOk X pins G' sC.heap.objs.size →
      compPost (model X.prog X.w) X.A X.xe none (EP X pins σ Q) (.ref D) sC.heap.objs.size (.ok .next) s' := by
    intro s' m G' I' q hn hf
    refine ⟨m, hn, fun h'' same => ?_⟩
    obtain ⟨f0, f1, f2, f3, f4, f5⟩ := hf
    exact ⟨.ref D, G', I'.turned (t' := s'.toks) (fun b o hb z => (same.2 b hb).trans z) f0 f1 f3 f4 f5, rfl, q⟩
  show codeAny _ _ (.compStart (.SetComp elt [⟨tg, iter, ifs, 0⟩] scope pos) 0 (.ref it) (.ref D) (compEnvC scope (cellsFrom (sC.heap.objs.size + 1) scope.names (cloFrom X.env.cells scope.names [])) sC.heap.objs.size X.env))
    (compPost (model X.prog X.w) X.A X.xe none (EP X pins σ Q) (.ref D) sC.heap.objs.size) { sC with heap := pushCells (sC.heap.push { cls := .type "dict", data := .dict #[] }) scope.names }
  have none_fp : ∀ b ∈ fp, GC b = none := fun b hb => (fpC b hb).1.1
  revert ID tgD ifD elD
  generalize eE : compEnvC scope (cellsFrom (sC.heap.objs.size + 1) scope.names (cloFrom X.env.cells scope.names [])) sC.heap.objs.size X.env = cenv
  have locals : cenv.locals = sC.heap.objs.size := by
    rw [← eE]
    rfl
  generalize eS : ({ sC with heap := pushCells (sC.heap.push { cls := .type "dict", data := .dict #[] }) scope.names } : Shared) = sD
  intro ID tgD ifD elD
  have stD : turnAt 0 sD.heap := by
    refine TT.keep _ _ _ stC fun b _ o q => ?_
    rw [← eS]
    exact pushCells_keeps _ _ _ _ (Heap.get?_push_of_some _ q)
  have steady : ∀ {σ' : L2.St} {G' : Hp} {s' : Shared}, Inv (X.blk sC GC scope cenv fp) [] σ' G' s' → (∀ b ∈ fp, G' b = none) → ∀ b ∈ fp, FpOk (X.blk sC GC scope cenv fp) [] G' b := by
    intro σ' G' s' I' hn b hb
    refine ⟨hn b hb, (I'.ok.exf b hb).1, I'.ok.exfs b hb, .inl hb, fun x c => (I'.ok.exf b hb).2 x c, fun p hp => ?_⟩
    exact absurd (show p ∈ ([] : List (Addr × Obj)) ++ [] from hp) (by simp)
  have loop : codeAny (model X.prog X.w) X.A (.compLoop (.SetComp elt [⟨tg, iter, ifs, 0⟩] scope pos) 0 (.ref it) (.ref D) cenv)
      (compPost (model X.prog X.w) X.A X.xe none (EP X pins σ Q) (.ref D) sC.heap.objs.size) sD := by
    refine compLoopS_any (fun n s' => ∃ i G', Inv (X.blk sC GC scope cenv fp) [] (wipe σ (own.map (·.2))) G' s' ∧ turnAt i s'.heap ∧ (∀ b ∈ fp, G' b = none) ∧ W i n G') ?_ m0 ⟨0, GC, ID, stD, none_fp, w0⟩
    rintro n s5 ⟨i, G5, I5, st5, n5, w5⟩
    cases steps i n G5 w5 with
    | inl done =>
      obtain ⟨stop, hq⟩ := done
      refine thnF (TT.done (X.blk sC GC scope cenv fp) rfl rfl rfl calm i [] s5 _ G5 (fun _ _ => False) I5 (steady I5 n5) st5 stop) fun r s6 ⟨hr, I6⟩ => ?_
      subst hr
      have I7 : Inv X pins σ G5 s6 := IC.call' (ch := fp) I6.os I6.base I6.hok I6.bare fun b hb =>
        ⟨(fpC b hb).1.2.2.2.1, (fpC b hb).1.2.1, (fpC b hb).1.2.2.2.2.1, (fpC b hb).1.2.2.2.2.2⟩
      have gone : G5 sC.heap.objs.size = none := by
        rw [← locals]
        exact I6.free
      obtain ⟨m, hn, _⟩ := I6.loc
      refine post s6 m G5 I7 hq ?_ (IC.fpOk (Nat.le_refl _) gone)
      rw [← locals]
      exact hn
    | inr more =>
      obtain ⟨go, Nx, hNx, step⟩ := more
      refine thnF (TT.item (X.blk sC GC scope cenv fp) rfl rfl rfl calm i [] s5 _ G5 (fun _ _ => False) I5 (steady I5 n5) st5 go) fun r s6 ⟨u, hr, h6⟩ => ?_
      subst hr
      refine thnF h6 fun _ s7 ⟨x, G7, I7, r7, y7, st7, n7⟩ => ?_
      refine thnF (tgD.run _ s7 _ G7 x u _ (I7.pinned (steady I7 n7) (TT.obj _ _ st7)) r7 (step x G7 y7)) fun _ s8 ⟨σ8, G8, I8, hw, q8⟩ => ?_
      refine thnF (ifD.run _ s8 σ8 G8 _ I8 q8) fun b s9 ⟨G9, I9, q9⟩ => ?_
      have back : ∀ {s' : Shared} {G' : Hp}, Inv (X.blk sC GC scope cenv fp) ([] ++ pinsAt fp s7.heap) σ8 G' s' → Nx G' →
          ∃ m, m < n ∧ ∃ i G', Inv (X.blk sC GC scope cenv fp) [] (wipe σ (own.map (·.2))) G' s' ∧ turnAt i s'.heap ∧ (∀ b ∈ fp, G' b = none) ∧ W i m G' := by
        intro s' G' I' nx
        obtain ⟨m', hm, w'⟩ := hNx G' nx
        have pinned : ∀ b ∈ fp, ∀ o, s7.heap.get? b = some o → s'.heap.get? b = some o ∧ G' b = none := by
          intro b hb o q
          have z := I'.pin (b, o) (List.mem_append_right _ (List.mem_append_right _ (mem_pinsAt hb q)))
          exact ⟨z.1, z.2.1⟩
        have len : (wipe σ (own.map (·.2))).length = σ8.length := by rw [← hw, wipe_length]
        refine ⟨m', hm, i + 1, G', (I'.unpinned (pins := [])).weak len ?_, TT.keep _ _ _ st7 fun b hb o q => (pinned b hb o q).1, fun b hb => ?_, w'⟩
        · intro j v q
          rw [← hw] at q
          exact (wipe_some q).1
        · obtain ⟨o, q, _⟩ := TT.obj _ _ st7 b hb
          exact (pinned b hb o q).2
      cases b with
      | false => exact back I9 q9
      | true =>
        show wpAny _ _ _ _ _ _
        refine thnF (elD.run _ s9 σ8 G9 _ I9 q9) fun z s10 ⟨yv, G10, I10, r10, k, S0, n0, ey, hD10, room, nx⟩ => ?_
        subst ey
        exact addK_ok (Y := X.blk sC GC scope cenv fp) I10 hD10 r10 room fun v s11 I11 => back I11 nx
  exact codeAny_compStart_set loop (TT.self X.A 0 _ _ _ stD loop)
end
end TH
set_option maxRecDepth 100000
set_option maxHeartbeats 4000000
namespace TH
open PySem L2 Evl
/-! ### how many unlike members -/
def sadd (p : (Key → Bool) × Nat) (k : Key) : (Key → Bool) × Nat := (fun j => p.1 j || decide (j = k), if p.1 k = true then p.2 else p.2 + 1)
def sall (ks : List Key) : (Key → Bool) × Nat := ks.foldl sadd (fun _ => false, 0)
theorem sadd_le : ∀ (ks : List Key) (p : (Key → Bool) × Nat), (ks.foldl sadd p).2 ≤ p.2 + ks.length
  | [], p => Nat.le_refl _
  | k :: ks, p => by
    have h := sadd_le ks (sadd p k)
    have h2 : (sadd p k).2 ≤ p.2 + 1 := by
      unfold sadd
      dsimp only
      split <;> omega
    rw [List.foldl_cons, List.length_cons]
    omega
theorem sadd_new : ∀ (ks : List Key) (p : (Key → Bool) × Nat), ks.Nodup → (∀ k ∈ ks, p.1 k = false) → (ks.foldl sadd p).2 = p.2 + ks.length
  | [], p, _, _ => rfl
  | k :: ks, p, nd, hp => by
    obtain ⟨h1, h2⟩ := List.nodup_cons.mp nd
    have e : (sadd p k).2 = p.2 + 1 := by
      unfold sadd
      dsimp only
      rw [hp k List.mem_cons_self, if_neg Bool.false_ne_true]
    rw [List.foldl_cons, sadd_new ks (sadd p k) h2, e, List.length_cons]
    · omega
    · intro j hj
      show (p.1 j || decide (j = k)) = false
      rw [hp j (List.mem_cons_of_mem _ hj), decide_eq_false (show ¬ j = k from fun e => h1 (by rw [← e]; exact hj))]
      rfl
theorem sadd_old : ∀ (ks : List Key) (p : (Key → Bool) × Nat), (¬ ks.Nodup ∨ ∃ k ∈ ks, p.1 k = true) → (ks.foldl sadd p).2 < p.2 + ks.length
  | [], p, h => by
    rcases h with h | ⟨k, hk, _⟩
    · exact absurd List.nodup_nil h
    · cases hk
  | k :: ks, p, h => by
    rw [List.foldl_cons, List.length_cons]
    by_cases hk : p.1 k = true
    · have e : (sadd p k).2 = p.2 := by
        unfold sadd
        dsimp only
        rw [if_pos hk]
      have := sadd_le ks (sadd p k)
      omega
    · have e : (sadd p k).2 = p.2 + 1 := by
        unfold sadd
        dsimp only
        rw [if_neg hk]
      have := sadd_old ks (sadd p k) ?_
      · omega
      · by_cases hm : k ∈ ks
        · exact .inr ⟨k, hm, by show (p.1 k || decide (k = k)) = true; simp⟩
        · rcases h with h | ⟨j, hj, e2⟩
          · exact .inl fun nd => h (List.nodup_cons.mpr ⟨hm, nd⟩)
          · rcases List.mem_cons.mp hj with rfl | hj
            · exact absurd e2 hk
            · exact .inr ⟨j, hj, by show (p.1 j || decide (j = k)) = true; rw [e2]; rfl⟩
theorem sall_lt (ks : List Key) : ((sall ks).2 < ks.length) = ¬ ks.Nodup := by
  apply propext
  constructor
  · intro h nd
    have := sadd_new ks (fun _ => false, 0) nd fun _ _ => rfl
    unfold sall at h
    omega
  · intro h
    have := sadd_old ks (fun _ => false, 0) (.inl h)
    unfold sall
    omega
section
variable {X : Cx}
def rLenK (P : Program) (w : World) : List V → Hp → VK → Prop := fun xs H Q => ∃ (a : Addr) (S : Key → Bool) (n : Nat), xs = [.ref a] ∧ H a = some (SetK P w a S n) ∧ Q (.int n) H
theorem call_lenK : CallR X (.builtin "len") (rLenK X.prog X.w) := by
  intro pins s σ H xs us Q I r h
  obtain ⟨a, S, n, rfl, ha, q⟩ := h
  cases r with
  | cons r1 r2 =>
    cases r2
    cases r1
    obtain ⟨o, es, ep, t, ho, hx, hd, _, _, hb, hf, hn⟩ := setK_get I ha
    refine call_len_set ho hx hd hf ?_ ?_
    · have : es.size < 2 ^ 32 := Nat.lt_of_lt_of_le hb (by decide)
      omega
    · rw [hn]
      exact ⟨.int n, H, I.kept (t' := s.toks + 1 + 1) fun _ _ z => z, ⟨_, rfl⟩, q⟩
end
section
variable {K : PySem.W.Frag} {M : Addr → Prop} {H H1 H' : Hp} {σ : L2.St} {ta tb tc te tl : TE} {P : Program} {w : World} {g : TG} {vs : List Nat}
/-- len({elt for x in list}) -/
theorem evd_lenSc {ds : List PyData} (F : PyData → Key) (ok : Ok M H) (hl : EvD K M tl σ H (.list ds)) (hz : ds.length < 1000)
    (hs : ∀ (M' : Addr → Prop) (d : PyData) (x : V) (H' : Hp), (∀ v d, Dt K M H v d → Dt K M' H' v d) → Ok M' H' → d ∈ ds → Ex H H' → Dt K M' H' x d →
      ∀ Qg : L2.St → Hp → Prop, (∀ σ2 H2, Ex H' H2 → wipe σ2 vs = wipe σ vs → Ev te σ2 H2 (kV (F d)) → Qg σ2 H2) → g x (wipe σ vs) H' Qg) :
    EvD K M (tCB (rLenK P w) (tCons (tScK P w (iList K tl) g tYes te vs) tNil)) σ H (.int (sall (ds.map F)).2) := fun H0 e Q q =>
  hl H0 e _ fun v d H1 e1 dv pd => by
    subst pd
    cases dv with
    | lst h1 h2 h3 =>
      rename_i a xs
      refine ⟨a, rfl, ⟨xs, sq_of h1⟩, fun D hD => ?_⟩
      have okD : ∀ {H}, Ex H1 H → H D ≠ none → Ok (TH.more M D) H := fun {H} e2 n l m => by
        rcases m with m | rfl
        · exact (ok.ex ((e.trans e1).trans e2)) l m
        · exact n
      refine ⟨fun i m H => m = ds.length - i ∧ i ≤ ds.length ∧ Ex H1 H ∧ H D = some (SetK P w D (sall ((ds.take i).map F)).1 (sall ((ds.take i).map F)).2),
        ⟨ds.length, by simp, Nat.zero_le _, Ex.new hD, upd_same⟩, ?_⟩
      rintro i m H2 ⟨rfl, hi, e2, hset⟩
      by_cases hlt : i < ds.length
      · refine .inr ⟨⟨xs, xs[i]'(by rw [h3.length]; exact hlt), sq_of (e2 _ _ h1), by simp⟩, fun H' => Ex H1 H' ∧ H' D = some (SetK P w D (sall ((ds.take (i + 1)).map F)).1 (sall ((ds.take (i + 1)).map F)).2), fun H' p' => ⟨ds.length - (i + 1), by omega, rfl, hlt, p'⟩, fun x H' y => ?_⟩
        obtain ⟨rfl, hx⟩ := y
        have hx := hx xs (sq_of (e2 _ _ h1))
        obtain ⟨d, hd, dx⟩ := h3.get hx
        have tk : (ds.take (i + 1)).map F = (ds.take i).map F ++ [F d] := by rw [List.take_add_one, hd, List.map_append]; rfl
        refine hs (TH.more M D) d x _ (fun v d h => ((h.ex (e.trans e1)).more hD).ex e2) (okD e2 (by rw [hset]; simp)) (List.mem_of_getElem? hd) ((e.trans e1).trans e2) ((dx.more hD).ex e2) _ fun σ2 H3 e3 hw he => ?_
        refine ⟨hw, ?_⟩
        show te σ2 H3 _
        refine he H3 (Ex.refl _) _ fun H4 e4 => ⟨F d, _, _, rfl, (e3.trans e4) _ _ hset, ?_, ?_, ?_⟩
        · have h1 := sadd_le ((ds.take i).map F) (fun _ => false, 0)
          rw [List.length_map, List.length_take] at h1
          have h2 : (sall ((ds.take i).map F)).2 ≤ 0 + min i ds.length := h1
          have h3 : (2000 : Nat) < scanBound := by decide
          omega
        · exact Ex.mut ((e2.trans e3).trans e4) hD
        · rw [tk]
          unfold sall
          rw [List.foldl_append]
          exact upd_same
      · have ei : i = ds.length := by omega
        subst ei
        refine .inl ⟨⟨xs, sq_of (e2 _ _ h1), by rw [h3.length]; exact Nat.le_refl _⟩, ?_⟩
        rw [List.take_length] at hset
        exact ⟨D, _, _, rfl, hset, q _ _ H2 (e1.trans e2) (.int _) rfl⟩
end
end TH
set_option maxRecDepth 100000
set_option maxHeartbeats 4000000
namespace TH
open PySem L2 Evl
abbrev sAre : Stmt := top 33
/-! ### books as data -/
abbrev Sg := Str × Int
def sgD (p : Sg) : PyData := .tuple [.str p.1, .int p.2]
def sgU : PyData → Sg
  | .tuple [.str z, .int k] => (z, k)
  | _ => (Str.empty, 0)
theorem sgU_map (S : List Sg) : (S.map sgD).map sgU = S := by
  rw [List.map_map]
  exact (List.map_congr_left fun p _ => rfl).trans (List.map_id S)
def isSignB (p : Sg) : Bool := isNameB p.1 && (decide (0 ≤ p.2) && decide (p.2 ≤ 2))
def validB (S : List Sg) : Bool :=
  (decide (1 ≤ (S.length : Int)) && decide ((S.length : Int) ≤ 6)) && (S.all isSignB && (!decide (((sall (S.map fun p => Sum.inr p.1)).2 : Int) < (S.length : Int)) && S.any fun p => decide (p.2 = 0)))
def signA : List PyData → Prop := fun ds => ∃ p : Sg, ds = [sgD p] ∧ p.1.length ≤ 100000
def signF : List PyData → PyData
  | [d] => .bool (isSignB (sgU d))
  | _ => .none
def areA : List PyData → Prop := fun ds => ∃ S : List Sg, ds = [.list (S.map sgD)] ∧ S.length ≤ 100 ∧ ∀ p ∈ S, p.1.length ≤ 100000
def areF : List PyData → PyData
  | [.list es] => .bool (validB (es.map sgU))
  | _ => .none
theorem areF_eq (S : List Sg) : areF [.list (S.map sgD)] = .bool (validB S) := by
  show PyData.bool (validB ((S.map sgD).map sgU)) = _
  rw [sgU_map]
section
variable {P : Program} {w : World} {K : PySem.W.Frag} {mg : Str → Option Value} {base : Heap}
theorem scSign : FnScope ["sign"] ["sign"] (defScope sSign) := ⟨rfl, rfl, rfl, by decide +kernel, rfl, by decide +kernel, by decide +kernel⟩
theorem ok_sign {f fN : Addr} {fd fdN : FuncData} (F : Fun K "is_sign" "is_sign" sSign f fd) (G : GlobS mg) (FN : Fun K "is_name" "is_name" sName fN fdN) (mN : mg "is_name" = some (.ref fN)) (bN : Binds K fdN ["name", "longest"] []) :
    FnOk P w K mg base CX0 2 f fd ["sign"] (spD K signA fun ds d => d = signF ds) := by
  have GN : FnOk P w K mg base CX0 1 fN fdN ["name", "longest"] (spD K nameA fun ds d => d = nameF ds) := ok_name FN G
  refine F.ok scSign (fun vs H Q E h => ?_) (fun cdv A outer s H vs Q E hr h => ?_)
  · obtain ⟨M, ds, _, dv, ⟨z, rfl, _⟩, _⟩ := h
    exact dv.length
  · obtain ⟨M, ds, ok, dv, ⟨p, rfl, hz⟩, q⟩ := h
    obtain ⟨t, hL⟩ := G.mostK
    obtain ⟨t3, hL3⟩ := G.longest
    cases dv with
    | cons h1 h2 =>
    cases h2
    rename_i v0
    refine ⟨_, pss_one (ps_ret (pe_and (pe_cmpR op_eq (pe_callB call_len_seq (by rfl) G.len PySem.boot_len (pa_cons (pv 0) pa_nil)) pe_int (nomark _))
      (pe_and (pe_call GN hr rfl mN FN.kp bN .nil pass0 (pa_cons (pe_ix ix_tup (pv 0) pe_int (fun _ _ => rfl)) (pa_cons (pe_glob rfl hL3 (show RelV (.int 3) _ from ⟨_, rfl⟩)) pa_nil)))
      (pe_one (pe_chain op_le op_le pe_int (pe_ix ix_tup (pv 0) pe_int (fun _ _ => rfl)) (pe_glob rfl hL (show RelV (.int 2) _ from ⟨_, rfl⟩))))))), ?_⟩
    have hv : ∀ {H'}, Ex H H' → EvD K M (tVar 0) (start ["sign"] [v0]) H' (sgD p) := fun e => evd_var rfl (h1.ex e)
    refine s_retP (K := K) (M := M) (evd_andV (evd_eqI (evd_lenT (eva_cons (hv (Ex.refl _)) eva_nil)) evd_int) fun _ => evd_andV ((evd_call (F := nameF) ok (eva_cons (evd_ixT (j := 0) (hv (Ex.refl _)) evd_int rfl rfl) (eva_cons evd_int eva_nil)) ⟨p.1, rfl, hz⟩)) fun _ =>
      evd_chainI (g := fun i j => decide (i ≤ j)) (g' := fun i j => decide (i ≤ j)) evd_int (evd_ixT (j := 1) (hv (Ex.refl _)) evd_int rfl rfl) evd_int) fun v d H2 e2 dv pd => q v d H2 e2 dv ?_
    rw [pd]
    rfl
theorem scAre : FnScope ["signs", "sign"] ["signs"] (defScope sAre) := ⟨rfl, rfl, rfl, by decide +kernel, rfl, by decide +kernel, by decide +kernel⟩
theorem ok_are {f fN fS : Addr} {fd fdN fdS : FuncData} (F : Fun K "are_signs" "are_signs" sAre f fd) (G : GlobS mg) (FN : Fun K "is_name" "is_name" sName fN fdN) (mN : mg "is_name" = some (.ref fN)) (bN : Binds K fdN ["name", "longest"] [])
    (FS : Fun K "is_sign" "is_sign" sSign fS fdS) (mS : mg "is_sign" = some (.ref fS)) (bS : Binds K fdS ["sign"] []) :
    FnOk P w K mg base CX0 3 f fd ["signs"] (spD K areA fun ds d => d = areF ds) := by
  have GS : FnOk P w K mg base CX0 2 fS fdS ["sign"] (spD K signA fun ds d => d = signF ds) := ok_sign FS G FN mN bN
  refine F.ok scAre (fun vs H Q E h => ?_) (fun cdv A outer s H vs Q E hr h => ?_)
  · obtain ⟨M, ds, _, dv, ⟨z, rfl, _⟩, _⟩ := h
    exact dv.length
  · obtain ⟨M, ds, ok, dv, ⟨S, rfl, hlen, hz⟩, q⟩ := h
    obtain ⟨t, hL⟩ := G.most
    cases dv with
    | cons h1 h2 =>
    cases h2
    rename_i v0
    refine ⟨_, pss_cons (ps_if (pt_not (pt_chain op_le op_le pe_int (pe_callB call_len_seq (by rfl) G.len PySem.boot_len (pa_cons (pv 0) pa_nil)) (pe_glob rfl hL (show RelV (.int 6) _ from ⟨_, rfl⟩)))) (pss_one (ps_ret pe_bl)) pss_nil)
      (pss_cons (ps_if (pt_not (pt_val (pe_callB (cr_all rfl) (by rfl) G.all (by decide +kernel) (pa_cons (pe_lc (own := [("sign", 1)]) (g := gName 1) (tt := tYes) rfl scAre.nd (pi_list (pv 0))
          (blkOk_by (N := ["signs", "sign"]) (sc := defScope sAre) (by decide +kernel)) (fun _ _ _ _ _ => pg_name (i := 1) scAre.nd rfl (.inl rfl)) (fun _ _ _ _ _ => pts_nil)
          (fun _ _ _ _ _ => pe_call GS hr rfl mS FS.kp bS .nil pass0 (pa_cons (pv 1) pa_nil))) pa_nil)))) (pss_one (ps_ret pe_bl)) pss_nil)
      (pss_cons (ps_if (pt_cmpR op_lt (pe_callB call_lenK (by rfl) G.len PySem.boot_len (pa_cons (pe_scK (own := [("sign", 1)]) (g := gName 1) (tt := tYes) rfl scAre.nd (pi_list (pv 0))
          (blkOk_by (N := ["signs", "sign"]) (sc := defScope sAre) (by decide +kernel)) (fun _ _ _ _ _ => pg_name (i := 1) scAre.nd rfl (.inl rfl)) (fun _ _ _ _ _ => pts_nil)
          (fun _ _ _ _ _ => pe_ix (ix_tupK (K := K) rfl) (pv 1) pe_int (fun _ _ => rfl))) pa_nil)) (pe_callB call_len_seq (by rfl) G.len PySem.boot_len (pa_cons (pv 0) pa_nil)) (nomark _)) (pss_one (ps_ret pe_bl)) pss_nil)
      (pss_one (ps_ret (pe_callB (cr_any rfl) (by rfl) G.any (by decide +kernel) (pa_cons (pe_lc (own := [("sign", 1)]) (g := gName 1) (tt := tYes) rfl scAre.nd (pi_list (pv 0))
          (blkOk_by (N := ["signs", "sign"]) (sc := defScope sAre) (by decide +kernel)) (fun _ _ _ _ _ => pg_name (i := 1) scAre.nd rfl (.inl rfl)) (fun _ _ _ _ _ => pts_nil)
          (fun _ _ _ _ _ => pe_cmpR op_eq (pe_ix (ix_tupK (K := K) rfl) (pv 1) pe_int (fun _ _ => rfl)) pe_int (nomark _))) pa_nil)))))), ?_⟩
    have hv : ∀ {H'}, Ex H H' → EvD K M (tVar 0) (start ["signs", "sign"] [v0]) H' (.list (S.map sgD)) := fun e => evd_var rfl (h1.ex e)
    have hlen' : (S.map sgD).length < sizeLine := by rw [List.length_map]; exact Nat.lt_of_le_of_lt hlen (by decide)
    have mem : ∀ d ∈ S.map sgD, ∃ p ∈ S, d = sgD p := fun d hd => by
      obtain ⟨p, hp, e⟩ := List.mem_map.mp hd
      exact ⟨p, hp, e.symm⟩
    have fin : ∀ b, validB S = b → PyData.bool b = areF [.list (S.map sgD)] := fun b e => by rw [areF_eq, e]
    -- the number of signs
    refine q_when (evt_not (evt_test (K := K) (M := M) (evd_chainI (g := fun i j => decide (i ≤ j)) (g' := fun i j => decide (i ≤ j)) evd_int (evd_lenL (eva_cons (hv (Ex.refl _)) eva_nil)) evd_int))) (fun hb H1 e1 => ?_) (fun hb H1 e1 => ?_)
    · refine q _ _ H1 e1 (.bl _) (fin _ ?_)
      rw [Bool.not_eq_true', List.length_map] at hb
      unfold validB
      rw [hb]
      rfl
    rw [Bool.not_eq_false', List.length_map] at hb
    have ok1 := ok.ex e1
    -- all signs are signs
    refine q_when (evt_not (evt_B (K := K) (M := M) (evd_all (bs := S.map isSignB) (eva_cons ?_ eva_nil)))) (fun hb2 H2 e2 => ?_) (fun hb2 H2 e2 => ?_)
    · refine (evd_lcL (fun _ => true) (fun d => signF [d]) ok1 (hv e1) hlen' fun M' d x H' hm ok' hd e dx Qg qg => ?_).mono fun d h => ?_
      · obtain ⟨p, hp, rfl⟩ := mem d hd
        exact qg _ H' (Ex.refl _) ⟨rfl, evt_yes, fun _ => evd_call (F := signF) ok' (eva_cons (evd_var rfl dx) eva_nil) ⟨p, rfl, hz p hp⟩⟩
      · rw [h, filter_yes, List.map_map, List.map_map]
        rfl
    · refine q _ _ H2 (e1.trans e2) (.bl _) (fin _ ?_)
      rw [Bool.not_eq_true', List.all_map] at hb2
      unfold validB
      rw [hb, show S.all isSignB = false from hb2]
      rfl
    rw [Bool.not_eq_false', List.all_map] at hb2
    have e12 := e1.trans e2
    have ok2 := ok.ex e12
    -- unlike names
    refine q_when (evt_test (K := K) (M := M) (evd_cmp (g := fun i j => decide (i < j)) (evd_lenSc (fun d => Sum.inr (sgU d).1) ok2 (hv e12) (by rw [List.length_map]; omega) fun M' d x H' hm ok' hd e dx Qg qg => ?_) (evd_lenL (eva_cons (hv e12) eva_nil)))) (fun hb3 H3 e3 => ?_) (fun hb3 H3 e3 => ?_)
    · obtain ⟨p, hp, rfl⟩ := mem d hd
      cases dx with
      | tup k1 k2 =>
        cases k2 with
        | cons r1 r2 =>
          cases r1
          exact qg _ H' (Ex.refl _) rfl (ev_op (ev_var rfl) ev_c (rv_ixT (SqT.of k1) (atI_nat (j := 0) rfl)))
    · refine q _ _ H3 (e12.trans e3) (.bl _) (fin _ ?_)
      rw [List.map_map, List.length_map] at hb3
      unfold validB
      rw [hb, show S.all isSignB = true from hb2, show decide (((sall (S.map fun p => Sum.inr p.1)).2 : Int) < (S.length : Int)) = true from hb3]
      rfl
    rw [List.map_map, List.length_map] at hb3
    have e13 := e12.trans e3
    have ok3 := ok.ex e13
    refine s_retP (K := K) (M := M) (evd_any (bs := S.map fun p => decide (p.2 = 0)) (eva_cons ?_ eva_nil)) fun v d H4 e4 dv pd => q v d H4 (e13.trans e4) dv ?_
    · refine (evd_lcL (fun _ => true) (fun d => .bool (decide ((sgU d).2 = 0))) ok3 (hv e13) hlen' fun M' d x H' hm ok' hd e dx Qg qg => ?_).mono fun d h => ?_
      · obtain ⟨p, hp, rfl⟩ := mem d hd
        exact qg _ H' (Ex.refl _) ⟨rfl, evt_yes, fun _ => evd_eqI (evd_ixT (j := 1) (evd_var rfl dx) evd_int rfl rfl) evd_int⟩
      · rw [h, filter_yes, List.map_map, List.map_map]
        rfl
    · rw [pd]
      refine fin _ ?_
      unfold validB
      rw [hb, show S.all isSignB = true from hb2, show decide (((sall (S.map fun p => Sum.inr p.1)).2 : Int) < (S.length : Int)) = false from hb3, List.any_map]
      rfl
end
end TH
set_option maxRecDepth 100000
set_option maxHeartbeats 4000000
namespace TH
open PySem L2 Evl
abbrev sInit : Stmt := inClass (top 34) 0
abbrev sMany : Stmt := inClass (top 34) 1
abbrev sHas : Stmt := inClass (top 34) 2
abbrev sNm : Stmt := inClass (top 34) 3
abbrev sKd : Stmt := inClass (top 34) 4
abbrev sNum : Stmt := inClass (top 34) 5
abbrev sLike : Stmt := inClass (top 34) 6
/-! ### a Book in the heap -/
theorem nk : ¬ (("_names" : Str) = "_kids") := by decide +kernel
def flds (l1 l2 : Addr) : List (Str × V) := putF "_kids" (.ref l2) (putF "_names" (.ref l1) [])
theorem flds_names (l1 l2 : Addr) : (flds l1 l2).lookup ("_names" : Str) = some (.ref l1) := by
  unfold flds
  rw [lookup_putF, if_neg nk, lookup_putF, if_pos rfl]
theorem flds_kids (l1 l2 : Addr) : (flds l1 l2).lookup ("_kids" : Str) = some (.ref l2) := by
  unfold flds
  rw [lookup_putF, if_pos rfl]
theorem flds_no (l1 l2 : Addr) {m : Str} (h1 : ¬ m = "_kids") (h2 : ¬ m = "_names") : (flds l1 l2).lookup m = none := by
  unfold flds
  rw [lookup_putF, if_neg h1, lookup_putF, if_neg h2]
  rfl
def BookAt (C : Addr) (M : Addr → Prop) (H : Hp) (p : Addr) (S : List Sg) : Prop :=
  ∃ dx l1 l2, H p = some (.ins C dx (flds l1 l2)) ∧ H l1 = some (.lst (S.map fun q => V.str q.1)) ∧ ¬ M l1 ∧ H l2 = some (.lst (S.map fun q => V.int q.2)) ∧ ¬ M l2
section
variable {K : PySem.W.Frag} {M M' : Addr → Prop} {H H' : Hp} {C p : Addr} {S : List Sg}
theorem BookAt.ex (h : BookAt C M H p S) (e : Ex H H') : BookAt C M H' p S := by
  obtain ⟨dx, l1, l2, h1, h2, h3, h4, h5⟩ := h
  exact ⟨dx, l1, l2, e _ _ h1, e _ _ h2, h3, e _ _ h4, h5⟩
theorem BookAt.weak (h : BookAt C M H p S) (m : ∀ a, M' a → M a) : BookAt C M' H p S := by
  obtain ⟨dx, l1, l2, h1, h2, h3, h4, h5⟩ := h
  exact ⟨dx, l1, l2, h1, h2, fun z => h3 (m _ z), h4, fun z => h5 (m _ z)⟩
theorem BookAt.more {D : Addr} (h : BookAt C M H p S) (hD : H D = none) : BookAt C (TH.more M D) H p S := by
  obtain ⟨dx, l1, l2, h1, h2, h3, h4, h5⟩ := h
  refine ⟨dx, l1, l2, h1, h2, fun z => ?_, h4, fun z => ?_⟩
  · rcases z with z | z
    · exact h3 z
    · rw [z, hD] at h2
      cases h2
  · rcases z with z | z
    · exact h5 z
    · rw [z, hD] at h4
      cases h4
theorem BookAt.upd {l : Addr} {ys : List V} {o : HO} (h : BookAt C M H p S) (hl : H l = some (.lst ys)) (m : M l) : BookAt C M (L2.upd H l o) p S := by
  obtain ⟨dx, l1, l2, h1, h2, h3, h4, h5⟩ := h
  refine ⟨dx, l1, l2, ?_, ?_, h3, ?_, h5⟩
  · rw [upd_ne (ne_of h1 hl (by intro z; cases z))]
    exact h1
  · rw [upd_ne (show l1 ≠ l from fun z => h3 (by rw [z]; exact m))]
    exact h2
  · rw [upd_ne (show l2 ≠ l from fun z => h5 (by rw [z]; exact m))]
    exact h4
theorem Dt.updI {v : V} {d : PyData} {l : Addr} {C dx : Addr} {fs : List (Str × V)} {o : HO} (h : Dt K M H v d) (hl : H l = some (.ins C dx fs)) : Dt K M (L2.upd H l o) v d :=
  Dt.move (fun a xs h n => ⟨by rw [upd_ne (ne_of h hl (by intro z; cases z))]; exact h, n⟩) (fun a xs h => by rw [upd_ne (ne_of h hl (by intro z; cases z))]; exact h) d v h
end
/-! ### what the top has written -/
structure ExcT (K : PySem.W.Frag) (mg : Str → Option Value) (x : Str) (C : Addr) : Prop where
  g : mg x = some (.ref C)
  x : PySem.W.excIn K C [.type "ValueError", .type "Exception", .type "BaseException", .type "object"] "ValueError.__new__" = true
  k : PySem.W.keepIn K (.ref C) = true
  b : PySem.W.subIn K (.ref C) (.type "BaseException") = some true
  t : PySem.W.typeIn K (.ref C) = some (.type "type")
structure BookT (K : PySem.W.Frag) (mg : Str → Option Value) (C : Addr) : Prop where
  cl : Cls K C
  n1 : NoAttr K C "_names"
  n2 : NoAttr K C "_kids"
  g : mg "Book" = some (.ref C)
section
variable {K : PySem.W.Frag} {M : Addr → Prop} {H H' : Hp} {σ : L2.St} {te : TE} {P : PyData → Prop} {D : Ends} {tz : TS} {i : Nat} {f : Str}
theorem q_fldP (h : EvP K M te σ H P) (k : ∀ v d H1, Ex H H1 → Dt K M H1 v d → P d → ∃ p C dx fs, σ[i]? = some (some (.ref p)) ∧ H1 p = some (.ins C dx fs) ∧ Cls K C ∧ NoAttr K C f ∧ fs.length < 1000 ∧ tz D σ (upd H1 p (.ins C dx (putF f v fs)))) :
    tSeq (sFld K (tVar i) te f) tz D σ H := h.use fun v d H1 e dv pd => by
  obtain ⟨p, C, dx, fs, h1, h2, h3, h4, h5, h6⟩ := k v d H1 e dv pd
  exact ⟨_, h1, p, C, dx, fs, rfl, h2, h3, h4, h5, h6⟩
theorem s_fldP (h : EvP K M te σ H P) (k : ∀ v d H1, Ex H H1 → Dt K M H1 v d → P d → ∃ p C dx fs, σ[i]? = some (some (.ref p)) ∧ H1 p = some (.ins C dx fs) ∧ Cls K C ∧ NoAttr K C f ∧ fs.length < 1000 ∧ D.nx σ (upd H1 p (.ins C dx (putF f v fs)))) :
    sFld K (tVar i) te f D σ H := h.use fun v d H1 e dv pd => by
  obtain ⟨p, C, dx, fs, h1, h2, h3, h4, h5, h6⟩ := k v d H1 e dv pd
  exact ⟨_, h1, p, C, dx, fs, rfl, h2, h3, h4, h5, h6⟩
end
/-- Book(signs) -/
def spInit (K : PySem.W.Frag) (C CN : Addr) : Sp := fun vs H Q E => ∃ (M : Addr → Prop) (p dx : Addr) (v : V) (S : List Sg), Ok M H ∧ vs = [.ref p, v] ∧ H p = some (.ins C dx []) ∧ Dt K M H v (.list (S.map sgD)) ∧ S.length ≤ 100 ∧ (∀ q ∈ S, q.1.length ≤ 100000) ∧
  (validB S = true → ∀ H', BookAt C M H' p S → (∀ b o, H b = some o → b ≠ p → H' b = some o) → Q .non H') ∧ (validB S = false → ∀ H', Ex H H' → E (.ref CN) none H')
section
variable {P : Program} {w : World} {K : PySem.W.Frag} {mg : Str → Option Value} {base : Heap}
theorem scInit : FnScope ["self", "signs", "sign"] ["self", "signs"] (defScope sInit) := ⟨rfl, rfl, rfl, by decide +kernel, rfl, by decide +kernel, by decide +kernel⟩
theorem ok_init {f fN fS fA C CN : Addr} {fd fdN fdS fdA : FuncData} (F : Fun K "__init__" "Book.__init__" sInit f fd) (G : GlobS mg) (T : BookT K mg C) (TN : ExcT K mg "NoBook" CN)
    (FN : Fun K "is_name" "is_name" sName fN fdN) (mN : mg "is_name" = some (.ref fN)) (bN : Binds K fdN ["name", "longest"] [])
    (FS : Fun K "is_sign" "is_sign" sSign fS fdS) (mS : mg "is_sign" = some (.ref fS)) (bS : Binds K fdS ["sign"] [])
    (FA : Fun K "are_signs" "are_signs" sAre fA fdA) (mA : mg "are_signs" = some (.ref fA)) (bA : Binds K fdA ["signs"] []) :
    FnOk P w K mg base (L2.CX P w) 4 f fd ["self", "signs"] (spInit K C CN) := by
  have GA : FnOk P w K mg base CX0 3 fA fdA ["signs"] (spD K areA fun ds d => d = areF ds) := ok_are FA G FN mN bN FS mS bS
  refine F.okX scInit (fun vs H Q E h => ?_) (fun cdv A outer s H vs Q E hr h => ?_)
  · obtain ⟨M, p, dx, v, S, _, rfl, _⟩ := h
    rfl
  · obtain ⟨M, p, dx, v, S, ok, rfl, hp, hv, hlen, hz, qy, qn⟩ := h
    refine ⟨_, pss_cons (ps_if (pt_not (pt_val (pe_call GA hr rfl mA FA.kp bA .nil pass0 (pa_cons (pv 1) pa_nil)))) (pss_one (ps_raise rfl (takes_of rfl rfl rfl rfl) (pmk_own PySem.F.excBase_ValueError TN.x TN.g TN.k (raises_own TN.b TN.t) rfl))) pss_nil)
      (pss_cons (ps_fld (pv 0) (pe_lc (own := [("sign", 2)]) (g := gName 2) (tt := tYes) rfl scInit.nd (pi_list (pv 1)) (blkOk_by (N := ["self", "signs", "sign"]) (sc := defScope sInit) (by decide +kernel)) (fun _ _ _ _ _ => pg_name (i := 2) scInit.nd rfl (.inl rfl)) (fun _ _ _ _ _ => pts_nil)
          (fun _ _ _ _ _ => pe_ix (ix_tupK (K := K) rfl) (pv 2) pe_int (fun _ _ => rfl))) rfl)
      (pss_one (ps_fld (pv 0) (pe_lc (own := [("sign", 2)]) (g := gName 2) (tt := tYes) rfl scInit.nd (pi_list (pv 1)) (blkOk_by (N := ["self", "signs", "sign"]) (sc := defScope sInit) (by decide +kernel)) (fun _ _ _ _ _ => pg_name (i := 2) scInit.nd rfl (.inl rfl)) (fun _ _ _ _ _ => pts_nil)
          (fun _ _ _ _ _ => pe_ix (ix_tupK (K := K) rfl) (pv 2) pe_int (fun _ _ => rfl))) rfl))), ?_⟩
    have hlen' : (S.map sgD).length < sizeLine := by rw [List.length_map]; exact Nat.lt_of_le_of_lt hlen (by decide)
    have mem : ∀ d ∈ S.map sgD, ∃ p ∈ S, d = sgD p := fun d hd => by
      obtain ⟨p, hp, e⟩ := List.mem_map.mp hd
      exact ⟨p, hp, e.symm⟩
    refine q_when (evt_not (evt_B (K := K) (M := M) ((evd_call (F := areF) ok (eva_cons (evd_var rfl hv) eva_nil) ⟨S, rfl, hlen, hz⟩).mono fun d h => h.trans (areF_eq S)))) (fun hb H1 e1 => ?_) (fun hb H1 e1 => ?_)
    · rw [Bool.not_eq_true'] at hb
      exact qn hb H1 e1
    rw [Bool.not_eq_false'] at hb
    have ok1 := ok.ex e1
    refine q_fldP (K := K) (M := M) (P := (· = .list (S.map fun q => PyData.str q.1))) ?_ fun v1 d1 H2 e2 dv1 pd1 => ⟨p, C, dx, [], rfl, (e1.trans e2) _ _ hp, T.cl, T.n1, by decide, ?_⟩
    · refine (evd_lcL (fun _ => true) (fun d => .str (sgU d).1) ok1 (evd_var rfl (hv.ex e1)) hlen' fun M' d x H' hm ok' hd e dx Qg qg => ?_).mono fun d h => ?_
      · obtain ⟨p, hp, rfl⟩ := mem d hd
        exact qg _ H' (Ex.refl _) ⟨rfl, evt_yes, fun _ => evd_ixT (j := 0) (evd_var rfl dx) evd_int rfl rfl⟩
      · rw [h, filter_yes, List.map_map]
        rfl
    subst pd1
    cases dv1 with
    | lst g1 g2 g3 =>
    rename_i l1 xs1
    have g3 : xs1 = S.map fun q => V.str q.1 := by
      have := Dts.strs (S.map fun q => q.1) (by rw [List.map_map]; exact g3)
      rw [this, List.map_map]
      rfl
    subst g3
    have hp2 : H2 p = some (.ins C dx []) := (e1.trans e2) _ _ hp
    have hv3 := ((hv.ex (e1.trans e2)).updI (o := .ins C dx (putF "_names" (.ref l1) [])) hp2)
    have ok3 : Ok M (upd H2 p (.ins C dx (putF "_names" (.ref l1) []))) := fun l m => by
      by_cases e : l = p
      · rw [e, upd_same]
        simp
      · rw [upd_ne e]
        exact ok1.ex e2 l m
    refine s_fldP (K := K) (M := M) (P := (· = .list (S.map fun q => PyData.int q.2))) ?_ fun v2 d2 H3 e3 dv2 pd2 => ⟨p, C, dx, _, rfl, e3 _ _ upd_same, T.cl, T.n2, (by show 1 < 1000; decide), ?_⟩
    · refine (evd_lcL (fun _ => true) (fun d => .int (sgU d).2) ok3 (evd_var rfl hv3) hlen' fun M' d x H' hm ok' hd e dx Qg qg => ?_).mono fun d h => ?_
      · obtain ⟨p, hp, rfl⟩ := mem d hd
        exact qg _ H' (Ex.refl _) ⟨rfl, evt_yes, fun _ => evd_ixT (j := 1) (evd_var rfl dx) evd_int rfl rfl⟩
      · rw [h, filter_yes, List.map_map]
        rfl
    subst pd2
    cases dv2 with
    | lst k1 k2 k3 =>
    rename_i l2 xs2
    have k3 : xs2 = S.map fun q => V.int q.2 := by
      have := Dts.ints (S.map fun q => q.2) (by rw [List.map_map]; exact k3)
      rw [this, List.map_map]
      rfl
    subst k3
    have hp3 : H3 p = some (.ins C dx (putF "_names" (.ref l1) [])) := e3 _ _ upd_same
    have n1 : l1 ≠ p := ne_of g1 hp2 (by intro z; cases z)
    have n2 : l2 ≠ p := ne_of k1 hp3 (by intro z; cases z)
    refine qy hb _ ⟨dx, l1, l2, upd_same, ?_, g2, ?_, k2⟩ fun b o hb hbp => ?_
    · rw [upd_ne n1]
      exact e3 _ _ (by rw [upd_ne n1]; exact g1)
    · rw [upd_ne n2]
      exact k1
    · rw [upd_ne hbp]
      exact e3 _ _ (by rw [upd_ne hbp]; exact (e1.trans e2) _ _ hb)
end
end TH
set_option maxRecDepth 100000
set_option maxHeartbeats 4000000
namespace TH
open PySem L2 Evl
/-! ### what a Book tells -/
def numV (S : List Sg) (z : Str) : V := match S.findIdx? (fun q => decide (q.1 = z)) with
  | some j => .int j
  | none => .non
def spMany (C : Addr) : Sp := fun vs H Q _ => ∃ (M : Addr → Prop) (p : Addr) (S : List Sg), vs = [.ref p] ∧ BookAt C M H p S ∧ Q (.int S.length) H
def spNm (C : Addr) : Sp := fun vs H Q _ => ∃ (M : Addr → Prop) (p : Addr) (S : List Sg) (j : Nat) (q : Sg), vs = [.ref p, .int j] ∧ BookAt C M H p S ∧ S[j]? = some q ∧ Q (.str q.1) H
def spHas (C : Addr) : Sp := fun vs H Q _ => ∃ (M : Addr → Prop) (p : Addr) (S : List Sg) (z : Int), vs = [.ref p, .int z] ∧ BookAt C M H p S ∧ ∀ H', Ex H H' → Q (.bl (decide (0 ≤ z) && decide (z < (S.length : Int)))) H'
def spKd (C : Addr) : Sp := fun vs H Q _ => ∃ (M : Addr → Prop) (p : Addr) (S : List Sg) (j : Nat) (q : Sg), vs = [.ref p, .int j] ∧ BookAt C M H p S ∧ S[j]? = some q ∧ Q (.int q.2) H
def spNum (C : Addr) : Sp := fun vs H Q _ => ∃ (M : Addr → Prop) (p : Addr) (S : List Sg) (z : Str), vs = [.ref p, .str z] ∧ BookAt C M H p S ∧ ∀ H', Ex H H' → Q (numV S z) H'
def namesOk (S : List Sg) : Prop := ∀ q ∈ S, PyData.strOk q.1 = true
def spLike (C : Addr) : Sp := fun vs H Q _ => ∃ (M M' : Addr → Prop) (p p' : Addr) (S S' : List Sg), vs = [.ref p, .ref p'] ∧ BookAt C M H p S ∧ BookAt C M' H p' S' ∧ namesOk S ∧ namesOk S' ∧
  Q (.bl (decide (S.map (·.1) = S'.map (·.1)) && decide (S.map (·.2) = S'.map (·.2)))) H
theorem hu64 {A : Around} {k : Nat} (hr : Room k A) : A.units + 64 < cLine := by
  have := hr.un
  omega
theorem eqv_strs : ∀ zs ws : List Str, PyData.eqvAll (zs.map PyData.str) (ws.map PyData.str) = decide (zs = ws)
  | [], [] => by simp [PyData.eqvAll]
  | [], _ :: _ => by simp [PyData.eqvAll]
  | _ :: _, [] => by simp [PyData.eqvAll]
  | z :: zs, w :: ws => by
    rw [List.map_cons, List.map_cons, PyData.eqvAll, eqv_strs zs ws, PyData.eqv]
    by_cases h : z = w <;> by_cases h2 : zs = ws <;> simp [h, h2]
theorem eqv_ints : ∀ zs ws : List Int, PyData.eqvAll (zs.map PyData.int) (ws.map PyData.int) = decide (zs = ws)
  | [], [] => by simp [PyData.eqvAll]
  | [], _ :: _ => by simp [PyData.eqvAll]
  | _ :: _, [] => by simp [PyData.eqvAll]
  | z :: zs, w :: ws => by
    rw [List.map_cons, List.map_cons, PyData.eqvAll, eqv_ints zs ws, PyData.eqv]
    by_cases h : z = w <;> by_cases h2 : zs = ws <;> simp [h, h2]
theorem dpAll_strs {K : PySem.W.Frag} {H : Hp} : ∀ zs : List Str, DpAll K H (zs.map V.str) (zs.map PyData.str)
  | [] => .nil
  | z :: zs => .cons (.str z) (dpAll_strs zs)
theorem dpAll_ints {K : PySem.W.Frag} {H : Hp} : ∀ zs : List Int, DpAll K H (zs.map V.int) (zs.map PyData.int)
  | [] => .nil
  | z :: zs => .cons (.int z) (dpAll_ints zs)
theorem lay_strs : ∀ zs : List Str, (∀ z ∈ zs, PyData.strOk z = true) → PyData.canLayAll0 (zs.map PyData.str) = true
  | [], _ => rfl
  | z :: zs, h => by
    rw [List.map_cons, PyData.canLayAll0, PyData.canLay0, h z List.mem_cons_self, lay_strs zs fun y hy => h y (List.mem_cons_of_mem _ hy)]
    rfl
theorem lay_ints : ∀ zs : List Int, PyData.canLayAll0 (zs.map PyData.int) = true
  | [] => rfl
  | z :: zs => by
    rw [List.map_cons, PyData.canLayAll0, PyData.canLay0, lay_ints zs]
    rfl
theorem depth_strs : ∀ zs : List Str, PyData.depthAll (zs.map PyData.str) = 0
  | [] => rfl
  | z :: zs => by rw [List.map_cons, PyData.depthAll, PyData.depth, depth_strs zs]; rfl
theorem depth_ints : ∀ zs : List Int, PyData.depthAll (zs.map PyData.int) = 0
  | [] => rfl
  | z :: zs => by rw [List.map_cons, PyData.depthAll, PyData.depth, depth_ints zs]; rfl
theorem shaped_strs (zs : List Str) (h : ∀ z ∈ zs, PyData.strOk z = true) : SeqAt.shaped (.list (zs.map PyData.str)) = true := by
  unfold SeqAt.shaped
  rw [PyData.canLay0, lay_strs zs h, PyData.depth, depth_strs]
  rfl
theorem shaped_ints (zs : List Int) : SeqAt.shaped (.list (zs.map PyData.int)) = true := by
  unfold SeqAt.shaped
  rw [PyData.canLay0, lay_ints zs, PyData.depth, depth_ints]
  rfl
section
variable {P : Program} {w : World} {K : PySem.W.Frag} {mg : Str → Option Value} {base : Heap}
theorem scMany : FnScope ["self"] ["self"] (defScope sMany) := ⟨rfl, rfl, rfl, by decide +kernel, rfl, by decide +kernel, by decide +kernel⟩
theorem ok_many {f C : Addr} {fd : FuncData} (F : Fun K "many" "Book.many" sMany f fd) (G : GlobS mg) (T : BookT K mg C) : FnOk P w K mg base CX0 1 f fd ["self"] (spMany C) := by
  refine F.ok scMany (fun vs H Q E h => ?_) (fun cdv A outer s H vs Q E hr h => ?_)
  · obtain ⟨M, p, S, rfl, _⟩ := h
    rfl
  · obtain ⟨M, p, S, rfl, ⟨dx, l1, l2, h1, h2, h3, h4, h5⟩, q⟩ := h
    refine ⟨_, pss_one (ps_ret (pe_callB call_len_seq (by rfl) G.len PySem.boot_len (pa_cons (pe_fld (pv 0) rfl) pa_nil))), ?_⟩
    refine ⟨_, rfl, p, C, dx, _, _, rfl, h1, T.cl, T.n1, flds_names _ _, _, _, rfl, .inl (SqL.of h2), ?_⟩
    rw [List.length_map]
    exact q
theorem scHas : FnScope ["self", "sign"] ["self", "sign"] (defScope sHas) := ⟨rfl, rfl, rfl, by decide +kernel, rfl, by decide +kernel, by decide +kernel⟩
theorem ok_has {f C : Addr} {fd : FuncData} (F : Fun K "has" "Book.has" sHas f fd) (G : GlobS mg) (T : BookT K mg C) : FnOk P w K mg base CX0 1 f fd ["self", "sign"] (spHas C) := by
  refine F.ok scHas (fun vs H Q E h => ?_) (fun cdv A outer s H vs Q E hr h => ?_)
  · obtain ⟨M, p, S, z, rfl, _⟩ := h
    rfl
  · obtain ⟨M, p, S, z, rfl, ⟨dx, l1, l2, h1, h2, h3, h4, h5⟩, q⟩ := h
    refine ⟨_, pss_one (ps_ret (pe_chain op_le op_lt pe_int (pv 1) (pe_callB call_len_seq (by rfl) G.len PySem.boot_len (pa_cons (pe_fld (pv 0) rfl) pa_nil)))), ?_⟩
    refine s_retP (K := K) (M := M) (evd_chainI (j := z) (k := S.length) (g := fun i j => decide (i ≤ j)) (g' := fun i j => decide (i < j)) evd_int (evd_var rfl (.int z)) fun H1 e Q q => ?_) fun v d H2 e2 dv pd => ?_
    · refine ⟨_, rfl, p, C, dx, _, _, rfl, e _ _ h1, T.cl, T.n1, flds_names _ _, _, _, rfl, .inl (SqL.of (e _ _ h2)), ?_⟩
      rw [List.length_map]
      exact q _ _ H1 (Ex.refl _) (.int _) rfl
    · subst pd
      cases dv
      exact q H2 e2
theorem scNm : FnScope ["self", "sign"] ["self", "sign"] (defScope sNm) := ⟨rfl, rfl, rfl, by decide +kernel, rfl, by decide +kernel, by decide +kernel⟩
theorem ok_nm {f C : Addr} {fd : FuncData} (F : Fun K "name" "Book.name" sNm f fd) (T : BookT K mg C) : FnOk P w K mg base CX0 1 f fd ["self", "sign"] (spNm C) := by
  refine F.ok scNm (fun vs H Q E h => ?_) (fun cdv A outer s H vs Q E hr h => ?_)
  · obtain ⟨M, p, S, j, q, rfl, _⟩ := h
    rfl
  · obtain ⟨M, p, S, j, q, rfl, ⟨dx, l1, l2, h1, h2, h3, h4, h5⟩, hj, k⟩ := h
    refine ⟨_, pss_one (ps_ret (pe_ix ix_list (pe_fld (pv 0) rfl) (pv 1) (fun _ _ => rfl))), ?_⟩
    exact ⟨_, rfl, p, C, dx, _, _, rfl, h1, T.cl, T.n1, flds_names _ _, _, rfl, _, _, _, _, rfl, rfl, SqL.of h2, atI_nat (by rw [List.getElem?_map, hj]; rfl), k⟩
theorem scKd : FnScope ["self", "sign"] ["self", "sign"] (defScope sKd) := ⟨rfl, rfl, rfl, by decide +kernel, rfl, by decide +kernel, by decide +kernel⟩
theorem ok_kd {f C : Addr} {fd : FuncData} (F : Fun K "kids" "Book.kids" sKd f fd) (T : BookT K mg C) : FnOk P w K mg base CX0 1 f fd ["self", "sign"] (spKd C) := by
  refine F.ok scKd (fun vs H Q E h => ?_) (fun cdv A outer s H vs Q E hr h => ?_)
  · obtain ⟨M, p, S, j, q, rfl, _⟩ := h
    rfl
  · obtain ⟨M, p, S, j, q, rfl, ⟨dx, l1, l2, h1, h2, h3, h4, h5⟩, hj, k⟩ := h
    refine ⟨_, pss_one (ps_ret (pe_ix ix_list (pe_fld (pv 0) rfl) (pv 1) (fun _ _ => rfl))), ?_⟩
    exact ⟨_, rfl, p, C, dx, _, _, rfl, h1, T.cl, T.n2, flds_kids _ _, _, rfl, _, _, _, _, rfl, rfl, SqL.of h4, atI_nat (by rw [List.getElem?_map, hj]; rfl), k⟩
end
end TH
set_option maxRecDepth 100000
set_option maxHeartbeats 4000000
namespace TH
open PySem L2 Evl
section
variable {X : Cx} {K : PySem.W.Frag}
theorem pg_tupK {es : List Expr} {k : Nat} {t : TGs} {n : Nat} {pos : Pos} (hK : X.K = K) (hc : X.calm = true) (h : PGs X es t)
    (hn : (assignEach es X.env).length = n := by rfl) (hst : (assignEach es X.env).findIdx? (·.1) = none := by rfl) : PG X (.Tuple es k pos) (gTup K n t) := by
  subst hK
  exact pg_tup hc h hn hst
end
section
variable {K : PySem.W.Frag} {M : Addr → Prop} {H H1 H' : Hp} {σ : L2.St} {ta tb tc te tl : TE} {P : PyData → Prop}
/-- a draw -/
theorem evp_take {E : XK} {b : Addr} {n : Int} (hb : Ev tb σ H (.ref b)) (hx : H b = some (Box b)) (hn : EvD K M te σ H (.int n)) (n0 : 0 < n) (n1 : n.natAbs < 2 ^ 200) :
    EvP K M (tCall spTake [] E (tCons tb (tCons te tNil))) σ H (fun d => ∃ k : Int, d = .int k ∧ 0 ≤ k ∧ k < n) := fun H1 e Q q =>
  hb H1 e _ fun H2 e2 => hn H2 (e.trans e2) _ fun v d H3 e3 dv pd => by
    subst pd
    cases dv
    exact ⟨b, n, rfl, ((e.trans e2).trans e3) _ _ hx, n0, n1, fun k H4 k0 k1 e4 => q _ _ H4 ((e2.trans e3).trans e4) (.int k) ⟨k, rfl, k0, k1⟩⟩
/-- texts joined -/
theorem txt_join (ys : List Str) : (Txt.join "" ys).cps.toList = (ys.map fun y => y.cps.toList).flatten := by
  rw [TL.join_eq]
  have h : TL.tl (Str.join "" ys) = _ := TL.tl_join "" ys
  have e : TL.tl ("" : Str) = [] := by decide +kernel
  rw [e] at h
  refine h.trans ?_
  clear h
  induction ys with
  | nil => rfl
  | cons y ys ih =>
    cases ys with
    | nil =>
      show TL.tl y = y.cps.toList ++ []
      rw [List.append_nil]
    | cons z zs =>
      show TL.tl y ++ ([] ++ TL.joinL [] ((z :: zs).map TL.tl)) = y.cps.toList ++ _
      rw [ih]
      rfl
theorem evp_join {PY : List Str → Prop} (h : EvP K M te σ H (fun d => ∃ ys : List Str, d = .list (ys.map PyData.str) ∧ PY ys)) (hz : ∀ ys, PY ys → (ys.map (·.length)).sum ≤ 16777216) :
    EvP K M (tM1 (fun x xs H Q => ∃ a p, ∃ ys : List Str, x = .str a ∧ xs = [.ref p] ∧ (SqL K H p (ys.map V.str) ∨ SqT K H p (ys.map V.str)) ∧ (ys.map (·.length)).sum + ys.length * a.length ≤ 16777216 ∧ Q (.str (Txt.join a ys)) H) (tC (.str "")) te) σ H
      (fun d => ∃ ys, PY ys ∧ d = .str (Txt.join "" ys)) := fun H1 e Q q => ⟨⟨_, rfl⟩, h H1 e _ fun v d H2 e2 dv pd => by
    obtain ⟨ys, rfl, py⟩ := pd
    cases dv with
    | lst k1 k2 k3 =>
      have e := k3.strs
      subst e
      refine ⟨_, _, ys, rfl, rfl, .inl (sq_of k1), ?_, q _ _ H2 e2 (.str _) ⟨ys, py, rfl⟩⟩
      have e0 : ("" : Str).length = 0 := by decide +kernel
      rw [e0, Nat.mul_zero, Nat.add_zero]
      exact hz ys py⟩
/-- in, not in a list of texts -/
theorem inV_str (z : Str) (ys : List Str) : inV (.str z) (ys.map V.str) = decide (z ∈ ys) := by
  unfold inV
  rw [List.any_map, Bool.eq_iff_iff]
  simp only [List.any_eq_true, decide_eq_true_eq, Function.comp]
  constructor
  · rintro ⟨y, hy, h⟩
    have : y = z := by
      have h : (y == z) = true := h
      simpa using h
    subst this
    exact hy
  · intro h
    refine ⟨z, h, ?_⟩
    show (z == z) = true
    simp
theorem flat_strs (ys : List Str) : (ys.map V.str).all flatV = true := by
  rw [List.all_map, List.all_eq_true]
  intro y _
  rfl
theorem flat_ints (ys : List Int) : (ys.map V.int).all flatV = true := by
  rw [List.all_map, List.all_eq_true]
  intro y _
  rfl
theorem evd_notInS {z : Str} {ys : List Str} (ha : EvD K M ta σ H (.str z)) (hb : EvD K M tb σ H (.list (ys.map PyData.str))) : EvD K M (tOp (rIn K true) ta tb) σ H (.bool (!decide (z ∈ ys))) :=
  evp_op ha hb fun x y a b H1 e dx dy px py Q q => by
    subst px py
    cases dx
    cases dy with
    | lst k1 k2 k3 =>
      have e := k3.strs
      subst e
      refine ⟨_, _, rfl, .inl (sq_of k1), rfl, flat_strs ys, ?_⟩
      rw [inV_str]
      exact q _ _ H1 (Ex.refl _) (.bl _) rfl
theorem inV_int (z : Int) (ys : List Int) : inV (.int z) (ys.map V.int) = decide (z ∈ ys) := by
  unfold inV
  rw [List.any_map, Bool.eq_iff_iff]
  simp only [List.any_eq_true, decide_eq_true_eq, Function.comp]
  constructor
  · rintro ⟨y, hy, h⟩
    have : y = z := by
      have h : (y == z) = true := h
      simpa using h
    subst this
    exact hy
  · intro h
    refine ⟨z, h, ?_⟩
    show (z == z) = true
    simp
theorem evd_inI {z : Int} {ys : List Int} (ha : EvD K M ta σ H (.int z)) (hb : EvD K M tb σ H (.list (ys.map PyData.int))) : EvD K M (tOp (rIn K false) ta tb) σ H (.bool (decide (z ∈ ys))) :=
  evp_op ha hb fun x y a b H1 e dx dy px py Q q => by
    subst px py
    cases dx
    cases dy with
    | lst k1 k2 k3 =>
      have e := k3.ints
      subst e
      refine ⟨_, _, rfl, .inl (sq_of k1), rfl, flat_ints ys, ?_⟩
      rw [inV_int]
      exact q _ _ H1 (Ex.refl _) (.bl _) rfl
/-- min of a list of ints -/
theorem evp_min {ta : TA} {ns : List Int} (h : EvDA K M ta σ H [.list (ns.map PyData.int)]) (hn : 0 < ns.length) : EvP K M (tCB (rMin K) ta) σ H (fun d => ∃ m, d = .int m ∧ m ∈ ns ∧ ∀ y ∈ ns, m ≤ y) :=
  evp_cb h fun vs ds H1 e dv pd Q q => by
    subst pd
    cases dv with
    | cons h1 h2 =>
      cases h2
      cases h1 with
      | lst k1 k2 k3 =>
        have e := k3.ints
        subst e
        exact ⟨_, ns, rfl, sq_of k1, hn, fun m hm hl => q _ _ H1 (Ex.refl _) (.int m) ⟨m, rfl, hm, hl⟩⟩
/-- an int in a comparison, where the left one is not fixed -/
theorem evp_cmp {g : Int → Int → Bool} {PA PB : PyData → Prop} (ha : EvP K M ta σ H PA) (hb : EvP K M tb σ H PB) (hi : ∀ a, PA a → ∃ i, a = .int i) (hj : ∀ a, PB a → ∃ i, a = .int i) :
    EvP K M (tOp (rI0 fun i j => .bl (g i j)) ta tb) σ H (fun d => ∃ i j, PA (.int i) ∧ PB (.int j) ∧ d = .bool (g i j)) :=
  evp_I0 ha hb fun a b pa pb => by
    obtain ⟨i, rfl⟩ := hi a pa
    obtain ⟨j, rfl⟩ := hj b pb
    exact ⟨i, j, rfl, rfl, _, ⟨i, j, pa, pb, rfl⟩, fun _ => .bl _⟩
/-- a test that is one or the other -/
theorem EvP.test {D : Ends} {tu tw : TS} {tz : TS} {PB : Bool → Prop} (h : EvP K M te σ H (fun d => ∃ b, d = .bool b ∧ PB b)) (k : ∀ b H1, Ex H H1 → PB b → if b = true then tu { D with nx := tz D } σ H1 else tw { D with nx := tz D } σ H1) : tSeq (tIfS (tTest te) tu tw) tz D σ H :=
  h.use fun v d H1 e dv pd => by
    obtain ⟨b, rfl, pb⟩ := pd
    cases dv
    exact ⟨b, rfl, k b H1 e pb⟩
end
theorem EvPA.mono {K : PySem.W.Frag} {M : Addr → Prop} {ta : TA} {σ : L2.St} {H : Hp} {P Q : List PyData → Prop} (h : EvPA K M ta σ H P) (k : ∀ d, P d → Q d) : EvPA K M ta σ H Q := fun H1 e R q => h H1 e R fun v d H2 e2 hd hp => q v d H2 e2 hd (k d hp)
/-- nothing changes -/
abbrev MF : Addr → Prop := fun _ => False
theorem okF {H : Hp} : Ok MF H := fun _ h => h.elim
section
variable {K : PySem.W.Frag} {M : Addr → Prop} {H H' : Hp} {σ : L2.St} {te : TE} {P : PyData → Prop} {D : Ends} {tz : TS} {i i' : Nat} {l : Addr} {xs : List V}
/-- l.append(e) -/
theorem s_appP (hl : H l = some (.lst xs)) (hs : σ[i]? = some (some (.ref l))) (h : EvP K M te σ H P) (hz : xs.length < sizeLine) (k : ∀ v d H1, Ex H H1 → Dt K M H1 v d → P d → D.nx σ (upd H1 l (.lst (xs ++ [v])))) :
    tDrop (tBM K "list" rAppend (tVar i) (tCons te tNil)) D σ H :=
  ⟨_, hs, .inl ⟨rfl, _, SqL.of hl⟩, h.use fun v d H1 e dv pd => ⟨l, xs, v, rfl, rfl, e _ _ hl, hz, k v d H1 e dv pd⟩⟩
theorem q_appP (hl : H l = some (.lst xs)) (hs : σ[i]? = some (some (.ref l))) (h : EvP K M te σ H P) (hz : xs.length < sizeLine) (k : ∀ v d H1, Ex H H1 → Dt K M H1 v d → P d → tz D σ (upd H1 l (.lst (xs ++ [v])))) :
    tSeq (tDrop (tBM K "list" rAppend (tVar i) (tCons te tNil))) tz D σ H := s_appP (D := { D with nx := tz D }) hl hs h hz k
/-- l[j] = e -/
theorem s_setP {j : Nat} (hl : H l = some (.lst xs)) (hs : σ[i]? = some (some (.ref l))) (hj : σ[i']? = some (some (.int (j : Int)))) (hz : j < xs.length) (h : EvP K M te σ H P) (k : ∀ v d H1, Ex H H1 → Dt K M H1 v d → P d → D.nx σ (upd H1 l (.lst (xs.set j v)))) :
    tAsg te (gSub (tVar i) (tVar i') rSetL) D σ H := h.use fun v d H1 e dv pd => ⟨_, hs, _, hj, l, xs, j, j, rfl, rfl, e _ _ hl, ixN_nat hz, k v d H1 e dv pd⟩
end
/-- nothing but flat tuples and values -/
abbrev MT : Addr → Prop := fun _ => True
theorem Dts.flat {K : PySem.W.Frag} {M : Addr → Prop} {H : Hp} {vs : List V} {ds : List PyData} (h : Dts K MT H vs ds) : Dts K M H vs ds := h.weak fun _ _ => trivial
theorem Dt.flat {K : PySem.W.Frag} {M : Addr → Prop} {H : Hp} {v : V} {d : PyData} (h : Dt K MT H v d) : Dt K M H v d := h.weak fun _ _ => trivial
theorem sgs_flat {K : PySem.W.Frag} {M : Addr → Prop} {H : Hp} : ∀ {S : List Sg} {vs : List V}, Dts K M H vs (S.map sgD) → Dts K MT H vs (S.map sgD)
  | [], _, .nil => .nil
  | q :: S, _, .cons h t => by
    refine .cons ?_ (sgs_flat t)
    cases h with
    | tup h1 h2 =>
      cases h2 with
      | cons r1 r2 =>
        cases r1
        cases r2 with
        | cons r3 r4 =>
          cases r3
          cases r4
          exact .tup h1 (.cons (.str _) (.cons (.int _) .nil))
end TH
set_option maxRecDepth 100000
set_option maxHeartbeats 4000000
namespace TH
open PySem L2 Evl
abbrev sSigns : Stmt := top 40
/-! ### good books -/
structure NameOk (z : Str) : Prop where
  lo : 1 ≤ z.length
  hi : z.length ≤ 3
  az : ∀ c ∈ z.cps.toList, 97 ≤ c ∧ c ≤ 122
structure Good0 (S : List Sg) : Prop where
  len : S.length ≤ 6
  name : ∀ q ∈ S, NameOk q.1
  kids : ∀ q ∈ S, 0 ≤ q.2 ∧ q.2 ≤ 2
  nd : (S.map (·.1)).Nodup
structure Good (S : List Sg) : Prop extends Good0 S where
  ne : 1 ≤ S.length
  leaf : ∃ q ∈ S, q.2 = 0
theorem Good0.add {S : List Sg} {z : Str} {k : Int} (h : Good0 S) (hl : S.length < 6) (hz : NameOk z) (hk : 0 ≤ k ∧ k ≤ 2) (hn : z ∉ S.map (·.1)) : Good0 (S ++ [(z, k)]) := by
  refine ⟨by rw [List.length_append]; exact hl, fun q hq => ?_, fun q hq => ?_, ?_⟩
  · rcases List.mem_append.mp hq with hq | hq
    · exact h.name q hq
    · rw [List.mem_singleton.mp hq]
      exact hz
  · rcases List.mem_append.mp hq with hq | hq
    · exact h.kids q hq
    · rw [List.mem_singleton.mp hq]
      exact hk
  · rw [List.map_append, List.nodup_append]
    refine ⟨h.nd, by simp, fun a ha b hb => ?_⟩
    have : b = z := by simpa using hb
    rw [this]
    intro e
    rw [e] at ha
    exact hn ha
theorem Good0.zero {S : List Sg} {j : Nat} {q : Sg} (h : Good0 S) (hj : S[j]? = some q) : Good (S.set j (q.1, 0)) := by
  obtain ⟨hlt, rfl⟩ := List.getElem?_eq_some_iff.mp hj
  have hm : ∀ r ∈ S.set j (S[j].1, 0), r ∈ S ∨ r = (S[j].1, 0) := fun r hr => List.mem_or_eq_of_mem_set hr
  have em : (S.set j (S[j].1, 0)).map (·.1) = S.map (·.1) := by
    rw [List.map_set]
    exact List.set_getElem_self (as := S.map (·.1)) (by rw [List.length_map]; exact hlt) |> fun h => by rw [List.getElem_map] at h; exact h
  refine ⟨⟨by rw [List.length_set]; exact h.len, fun r hr => ?_, fun r hr => ?_, by rw [em]; exact h.nd⟩, by rw [List.length_set]; omega, (S[j].1, 0), ?_, rfl⟩
  · rcases hm r hr with hr | rfl
    · exact h.name r hr
    · exact h.name S[j] (List.getElem_mem hlt)
  · rcases hm r hr with hr | rfl
    · exact h.kids r hr
    · exact ⟨Int.le_refl _, (by show (0 : Int) ≤ 2; decide)⟩
  · exact List.mem_of_getElem? (i := j) (by rw [List.getElem?_set_self hlt])
/-- _law_signs -/
def spSigns (K : PySem.W.Frag) : Sp := fun vs H Q _ => ∃ b : Addr, vs = [.ref b] ∧ H b = some (Box b) ∧
  ∀ l xs S H', Good S → Ex H H' → H l = none → H' l = some (.lst xs) → Dts K MT H' xs (S.map sgD) → Q (.ref l) H'
structure GlobL (mg : Str → Option Value) : Prop extends GlobS mg where
  min : mg "min" = none
/-- one of the letters -/
theorem letter_at {k : Int} (h0 : 0 ≤ k) (h1 : k < 26) : ∃ c, atI ("abcdefghijklmnopqrstuvwxyz" : Str).cps.toList k = some c ∧ 97 ≤ c ∧ c ≤ 122 := by
  obtain ⟨j, rfl⟩ := Int.eq_ofNat_of_zero_le h0
  have hall : ∀ j : _root_.Fin 26, ∃ c, ("abcdefghijklmnopqrstuvwxyz" : Str).cps.toList[j.val]? = some c ∧ 97 ≤ c ∧ c ≤ 122 := by
    intro j
    have e : ("abcdefghijklmnopqrstuvwxyz" : Str).cps.toList = List.range' 97 26 := by decide +kernel
    rw [e, List.getElem?_range' (by exact j.isLt)]
    exact ⟨_, rfl, by omega, by have := j.isLt; omega⟩
  obtain ⟨c, hc, h⟩ := hall ⟨j, by omega⟩
  exact ⟨c, atI_nat hc, h⟩
theorem letters_len : ("abcdefghijklmnopqrstuvwxyz" : Str).length ≤ sizeLine := by
  have e : ("abcdefghijklmnopqrstuvwxyz" : Str).length = 26 := by decide +kernel
  rw [e]
  decide
theorem ones_name {ys : List Str} (h : ∀ y ∈ ys, ∃ c : Nat, y = ⟨#[c]⟩ ∧ 97 ≤ c ∧ c ≤ 122) (h1 : 1 ≤ ys.length) (h3 : ys.length ≤ 3) : NameOk (Txt.join "" ys) := by
  have e := txt_join ys
  have hl : (Txt.join "" ys).length = ys.length := by
    show (Txt.join "" ys).cps.size = _
    rw [← Array.length_toList, e]
    clear e h1 h3
    induction ys with
    | nil => rfl
    | cons y ys ih =>
      obtain ⟨c, rfl, _⟩ := h y List.mem_cons_self
      rw [List.map_cons, List.flatten_cons, List.length_append, ih fun z hz => h z (List.mem_cons_of_mem _ hz)]
      show 1 + ys.length = ys.length + 1
      omega
  refine ⟨by rw [hl]; exact h1, by rw [hl]; exact h3, fun c hc => ?_⟩
  rw [e] at hc
  obtain ⟨l, hl, hc⟩ := List.mem_flatten.mp hc
  obtain ⟨y, hy, rfl⟩ := List.mem_map.mp hl
  obtain ⟨d, rfl, hd⟩ := h y hy
  have : c = d := by simpa using hc
  rw [this]
  exact hd
section
variable {P : Program} {w : World} {K : PySem.W.Frag} {mg : Str → Option Value} {base : Heap}
abbrev nSigns : List Str := ["_law_box_here", "_law_letters", "_law_found", "_law_turn", "_law_name", "_law_spot", "_law_letter", "_law_one", "_law_kids_here"]
theorem scSigns : FnScope nSigns ["_law_box_here"] (defScope sSigns) := ⟨rfl, rfl, rfl, by decide +kernel, rfl, by decide +kernel, by decide +kernel⟩
theorem ok_signs {f fT : Addr} {fd fdT : FuncData} (F : Fun K "_law_signs" "_law_signs" sSigns f fd) (G : GlobL mg)
    (GT : FnOk P w K mg base CX0 2 fT fdT ["_law_box_here", "_law_count"] spTake) (FT : PySem.W.keepIn K (.ref fT) = true) (mT : mg "_law_take" = some (.ref fT)) (bT : Binds K fdT ["_law_box_here", "_law_count"] []) :
    FnOk P w K mg base CX0 3 f fd ["_law_box_here"] (spSigns K) := by
  refine F.ok scSigns (fun vs H Q E h => ?_) (fun cdv A outer s H vs Q E hr h => ?_)
  · obtain ⟨b, rfl, _⟩ := h
    rfl
  · obtain ⟨b, rfl, hb, q⟩ := h
    refine ⟨_, pss_cons (ps_asg (pe_tup (pa_cons pe_str (pa_cons (pe_lst pa_nil) pa_nil))) (pg_tup rfl (pgs_cons (pg_name (i := 1) scSigns.nd rfl (.inr rfl)) (pgs_cons (pg_name (i := 2) scSigns.nd rfl (.inl rfl)) pgs_nil))))
      (pss_cons (ps_for PassesOwn.never rfl (pi_range1 rfl G.range (pa_cons (pe_op op_add pe_int (pe_call GT hr rfl mT FT bT .nil pass0 (pa_cons (pv 0) (pa_cons pe_int pa_nil)))) pa_nil)) (pg_name (i := 3) scSigns.nd rfl (.inl rfl))
        (pss_cons (ps_set (i := 4) scSigns.nd rfl (.inl rfl) (pe_join pe_str (pe_lc (own := [("_law_letter", 6)]) (g := gName 6) (tt := tYes) rfl scSigns.nd
            (pi_range1 rfl G.range (pa_cons (pe_op op_add pe_int (pe_call GT hr rfl mT FT bT .nil pass0 (pa_cons (pv 0) (pa_cons pe_int pa_nil)))) pa_nil))
            (blkOk_by (N := nSigns) (sc := defScope sSigns) (by decide +kernel)) (fun _ _ _ _ _ => pg_name (i := 6) scSigns.nd rfl (.inl rfl)) (fun _ _ _ _ _ => pts_nil)
            (fun _ _ _ _ _ => pe_ix ix_str (pv 1) (pe_call GT hr rfl mT FT bT .nil pass0 (pa_cons (pv 0) (pa_cons pe_int pa_nil))) (fun _ _ => rfl)))))
        (pss_one (ps_if (pt_cmpR op_notIn_seq (pv 4) (pe_lc (own := [("_law_one", 7), ("_law_kids_here", 8)]) (tt := tYes) rfl scSigns.nd (pi_list (pv 2))
            (blkOk_by (N := nSigns) (sc := defScope sSigns) (by decide +kernel)) (fun _ _ _ _ _ => pg_tupK (K := K) (n := 2) rfl rfl (pgs_cons (pg_name (i := 7) scSigns.nd rfl (.inl rfl)) (pgs_cons (pg_name (i := 8) scSigns.nd rfl (.inl rfl)) pgs_nil))) (fun _ _ _ _ _ => pts_nil)
            (fun _ _ _ _ _ => pv 7)) (by rfl))
          (pss_one (ps_expr (pe_bm PySem.F.plainAttrs_list PySem.F.slot_list_append PySem.F.type_list_append mt_append (pv 2) (pa_cons (pe_tup (pa_cons (pv 4) (pa_cons (pe_call GT hr rfl mT FT bT .nil pass0 (pa_cons (pv 0) (pa_cons pe_int pa_nil))) pa_nil))) pa_nil)))) pss_nil))))
      (pss_cons (ps_set (i := 5) scSigns.nd rfl (.inl rfl) (pe_call GT hr rfl mT FT bT .nil pass0 (pa_cons (pv 0) (pa_cons (pe_callB call_len_seq (by rfl) G.len PySem.boot_len (pa_cons (pv 2) pa_nil)) pa_nil))))
      (pss_cons (ps_if (pt_cmpR op_gt (pe_callB (cr_min rfl) (by rfl) G.min (by decide +kernel) (pa_cons (pe_lc (own := [("_law_name", 4), ("_law_kids_here", 8)]) (tt := tYes) rfl scSigns.nd (pi_list (pv 2))
            (blkOk_by (N := nSigns) (sc := defScope sSigns) (by decide +kernel)) (fun _ _ _ _ _ => pg_tupK (K := K) (n := 2) rfl rfl (pgs_cons (pg_name (i := 4) scSigns.nd rfl (.inl rfl)) (pgs_cons (pg_name (i := 8) scSigns.nd rfl (.inl rfl)) pgs_nil))) (fun _ _ _ _ _ => pts_nil)
            (fun _ _ _ _ _ => pv 8)) pa_nil)) pe_int (nomark _))
          (pss_one (ps_asg (pe_tup (pa_cons (pe_ix ix_tup (pe_ix ix_list (pv 2) (pv 5) (fun _ _ => rfl)) pe_int (fun _ _ => rfl)) (pa_cons pe_int pa_nil))) (pg_sub (pv 2) (pv 5) set_list))) pss_nil)
      (pss_one (ps_ret (pv 2)))))), ?_⟩
    refine ⟨by decide, fun l hl => ⟨by show 2 ≤ sizeLine; decide, fun t ht => ⟨t, _, rfl, SqT.of upd_same, rfl, _, _, rfl, _, _, rfl, rfl, ?_⟩⟩⟩
    have e0 : Ex H (upd H l (.lst [])) := Ex.new hl
    have e1 : Ex H (upd (upd H l (.lst [])) t (.tup [.str "abcdefghijklmnopqrstuvwxyz", .ref l])) := e0.trans (Ex.new ht)
    have hl1 : (upd (upd H l (.lst [])) t (.tup [.str "abcdefghijklmnopqrstuvwxyz", .ref l])) l = some (.lst []) := by
      rw [upd_ne (ne_of_none upd_same ht)]
      exact upd_same
    generalize hG1 : upd (upd H l (.lst [])) t (.tup [.str "abcdefghijklmnopqrstuvwxyz", .ref l]) = H1 at e1 hl1
    -- for turn in range(1 + take(box, 6))
    refine ⟨_, rfl, b, 6, rfl, e1 _ _ hb, by decide, by decide, fun d6 H2 d60 d61 e2 => ⟨_, _, rfl, rfl, _, rfl, by omega, by omega, ?_⟩⟩
    refine for_range (lo := 0) (n := (1 + d6).toNat) (fun i σ' H' => Ex H H' ∧ ∃ xs S u v, σ' = [some (.ref b), some (.str "abcdefghijklmnopqrstuvwxyz"), some (.ref l), u, v, none, none, none, none] ∧ H' l = some (.lst xs) ∧ Dts K MT H' xs (S.map sgD) ∧ Good0 S ∧ S.length ≤ i ∧ (0 < i → 1 ≤ S.length))
      ⟨e1.trans e2, [], [], none, none, rfl, e2 _ _ hl1, .nil, ⟨by decide, fun _ h => (nomatch h), fun _ h => (nomatch h), List.nodup_nil⟩, Nat.le_refl _, fun h => absurd h (Nat.lt_irrefl _)⟩ ?_ ?_
    · rintro i σ' H3 hi ⟨e3, xs, S, u, v, rfl, hl3, dS, gS, lS, nS⟩
      have hb3 := e3 _ _ hb
      have hi6 : i < 6 := by omega
      -- the name
      refine q_asgP (K := K) (M := MF) (P := fun d => ∃ z, d = .str z ∧ NameOk z) ?_ fun vz dz H4 e4 dvz hz => ?_
      · refine (evp_join (PY := fun ys => (∀ y ∈ ys, ∃ c : Nat, y = ⟨#[c]⟩ ∧ 97 ≤ c ∧ c ≤ 122) ∧ 1 ≤ ys.length ∧ ys.length ≤ 3) ?_ fun ys hy => ?_).mono fun d ⟨ys, hy, e⟩ => ⟨_, e, ones_name hy.1 hy.2.1 hy.2.2⟩
        · refine (evp_lcR (PN := fun n => 1 ≤ n ∧ n ≤ 3) (fun _ => true) (fun _ d => ∃ c : Nat, d = .str ⟨#[c]⟩ ∧ 97 ≤ c ∧ c ≤ 122) okF ?_ (fun n hn => by omega) fun M' n j H' hm ok' pn hj e Qg qg => ?_).mono ?_
          · refine (evpa_cons (evp_I0 (P := fun d => ∃ n : Int, d = .int n ∧ 1 ≤ n ∧ n ≤ 3) evd_int (evp_take (ev_var rfl) hb3 evd_int (by decide) (by decide)) ?_) eva_nil).mono ?_
            · rintro a _ rfl ⟨k, rfl, k0, k1⟩
              exact ⟨1, k, rfl, rfl, _, ⟨1 + k, rfl, by omega, by omega⟩, fun _ => .int _⟩
            · rintro d ⟨a, ds, rfl, ⟨n, rfl, h⟩, rfl⟩
              exact ⟨n, rfl, h⟩
          · refine qg _ H' (Ex.refl _) ⟨rfl, evt_yes, fun _ => evp_op (evd_var rfl (.str _)) (evp_take (ev_var rfl) (e _ _ hb3) evd_int (by decide) (by decide)) fun x y a d H5 e5 dx dy px py Q q => ?_⟩
            obtain ⟨k, rfl, k0, k1⟩ := py
            subst px
            cases dx
            cases dy
            obtain ⟨c, hc, h⟩ := letter_at k0 k1
            exact ⟨_, k, c, rfl, rfl, letters_len, hc, q _ _ H5 (Ex.refl _) (.str _) ⟨c, rfl, h⟩⟩
          · rintro d ⟨n, es, pn, rfl, pr⟩
            rw [filter_yes] at pr
            have hlen := paired_len pr
            rw [List.length_range] at hlen
            have hm := paired_mem pr
            refine ⟨es.map fun d => match d with | .str z => z | _ => Str.empty, ?_, ?_, ?_, ?_⟩
            · congr 1
              rw [List.map_map]
              refine (List.map_id es).symm.trans (List.map_congr_left fun d hd => ?_)
              obtain ⟨_, _, c, rfl, _⟩ := hm d hd
              rfl
            · intro y hy
              obtain ⟨d, hd, rfl⟩ := List.mem_map.mp hy
              obtain ⟨_, _, c, rfl, h⟩ := hm d hd
              exact ⟨c, rfl, h⟩
            · rw [List.length_map]
              omega
            · rw [List.length_map]
              omega
        · have h1 : ∀ l : List Str, (∀ y ∈ l, ∃ c : Nat, y = ⟨#[c]⟩ ∧ 97 ≤ c ∧ c ≤ 122) → (l.map (·.length)).sum = l.length := by
            intro l
            induction l with
            | nil => intro _; rfl
            | cons y l ih =>
              intro h
              obtain ⟨c, rfl, _⟩ := h y List.mem_cons_self
              rw [List.map_cons, List.sum_cons, ih fun z hz => h z (List.mem_cons_of_mem _ hz), List.length_cons]
              show 1 + l.length = _
              omega
          rw [h1 ys hy.1]
          omega
      · obtain ⟨z, rfl, hz⟩ := hz
        cases dvz
        have hl4 := e4 _ _ hl3
        have dS4 := dS.ex e4
        have hb4 := e4 _ _ hb3
        -- if name not in [one for one, kids in found]
        refine s_when (evt_test (K := K) (M := MF) (evd_notInS (ys := S.map (·.1)) (evd_var rfl (.str z)) ?_)) (fun hn H5 e5 => ?_) (fun hn H5 e5 => ?_)
        · refine (evd_lcL (fun _ => true) (fun d => .str (sgU d).1) okF (evd_var rfl (.lst hl4 (fun h => h) dS4.flat)) (by rw [List.length_map]; exact Nat.lt_of_le_of_lt gS.len (by decide)) fun M' d x H' hm ok' hd e dx Qg qg => ?_).mono fun d h => ?_
          · obtain ⟨p, hp, rfl⟩ := List.mem_map.mp hd
            cases dx with
            | tup k1 k2 =>
              cases k2 with
              | cons r1 r2 =>
                cases r1
                cases r2 with
                | cons r3 r4 =>
                  cases r4
                  exact ⟨_, _, rfl, SqT.of k1, rfl, _, _, rfl, _, _, rfl, rfl, qg _ H' (Ex.refl _) ⟨rfl, evt_yes, fun _ => evd_var rfl (.str _)⟩⟩
          · rw [h, filter_yes, List.map_map, List.map_map]
            rfl
        · have hn' : z ∉ S.map (·.1) := by simpa using hn
          refine s_appP (K := K) (M := MT) (P := fun d => ∃ k : Int, d = .tuple [.str z, .int k] ∧ 0 ≤ k ∧ k < 3) (e5 _ _ hl4) rfl ?_ (Nat.lt_of_le_of_lt (by rw [dS.length, List.length_map]; exact gS.len) (by decide)) fun v d H6 e6 dv hd => ?_
          · refine (evp_tup (evpa_cons (evd_var rfl (.str z)) (evpa_cons (evp_take (ev_var rfl) (e5 _ _ hb4) evd_int (by decide) (by decide)) eva_nil)) ?_).mono ?_
            · rintro ds ⟨a, ds, rfl, rfl, c, ds', rfl, _, rfl⟩
              show 2 ≤ sizeLine
              decide
            · rintro d ⟨ds, rfl, a, ds, rfl, rfl, c, ds', rfl, ⟨k, rfl, h⟩, rfl⟩
              exact ⟨k, rfl, h⟩
          · obtain ⟨k, rfl, k0, k1⟩ := hd
            have hl6 := (e5.trans e6) _ _ hl4
            refine ⟨Ex.mut ((e3.trans e4).trans (e5.trans e6)) hl, xs ++ [v], S ++ [(z, k)], _, _, rfl, upd_same, ?_, gS.add (by omega) hz ⟨k0, by omega⟩ hn', ?_, fun _ => ?_⟩
            · rw [List.map_append]
              exact ((dS4.ex (e5.trans e6)).append (.one dv)).upd hl6 trivial
            · rw [List.length_append]
              exact Nat.succ_le_succ lS
            · rw [List.length_append]
              exact Nat.le_add_left _ _
        · have hn' : z ∈ S.map (·.1) := by simpa using hn
          refine ⟨(e3.trans e4).trans e5, xs, S, _, _, rfl, e5 _ _ hl4, dS4.ex e5, gS, Nat.le_succ_of_le lS, fun _ => ?_⟩
          obtain ⟨p, hp, _⟩ := List.mem_map.mp hn'
          exact List.length_pos_of_mem hp
    · rintro σ' H3 ⟨e3, xs, S, u, v, rfl, hl3, dS, gS, lS, nS⟩
      have ne : 1 ≤ S.length := nS (by omega)
      have hb3 := e3 _ _ hb
      -- spot
      refine q_asgP (K := K) (M := MF) (evp_take (n := ((S.map sgD).length : Int)) (ev_var rfl) hb3 (evd_lenL (eva_cons (evd_var rfl (.lst hl3 (fun h => h) dS.flat)) eva_nil)) (by rw [List.length_map]; omega) (by rw [List.length_map]; exact Nat.lt_of_le_of_lt (show ((S.length : Nat) : Int).natAbs ≤ 6 by have := gS.len; omega) (by decide))) fun vz dz H4 e4 dvz hz => ?_
      obtain ⟨k, rfl, k0, k1⟩ := hz
      cases dvz
      rw [List.length_map] at k1
      obtain ⟨j, rfl⟩ := Int.eq_ofNat_of_zero_le k0
      have hj : j < S.length := by omega
      have hl4 := e4 _ _ hl3
      have dS4 := dS.ex e4
      have e04 := e3.trans e4
      -- min
      refine EvP.test (K := K) (M := MF) (PB := fun b => (b = true → ∀ p ∈ S, 0 < p.2) ∧ (b = false → ∃ p ∈ S, p.2 = 0)) ?_ fun c H5 e5 hc => ?_
      · refine (evp_cmp (g := fun i j => decide (j < i)) (evp_min (ns := S.map (·.2)) (eva_cons ?_ eva_nil) (by rw [List.length_map]; exact ne)) evd_int (fun a ⟨m, e, _⟩ => ⟨m, e⟩) (fun a e => ⟨0, e⟩)).mono ?_
        · refine (evd_lcL (fun _ => true) (fun d => .int (sgU d).2) okF (evd_var rfl (.lst hl4 (fun h => h) dS4.flat)) (by rw [List.length_map]; exact Nat.lt_of_le_of_lt gS.len (by decide)) fun M' d x H' hm ok' hd e dx Qg qg => ?_).mono fun d h => ?_
          · obtain ⟨p, hp, rfl⟩ := List.mem_map.mp hd
            cases dx with
            | tup k1 k2 =>
              cases k2 with
              | cons r1 r2 =>
                cases r1
                cases r2 with
                | cons r3 r4 =>
                  cases r4
                  cases r3
                  exact ⟨_, _, rfl, SqT.of k1, rfl, _, _, rfl, _, _, rfl, rfl, qg _ H' (Ex.refl _) ⟨rfl, evt_yes, fun _ => evd_var rfl (.int _)⟩⟩
          · rw [h, filter_yes, List.map_map, List.map_map]
            rfl
        · rintro d ⟨m, z, ⟨m', em, hm, hall⟩, ez, rfl⟩
          cases em
          cases ez
          refine ⟨_, rfl, fun h p hp => ?_, fun h => ?_⟩
          · have h1 : 0 < m := of_decide_eq_true h
            exact Int.lt_of_lt_of_le h1 (hall _ (List.mem_map_of_mem hp))
          · have h1 : ¬ 0 < m := of_decide_eq_false h
            obtain ⟨p, hp, rfl⟩ := List.mem_map.mp hm
            exact ⟨p, hp, by have := (gS.kids p hp).1; omega⟩
      · have hl5 := e5 _ _ hl4
        have dS5 := dS4.ex e5
        cases c with
        | true =>
          have hjl : j < xs.length := by rw [dS.length, List.length_map]; exact hj
          have hSj : S[j]? = some S[j] := List.getElem?_eq_getElem hj
          refine iteT (s_setP (K := K) (M := MT) (P := (· = sgD (S[j].1, 0))) (j := j) hl5 rfl rfl hjl ?_ fun v d H6 e6 dv hd => ?_)
          · obtain ⟨vj, hvj, dvj⟩ := dS5.at (i := j) (d := sgD S[j]) (by rw [List.getElem?_map, hSj]; rfl)
            exact evd_tup (ds := [.str S[j].1, .int 0]) (eva_cons (evd_ixT (j := 0) (ds := [.str S[j].1, .int S[j].2]) (evd_of (ev_op (ev_var rfl) (ev_var rfl) (rv_ixL (sq_of hl5) (atI_nat hvj))) dvj) evd_int rfl rfl) (eva_cons evd_int eva_nil)) (by show 2 ≤ sizeLine; decide)
          · subst hd
            refine ⟨_, rfl, q l _ (S.set j (S[j].1, 0)) _ (gS.zero hSj) (Ex.mut ((e04.trans e5).trans e6) hl) hl upd_same ?_⟩
            rw [List.map_set]
            exact ((dS5.ex e6).set j dv).upd (e6 _ _ hl5) trivial
        | false =>
          exact iteF ⟨_, rfl, q l xs S H5 ⟨gS, ne, hc.2 rfl⟩ (e04.trans e5) hl hl5 dS5⟩
end
end TH
set_option maxRecDepth 100000
set_option maxHeartbeats 4000000
namespace TH
open PySem L2 Evl
/-- a method that keeps its promise -/
def OneM (P : Program) (w : World) (K : PySem.W.Frag) (mg : Str → Option Value) (base : Heap) (C : Addr) (m : Str) (k : Nat) (ps : List Str) (sp : Sp) : Prop :=
  ∃ (f : Addr) (fd : FuncData), Meth K C m f ∧ FnOk P w K mg base CX0 k f fd ps sp ∧ Binds K fd ps []
/-- a def that keeps its promise -/
def OneF (P : Program) (w : World) (K : PySem.W.Frag) (mg : Str → Option Value) (base : Heap) (x : Str) (k : Nat) (ps : List Str) (sp : Sp) : Prop :=
  ∃ (f : Addr) (fd : FuncData), mg x = some (.ref f) ∧ PySem.W.keepIn K (.ref f) = true ∧ FnOk P w K mg base CX0 k f fd ps sp ∧ Binds K fd ps []
end TH
set_option maxRecDepth 100000
set_option maxHeartbeats 4000000
namespace TH
open PySem L2 Evl
/-! ### which lists are books -/
theorem ca : ("a" : Str).cps.toList = [97] := by decide +kernel
theorem cz : ("z" : Str).cps.toList = [122] := by decide +kernel
theorem okc_iff (c : Nat) : okc c = true ↔ 97 ≤ c ∧ c ≤ 122 := by
  unfold okc
  rw [ca, cz]
  simp only [Bool.and_eq_true, Bool.not_eq_true', decide_eq_false_iff_not, List.cons_lt_cons_iff, List.not_lt_nil, and_false, or_false]
  omega
theorem nameB_iff (z : Str) : isNameB z = true ↔ NameOk z := by
  unfold isNameB
  simp only [Bool.and_eq_true, decide_eq_true_eq, List.all_eq_true, okc_iff]
  constructor
  · rintro ⟨⟨h1, h2⟩, h3⟩
    exact ⟨by omega, by omega, h3⟩
  · rintro ⟨h1, h2, h3⟩
    exact ⟨⟨by omega, by omega⟩, h3⟩
theorem nodup_key (S : List Sg) : (S.map fun p => (Sum.inr p.1 : Key)).Nodup ↔ (S.map (·.1)).Nodup := by
  have e : (S.map fun p => (Sum.inr p.1 : Key)) = (S.map (·.1)).map Sum.inr := by rw [List.map_map]; rfl
  rw [e]
  constructor
  · intro h
    exact List.Pairwise.of_map Sum.inr (fun a b hab e => hab (by rw [e])) h
  · intro h
    exact List.Pairwise.map _ (fun a b hab e => hab (Sum.inr.inj e)) h
theorem valid_split (S : List Sg) : validB S = true ↔ (1 ≤ S.length ∧ S.length ≤ 6) ∧ (∀ p ∈ S, isSignB p = true) ∧ (S.map (·.1)).Nodup ∧ ∃ p ∈ S, p.2 = 0 := by
  unfold validB
  have h := sall_lt (S.map fun p => (Sum.inr p.1 : Key))
  rw [List.length_map] at h
  have h2 : ((sall (S.map fun p => (Sum.inr p.1 : Key))).2 : Int) < (S.length : Int) ↔ ¬ (S.map (·.1)).Nodup := by
    rw [← nodup_key, ← h]
    exact Int.ofNat_lt
  simp only [Bool.and_eq_true, decide_eq_true_eq, List.all_eq_true, Bool.not_eq_true', decide_eq_false_iff_not, List.any_eq_true]
  rw [h2, Classical.not_not]
  constructor
  · rintro ⟨⟨a, b⟩, c, d, e⟩
    exact ⟨⟨by omega, by omega⟩, c, d, e⟩
  · rintro ⟨⟨a, b⟩, c, d, e⟩
    exact ⟨⟨by omega, by omega⟩, c, d, e⟩
theorem sign_iff (p : Sg) : isSignB p = true ↔ NameOk p.1 ∧ 0 ≤ p.2 ∧ p.2 ≤ 2 := by
  unfold isSignB
  simp only [Bool.and_eq_true, decide_eq_true_eq, nameB_iff]
theorem valid_good {S : List Sg} (h : Good S) : validB S = true := by
  rw [valid_split]
  exact ⟨⟨h.ne, h.len⟩, fun p hp => (sign_iff p).mpr ⟨h.name p hp, h.kids p hp⟩, h.nd, h.leaf⟩
theorem bad_of {S : List Sg} (h : ¬ ((1 ≤ S.length ∧ S.length ≤ 6) ∧ (∀ p ∈ S, isSignB p = true) ∧ (S.map (·.1)).Nodup ∧ ∃ p ∈ S, p.2 = 0)) : validB S = false := by
  rw [← Bool.not_eq_true, valid_split]
  exact h
theorem bad_sign {S : List Sg} {p : Sg} (hp : p ∈ S) (h : ¬ (NameOk p.1 ∧ 0 ≤ p.2 ∧ p.2 ≤ 2)) : validB S = false :=
  bad_of fun z => h ((sign_iff p).mp (z.2.1 p hp))
/-- what may be told again and held against another -/
structure Sane (S : List Sg) : Prop where
  len : S.length ≤ 100
  name : ∀ q ∈ S, q.1.length ≤ 1000
  ok : ∀ q ∈ S, PyData.strOk q.1 = true
theorem strOk_iff (z : Str) : PyData.strOk z = true ↔ ∀ c ∈ z.cps.toList, c < 0x110000 := by
  unfold PyData.strOk
  rw [← Array.all_toList, List.all_eq_true]
  simp only [decide_eq_true_eq]
theorem NameOk.strOk {z : Str} (h : NameOk z) : PyData.strOk z = true := by
  rw [strOk_iff]
  intro c hc
  have := (h.az c hc).2
  omega
theorem Good0.sane {S : List Sg} (h : Good0 S) : Sane S :=
  ⟨Nat.le_trans h.len (by decide), fun q hq => Nat.le_trans (h.name q hq).hi (by decide), fun q hq => (h.name q hq).strOk⟩
theorem Sane.append {S T : List Sg} (h : Sane S) (k : Sane T) (hl : S.length + T.length ≤ 100) : Sane (S ++ T) :=
  ⟨by rw [List.length_append]; exact hl, fun q hq => (List.mem_append.mp hq).elim (h.name q) (k.name q), fun q hq => (List.mem_append.mp hq).elim (h.ok q) (k.ok q)⟩
theorem Sane.sub {S T : List Sg} (h : Sane S) (hs : ∀ q ∈ T, q ∈ S) (hl : T.length ≤ 100) : Sane T := ⟨hl, fun q hq => h.name q (hs q hq), fun q hq => h.ok q (hs q hq)⟩
theorem Sane.one {q : Sg} (h1 : q.1.length ≤ 1000) (h2 : PyData.strOk q.1 = true) : Sane [q] :=
  ⟨by show 1 ≤ 100; decide, fun r hr => by rw [List.mem_singleton.mp hr]; exact h1, fun r hr => by rw [List.mem_singleton.mp hr]; exact h2⟩
/-- one sign of the list otherwise -/
def bent (S : List Sg) (j : Nat) (q : Sg) : List Sg := S.take j ++ [q] ++ S.drop (j + 1)
theorem bent_mem (S : List Sg) (j : Nat) (q : Sg) : q ∈ bent S j q := by
  unfold bent
  exact List.mem_append_left _ (List.mem_append_right _ (List.mem_singleton.mpr rfl))
theorem Sane.bent {S : List Sg} {j : Nat} {q : Sg} (h : Sane S) (hl : S.length ≤ 50) (h1 : q.1.length ≤ 1000) (h2 : PyData.strOk q.1 = true) : Sane (bent S j q) := by
  have h3 := Sane.one h1 h2
  unfold TH.bent
  have l1 : (S.take j).length ≤ 50 := Nat.le_trans (by rw [List.length_take]; exact Nat.min_le_right _ _) hl
  have l2 : (S.drop (j + 1)).length ≤ 49 := by rw [List.length_drop]; omega
  refine ((h.sub (fun q hq => List.mem_of_mem_take hq) (by omega)).append h3 ?_).append (h.sub (fun q hq => List.mem_of_mem_drop hq) (by omega)) ?_
  · show (S.take j).length + 1 ≤ 100
    omega
  · rw [List.length_append]
    show (S.take j).length + 1 + (S.drop (j + 1)).length ≤ 100
    omega
/-- parts of lists -/
theorem cutG_take {α : Type} (xs : List α) (j : Nat) : cutG xs none (some (j : Int)) = xs.take j := by
  unfold cutG
  rw [HT.sIx_none, HT.sIx_nat, List.drop_zero, Nat.sub_zero, List.take_eq_take_min]
  rw [Nat.min_assoc, Nat.min_self, ← List.take_eq_take_min]
theorem cutG_drop {α : Type} (xs : List α) (j : Nat) : cutG xs (some (j : Int)) none = xs.drop j := by
  unfold cutG
  rw [HT.sIx_none, HT.sIx_nat]
  by_cases h : j ≤ xs.length
  · rw [Nat.min_eq_left h]
    exact List.take_of_length_le (by rw [List.length_drop]; omega)
  · rw [Nat.min_eq_right (by omega), List.drop_eq_nil_of_le (Nat.le_refl _), List.drop_eq_nil_of_le (by omega), List.take_nil]
theorem cutS_len (z : Str) (lo hi : Option Int) : (cutS z lo hi).length ≤ z.length := by
  show (cutS z lo hi).cps.size ≤ _
  unfold cutS
  rw [List.size_toArray, List.length_take, List.length_drop, Array.length_toList]
  show _ ≤ z.cps.size
  omega
theorem cutS_mem (z : Str) (lo hi : Option Int) : ∀ c ∈ (cutS z lo hi).cps.toList, c ∈ z.cps.toList := by
  intro c hc
  exact List.mem_of_mem_drop (List.mem_of_mem_take hc)
theorem app_len (x y : Str) : (x ++ y).length = x.length + y.length := by
  show (x ++ y).cps.size = _
  rw [Str.cps_append, Array.size_append]
  rfl
theorem app_mem (x y : Str) (c : Nat) : c ∈ (x ++ y).cps.toList ↔ c ∈ x.cps.toList ∨ c ∈ y.cps.toList := by
  rw [Str.cps_append, Array.toList_append, List.mem_append]
theorem strOk_app {x y : Str} (h : PyData.strOk x = true) (k : PyData.strOk y = true) : PyData.strOk (x ++ y) = true := by
  rw [strOk_iff] at *
  intro c hc
  rcases (app_mem x y c).mp hc with hc | hc
  · exact h c hc
  · exact k c hc
theorem strOk_cut {x : Str} (lo hi : Option Int) (h : PyData.strOk x = true) : PyData.strOk (cutS x lo hi) = true := by
  rw [strOk_iff] at *
  exact fun c hc => h c (cutS_mem x lo hi c hc)
end TH
set_option maxRecDepth 100000
set_option maxHeartbeats 4000000
namespace TH
open PySem L2 Evl
section
variable {X : Cx} {K : PySem.W.Frag}
/-- isinstance(e, c) in a suite, whatever is held there -/
def rIsE2 (K : PySem.W.Frag) (cls : Value) (d : Option Addr) (a : Addr) : List V → Hp → VK → Prop := fun xs H Q => ∃ D : Addr, cls = .ref D ∧ d = none ∧ ExcC K D ∧ rIsE K D a xs H Q
theorem call_isE2 {a : Addr} {cls : Value} {d : Option Addr} {oe : Obj} {pn : List (Addr × Obj)} (hK : X.K = K) (hz : Zc cls d oe) (hf : ∃ vs, oe.data = .fields vs) : CallR (X.suite a ((a, oe) :: pn)) (.builtin "isinstance") (rIsE2 K cls d a) := by
  intro pins s σ H xs us Q I r h
  obtain ⟨D, rfl, rfl, hC, h⟩ := h
  subst hK
  exact call_isE hC hz hf pins s σ H xs us Q I r h
theorem pe_bmK {o e : Expr} {es : List Expr} {to : TE} {t : TA} {name : Str} {apos cpos : Pos} {T id : String} {r : V → List V → Hp → VK → Prop} (hK : X.K = K) (pa : PySem.PlainAttrs T) (slot : PySem.Slot T name id) (hty : typeOf (.builtin id) = pure (.type "method_descriptor")) (hm : MtR X id r) (ho : PE X o to) (ha : PA X (e :: es) t)
    (hbase : attributeBase o name X.env (eval o X.env) = eval o X.env := by rfl)
    (hfew : ((backTo cpos (starEach (e :: es) X.env)).all (fun x => !x.1) && (backToKw cpos (keywordEach [] X.env)).all (fun x => x.1.isSome) && decide ((e :: es).length + ([] : List Keyword).length + (if ([] : List Keyword).isEmpty then 0 else 1) < 30)) = true := by rfl)
    (hline : (apos.endLine == cpos.line) = true := by rfl) (hs : starEach (e :: es) X.env = (false, eval e X.env) :: starEach es X.env := by rfl) (hpl : (backTo cpos (starEach es X.env)).any (·.1) = false := by rfl) :
    PE X (.Call (.Attribute o name apos) (e :: es) [] cpos) (tBM K T r to t) := by
  subst hK
  exact pe_bm pa slot hty hm ho ha hbase hfew hline hs hpl
theorem mt_indexK (hK : X.K = K) : MtR X "list.index" (rIndex K) := by
  subst hK
  exact mt_index
/-- xs.count(b), truth values -/
def eqb (k : Bool) (v : Value) : Bool := match v with
  | .bool b => b == k
  | _ => false
theorem bools_of_vals : ∀ {bs : List Bool} {us : List Value}, Vals (bs.map V.bl) us → us = bs.map Value.bool
  | [], _, r => by cases r; rfl
  | b :: bs, _, r => by
    cases r with
    | cons r1 r2 =>
      cases r1
      rw [bools_of_vals r2]
      rfl
theorem eqb_count (k : Bool) : ∀ bs : List Bool, (bs.map Value.bool).countP (eqb k) = bs.count k
  | [] => rfl
  | b :: bs => by
    rw [List.map_cons, List.countP_cons, List.count_cons, eqb_count k bs]
    rfl
def rCntB (K : PySem.W.Frag) : V → List V → Hp → VK → Prop := fun x xs H Q => ∃ (p : Addr) (bs : List Bool) (k : Bool), x = .ref p ∧ xs = [.bl k] ∧ SqL K H p (bs.map V.bl) ∧ Q (.int (bs.count k : Nat)) H
theorem mt_countB (hK : X.K = K) : MtR X "list.count" (rCntB K) := by
  subst hK
  intro pins s σ H x xs v us Q I rx rxs h
  obtain ⟨p, bs, k, rfl, rfl, hs, q⟩ := h
  cases rx
  cases rxs with
  | cons ru rn =>
  cases rn
  cases ru
  obtain ⟨its, rv, ⟨⟨cls, dd, data, sl⟩, n, ho, hc, hdn, hd⟩, hlen⟩ := I.list hs
  dsimp only at hc hd
  subst hc hd
  have hi := bools_of_vals rv
  refine PySem.call_meets PySem.F.slot_list_count ⟨_, ho, rfl⟩ PySem.F.entry_list_count (PySem.F.args_list_count_2 _ _) (SeqAt.list_countAt p its.toArray n dd sl (.bool k) (eqb k)) ⟨ho, fun y hy => ?_, ?_⟩
  · have hy : y ∈ its := by simpa using hy
    rw [hi] at hy
    obtain ⟨b, _, rfl⟩ := List.mem_map.mp hy
    exact SeqAt.EqAt.bool_bool b k
  · have ec : its.toArray.toList.countP (eqb k) = bs.count k := by
      show its.countP (eqb k) = _
      rw [hi, eqb_count]
    refine ⟨.int (bs.count k : Nat), H, I.tok _, ⟨s.toks, ?_⟩, q⟩
    rw [ec]
end
end TH
set_option maxRecDepth 100000
set_option maxHeartbeats 4000000
namespace TH
open PySem L2 Evl LamX
abbrev sKind : Stmt := top 39
structure KindG (mg : Str → Option Value) (CH : Addr) (Cs : Nat → Addr) : Prop where
  g : mg "HandError" = some (.ref CH)
  c0 : mg "NoBook" = some (.ref (Cs 0))
  c1 : mg "NoTree" = some (.ref (Cs 1))
  c2 : mg "NoPlace" = some (.ref (Cs 2))
  c3 : mg "NoReader" = some (.ref (Cs 3))
  c4 : mg "Unlike" = some (.ref (Cs 4))
  c5 : mg "TooGreat" = some (.ref (Cs 5))
  c6 : mg "NoGuesser" = some (.ref (Cs 6))
  c7 : mg "NoPattern" = some (.ref (Cs 7))
  c8 : mg "NoNumber" = some (.ref (Cs 8))
  c9 : mg "NoTurner" = some (.ref (Cs 9))
  c10 : mg "NoText" = some (.ref (Cs 10))
  c11 : mg "NoLine" = some (.ref (Cs 11))
  c12 : mg "NoName" = some (.ref (Cs 12))
  c13 : mg "Nothing" = some (.ref (Cs 13))
  ve : mg "ValueError" = none
  isi : mg "isinstance" = none
/-- the refusal of the class at D is the j-th kind, and no other one -/
structure KindT (K : PySem.W.Frag) (CH : Addr) (Cs : Nat → Addr) (D : Addr) (j : Nat) : Prop where
  ex : PySem.W.exmOne K (.ref D) (.ref CH) = some true
  cls : ExcC K D
  val : PySem.W.kitOne K (.ref D) (.type "ValueError") = some true
  lt : j < 14
  kit : ∀ i, i < 14 → PySem.W.kitOne K (.ref D) (.ref (Cs i)) = some (decide (i = j))
def words : List Str := ["book", "tree", "place", "reader", "unlike", "great", "guesser", "pattern", "number", "turner", "text", "line", "name", "nothing"]
def word (j : Nat) : Str := words.getD j Str.empty
/-- what _law_kind makes of a call -/
def TKind (K : PySem.W.Frag) (CH : Addr) (Cs : Nat → Addr) : (XK → Hp → VK → Prop) → Hp → VK → Prop := fun tl H Q =>
  tl (fun cls d H' => d = none ∧ ∃ D j, cls = .ref D ∧ KindT K CH Cs D j ∧ ∀ H'', Ex H' H'' → Q (.str (word j)) H'') H fun _ H' => Q (.str "told") H'
abbrev nKind : List Str := ["_law_call", "e", "_law_some", "_law_words"]
theorem scKind : FnScope nKind ["_law_call"] (defScope sKind) := ⟨rfl, rfl, rfl, by decide +kernel, rfl, by decide +kernel, by decide +kernel⟩
theorem count_one (j : Nat) (h : j < 14) : ((List.range 14).map fun i => decide (i = j)).count true = 1 := by
  have : ∀ j : _root_.Fin 14, ((List.range 14).map fun i => decide (i = j.val)).count true = 1 := by decide
  exact this ⟨j, h⟩
section
variable {K : PySem.W.Frag} {M : Addr → Prop} {H : Hp} {σ : L2.St}
theorem evd_isE {cls : Value} {d : Option Addr} {a D : Addr} {c : V} {cv : Value} {b : Bool} {i : Nat} (hs : σ[i]? = some (some (.ref a))) (h1 : cls = .ref D) (h2 : d = none) (hC : ExcC K D) (hc : ∀ u, RelV c u → u = cv) (hk : PySem.W.kitOne K (.ref D) cv = some b) :
    EvD K M (tCB (rIsE2 K cls d a) (tCons (tVar i) (tCons (tC c) tNil))) σ H (.bool b) := fun H1 e Q q =>
  ⟨_, hs, D, h1, h2, hC, c, cv, b, rfl, hc, hk, q _ _ H1 (Ex.refl _) (.bl _) rfl⟩
end
section
variable {X : Cx} {CH : Addr} {Cs : Nat → Addr}
theorem takes_len {X : Cx} {W : WX} (tk : Takes X W) : Takes X (fun cls d σ H => σ.length = X.N.length → W cls d σ H) := fun u s' ⟨a, B, sI, pins, σ, H, cls, d, e, I, nb, up, sky, na, os, ag, w⟩ =>
  tk u s' ⟨a, B, sI, pins, σ, H, cls, d, e, I, nb, up, sky, na, os, ag, w I.len⟩
/-- the suite's reading -/
theorem kind_gives {g : Addr} {cdg : Value} {q : Str} (G : KindG X.mg CH Cs) : GivesTo X nKind "_law_kind" (defScope sKind) g cdg (defBody sKind) "_law_call" q (TKind X.K CH Cs) := by
  intro f c' s H Q tl act hc h
  have hgl : Gl (cxOf C8.CX0 X.prog X.w X.K X.mg X.base nKind "_law_kind" (defScope sKind) g cdg X.A X.stack s H C8.E0).nox "HandError" := rfl
  refine ⟨_, pss_cons (ps_try_as (X := (cxOf C8.CX0 X.prog X.w X.K X.mg X.base nKind "_law_kind" (defScope sKind) g cdg X.A X.stack s H C8.E0).nox) (i := 1) (c := .ref CH)
      (tb := fun W D σ H => ∃ Ech : XK, (∀ cls d σ' H', Ech cls d H' → σ'.length = 4 → W cls d σ' H') ∧ σ[0]? = some (some (.ref f)) ∧ H c' = some (CodeO c' q) ∧ tl Ech H fun _ H' => D.nx σ H')
      (Wout := fun _ _ _ _ => False) rfl rfl scKind.nd rfl rfl ⟨hgl, by decide, .inl G.g⟩ L2.takes0 (fun W pn xe tk _ => ?_)
      (fun a oe cls d pn hz hf => pss_cons (ps_set (i := 2) scKind.nd rfl (.inl rfl) (pe_lst
            (pa_cons (pe_callB (call_isE2 (K := X.K) rfl hz hf) (by rfl) G.isi (by decide +kernel) (pa_cons (pv 1) (pa_cons (pe_glob rfl G.c0 (show RelV (.ref (Cs 0)) _ from rfl)) pa_nil)))
            (pa_cons (pe_callB (call_isE2 (K := X.K) rfl hz hf) (by rfl) G.isi (by decide +kernel) (pa_cons (pv 1) (pa_cons (pe_glob rfl G.c1 (show RelV (.ref (Cs 1)) _ from rfl)) pa_nil)))
            (pa_cons (pe_callB (call_isE2 (K := X.K) rfl hz hf) (by rfl) G.isi (by decide +kernel) (pa_cons (pv 1) (pa_cons (pe_glob rfl G.c2 (show RelV (.ref (Cs 2)) _ from rfl)) pa_nil)))
            (pa_cons (pe_callB (call_isE2 (K := X.K) rfl hz hf) (by rfl) G.isi (by decide +kernel) (pa_cons (pv 1) (pa_cons (pe_glob rfl G.c3 (show RelV (.ref (Cs 3)) _ from rfl)) pa_nil))) pa_nil))))))
        (pss_cons (ps_set (i := 2) scKind.nd rfl (.inl rfl) (pe_op op_cat (pv 2) (pe_lst
            (pa_cons (pe_callB (call_isE2 (K := X.K) rfl hz hf) (by rfl) G.isi (by decide +kernel) (pa_cons (pv 1) (pa_cons (pe_glob rfl G.c4 (show RelV (.ref (Cs 4)) _ from rfl)) pa_nil)))
            (pa_cons (pe_callB (call_isE2 (K := X.K) rfl hz hf) (by rfl) G.isi (by decide +kernel) (pa_cons (pv 1) (pa_cons (pe_glob rfl G.c5 (show RelV (.ref (Cs 5)) _ from rfl)) pa_nil)))
            (pa_cons (pe_callB (call_isE2 (K := X.K) rfl hz hf) (by rfl) G.isi (by decide +kernel) (pa_cons (pv 1) (pa_cons (pe_glob rfl G.c6 (show RelV (.ref (Cs 6)) _ from rfl)) pa_nil))) pa_nil))))))
        (pss_cons (ps_set (i := 2) scKind.nd rfl (.inl rfl) (pe_op op_cat (pv 2) (pe_lst
            (pa_cons (pe_callB (call_isE2 (K := X.K) rfl hz hf) (by rfl) G.isi (by decide +kernel) (pa_cons (pv 1) (pa_cons (pe_glob rfl G.c7 (show RelV (.ref (Cs 7)) _ from rfl)) pa_nil)))
            (pa_cons (pe_callB (call_isE2 (K := X.K) rfl hz hf) (by rfl) G.isi (by decide +kernel) (pa_cons (pv 1) (pa_cons (pe_glob rfl G.c8 (show RelV (.ref (Cs 8)) _ from rfl)) pa_nil)))
            (pa_cons (pe_callB (call_isE2 (K := X.K) rfl hz hf) (by rfl) G.isi (by decide +kernel) (pa_cons (pv 1) (pa_cons (pe_glob rfl G.c9 (show RelV (.ref (Cs 9)) _ from rfl)) pa_nil))) pa_nil))))))
        (pss_cons (ps_set (i := 2) scKind.nd rfl (.inl rfl) (pe_op op_cat (pv 2) (pe_lst
            (pa_cons (pe_callB (call_isE2 (K := X.K) rfl hz hf) (by rfl) G.isi (by decide +kernel) (pa_cons (pv 1) (pa_cons (pe_glob rfl G.c10 (show RelV (.ref (Cs 10)) _ from rfl)) pa_nil)))
            (pa_cons (pe_callB (call_isE2 (K := X.K) rfl hz hf) (by rfl) G.isi (by decide +kernel) (pa_cons (pv 1) (pa_cons (pe_glob rfl G.c11 (show RelV (.ref (Cs 11)) _ from rfl)) pa_nil)))
            (pa_cons (pe_callB (call_isE2 (K := X.K) rfl hz hf) (by rfl) G.isi (by decide +kernel) (pa_cons (pv 1) (pa_cons (pe_glob rfl G.c12 (show RelV (.ref (Cs 12)) _ from rfl)) pa_nil)))
            (pa_cons (pe_callB (call_isE2 (K := X.K) rfl hz hf) (by rfl) G.isi (by decide +kernel) (pa_cons (pv 1) (pa_cons (pe_glob rfl G.c13 (show RelV (.ref (Cs 13)) _ from rfl)) pa_nil))) pa_nil)))))))
        (pss_cons (ps_if (PW.pt (pw_or (pt_not (pt_val (pe_callB (call_isE2 (K := X.K) rfl hz hf) (by rfl) G.isi (by decide +kernel) (pa_cons (pv 1) (pa_cons (pe_bltn (v := .ty "ValueError") (by rfl) G.ve (by decide +kernel) rfl) pa_nil)))))
            (pw_or1 (pt_cmpR op_ne (pe_bmK (K := X.K) rfl PySem.F.plainAttrs_list PySem.F.slot_list_count PySem.F.type_list_count (mt_countB rfl) (pv 2) (pa_cons pe_bl pa_nil)) pe_int (nomark _))))) (pss_one (ps_ret pe_str)) pss_nil)
        (pss_cons (ps_set (i := 3) scKind.nd rfl (.inl rfl) (pe_lst (pa_cons pe_str (pa_cons pe_str (pa_cons pe_str (pa_cons pe_str (pa_cons pe_str (pa_cons pe_str (pa_cons pe_str (pa_cons pe_str (pa_cons pe_str (pa_cons pe_str pa_nil))))))))))))
        (pss_one (ps_ret (pe_ix (ix_listK (K := X.K) rfl) (pe_op op_cat (pv 3) (pe_lst (pa_cons pe_str (pa_cons pe_str (pa_cons pe_str (pa_cons pe_str pa_nil))))))
            (pe_bmK (K := X.K) rfl PySem.F.plainAttrs_list PySem.F.slot_list_index PySem.F.type_list_index (mt_indexK rfl) (pv 2) (pa_cons pe_bl pa_nil)) (fun _ _ => rfl)))))))))))
    (pss_one (ps_ret pe_str)), ?_⟩
  · refine ⟨fun pins s' σ H' D I h' => ?_⟩
    obtain ⟨Ech, hW, h1, h2, h3⟩ := h'
    exact (pss_one (ps_expr (act _ pn xe Ech _ _ (takes_len tk) hW))).run pins s' σ H' D I ⟨h1, h2, h3⟩
  · refine ⟨fun cls d H' => d = none ∧ ∃ D j, cls = .ref D ∧ KindT X.K CH Cs D j ∧ ∀ H'', Ex H' H'' → Q (.str (word j)) H'', fun cls d σ' H' he hl => ?_, rfl, hc, h⟩
    obtain ⟨hd, D, j, hcls, KT, k⟩ := he
    refine ⟨true, by rw [hcls]; exact KT.ex, fun _ a ha => ?_, fun z => nomatch z⟩
    match σ', hl with
    | [x0, x1, x2, x3], _ =>
    have kit : ∀ i, i < 14 → ∀ {M : Addr → Prop} {H : Hp} {σ : L2.St}, σ[1]? = some (some (.ref a)) → EvD X.K M (tCB (rIsE2 X.K cls d a) (tCons (tVar 1) (tCons (tC (.ref (Cs i))) tNil))) σ H (.bool (decide (i = j))) :=
      fun i hi M H σ hs => evd_isE hs hcls hd KT.cls (fun u r => r) (KT.kit i hi)
    refine q_asgP (K := X.K) (M := MF) (evd_lst okF (eva_cons (kit 0 (by decide) rfl) (eva_cons (kit 1 (by decide) rfl) (eva_cons (kit 2 (by decide) rfl) (eva_cons (kit 3 (by decide) rfl) eva_nil)))) (by show 4 ≤ sizeLine; decide)) fun v1 d1 H1 e1 dv1 hd1 => ?_
    subst hd1
    refine q_asgP (K := X.K) (M := MF) (evd_cat okF (evd_var rfl dv1) (evd_lst okF (eva_cons (kit 4 (by decide) rfl) (eva_cons (kit 5 (by decide) rfl) (eva_cons (kit 6 (by decide) rfl) eva_nil))) (by show 3 ≤ sizeLine; decide)) (by show 4 + 3 ≤ sizeLine; decide)) fun v2 d2 H2 e2 dv2 hd2 => ?_
    subst hd2
    refine q_asgP (K := X.K) (M := MF) (evd_cat okF (evd_var rfl dv2) (evd_lst okF (eva_cons (kit 7 (by decide) rfl) (eva_cons (kit 8 (by decide) rfl) (eva_cons (kit 9 (by decide) rfl) eva_nil))) (by show 3 ≤ sizeLine; decide)) (by show 7 + 3 ≤ sizeLine; decide)) fun v3 d3 H3 e3 dv3 hd3 => ?_
    subst hd3
    refine q_asgP (K := X.K) (M := MF) (evd_cat okF (evd_var rfl dv3) (evd_lst okF (eva_cons (kit 10 (by decide) rfl) (eva_cons (kit 11 (by decide) rfl) (eva_cons (kit 12 (by decide) rfl) (eva_cons (kit 13 (by decide) rfl) eva_nil)))) (by show 4 ≤ sizeLine; decide)) (by show 10 + 4 ≤ sizeLine; decide)) fun v4 d4 H4 e4 dv4 hd4 => ?_
    have hd4 : d4 = .list (((List.range 14).map fun i => decide (i = j)).map PyData.bool) := hd4
    subst hd4
    cases dv4 with
    | lst b1 b2 b3 =>
    have e5 := b3.bls
    subst e5
    rename_i p4
    have hlt := KT.lt
    -- the tests
    refine ⟨_, rfl, D, hcls, hd, KT.cls, .ty "ValueError", .type "ValueError", true, rfl, (fun u r => r), KT.val, _, rfl, iteF ?_⟩
    refine ⟨_, rfl, .inl ⟨rfl, _, sq_of b1⟩, p4, _, true, rfl, rfl, sq_of b1, rfl, _, rfl, iteNS (by rw [count_one j hlt]; rfl) ?_⟩
    -- the word
    unfold tNext
    dsimp only
    refine q_asgP (K := X.K) (M := MF) (P := (· = .list ((words.take 10).map PyData.str))) ?_ fun v6 d6 H6 e6 dv6 hd6 => ?_
    · exact (evd_lst okF (eva_cons evd_str (eva_cons evd_str (eva_cons evd_str (eva_cons evd_str (eva_cons evd_str (eva_cons evd_str (eva_cons evd_str (eva_cons evd_str (eva_cons evd_str (eva_cons evd_str eva_nil)))))))))) (by show 10 ≤ sizeLine; decide)).mono fun d h => h
    subst hd6
    refine s_retP (K := X.K) (M := MF) (P := (· = .str (word j))) ?_ fun v7 d7 H7 e7 dv7 hd7 => ?_
    · refine evp_op (PA := (· = .list (words.map PyData.str))) (PB := (· = .int (j : Int))) ?_ ?_ fun x y c d' H8 e8 dx dy px py Q8 q8 => ?_
      · exact (evd_cat okF (evd_var rfl dv6) (evd_lst okF (eva_cons evd_str (eva_cons evd_str (eva_cons evd_str (eva_cons evd_str eva_nil)))) (by show 4 ≤ sizeLine; decide)) (by show 10 + 4 ≤ sizeLine; decide)).mono fun d h => h
      · intro H8 e8 Q8 q8
        refine ⟨_, rfl, .inl ⟨rfl, _, sq_of ((e6.trans e8) _ _ b1)⟩, p4, _, .bl true, j, .bl true, rfl, rfl, sq_of ((e6.trans e8) _ _ b1), rfl, ?_, ?_, rfl, fun m z hm hz => ?_, q8 _ _ H8 (Ex.refl _) (.int _) rfl⟩
        · rw [List.all_map, List.all_eq_true]
          intro b _
          rfl
        · rw [List.getElem?_map, List.getElem?_map, List.getElem?_range hlt]
          simp
        · rw [List.getElem?_map, List.getElem?_map, List.getElem?_range (by omega)] at hz
          have hz : some (V.bl (decide (m = j))) = some z := hz
          injection hz with hz
          rw [← hz, decide_eq_false (by omega)]
          rfl
      · subst px py
        cases dy
        cases dx with
        | lst w1 w2 w3 =>
        have ew := w3.strs
        subst ew
        refine ⟨_, _, _, _, rfl, rfl, sq_of w1, atI_nat (j := j) (v := .str (word j)) ?_, q8 _ _ H8 (Ex.refl _) (.str _) rfl⟩
        have hw : words[j]? = some (word j) := by
          unfold word
          rw [List.getD_eq_getElem?_getD, List.getElem?_eq_getElem (show j < words.length from hlt)]
          rfl
        rw [List.getElem?_map, hw]
        rfl
    · subst hd7
      cases dv7
      exact k H7 ((((e1.trans e2).trans (e3.trans e4)).trans e6).trans e7)
end
end TH
set_option maxRecDepth 100000
set_option maxHeartbeats 4000000
namespace TH
open PySem L2 Evl LamX
/-! ### what stays where a lambda is made -/
section
variable {K : PySem.W.Frag} {M : Addr → Prop} {H H1 H' : Hp} {C CN p : Addr} {S T : List Sg} {σ : L2.St} {ta : TE} {E : XK} {Q : VK}
theorem extn_sqt {a : Addr} {xs : List V} (e : ExtN H H') (h : SqT K H a xs) : SqT K H' a xs := by
  rcases h with (h | ⟨u, h⟩) | h
  · exact .inl (.inl (e _ _ h fun ps z => by cases z))
  · exact .inl (.inr ⟨u, e _ _ h fun ps z => by cases z⟩)
  · exact .inr h
theorem extn_sql {a : Addr} {xs : List V} (e : ExtN H H') (h : SqL K H a xs) : SqL K H' a xs := by
  rcases h with (h | ⟨u, h⟩) | h
  · exact .inl (.inl (e _ _ h fun ps z => by cases z))
  · exact .inl (.inr ⟨u, e _ _ h fun ps z => by cases z⟩)
  · exact .inr h
theorem dt_extn {v : V} {d : PyData} (h : Dt K M H v d) (e : ExtN H H') : Dt K M H' v d :=
  Dt.move (fun a xs h n => ⟨e _ _ h (fun ps z => by cases z), n⟩) (fun a xs h => e _ _ h (fun ps z => by cases z)) d v h
theorem book_extn (h : BookAt C M H p S) (e : ExtN H H') : BookAt C M H' p S := by
  obtain ⟨dx, l1, l2, h1, h2, h3, h4, h5⟩ := h
  exact ⟨dx, l1, l2, e _ _ h1 (fun ps z => by cases z), e _ _ h2 (fun ps z => by cases z), h3, e _ _ h4 (fun ps z => by cases z), h5⟩
theorem box_extn {b : Addr} (h : H b = some (Box b)) (e : ExtN H H') : H' b = some (Box b) := e _ _ h fun ps z => by
  unfold Box at z
  cases z
theorem ok_extn (h : Ok M H) (hm : ∀ l, M l → ∃ xs, H l = some (.lst xs)) (e : ExtN H H') : Ok M H' := fun l m => by
  obtain ⟨xs, hx⟩ := hm l m
  rw [e _ _ hx (fun ps z => by cases z)]
  simp
/-- Book(..) of a list that is a book, of one that is none -/
theorem made_ex {x dx : Addr} (h1 : H x = none) (h2 : H dx = none) (hne : dx ≠ x) : Ex H (upd (upd H dx (.own x)) x (.ins C dx [])) :=
  (Ex.new h2).trans (Ex.new (by rw [upd_ne hne.symm]; exact h1))
theorem make_book (ok : Ok M H) (h : EvD K M ta σ H (.list (S.map sgD))) (g : validB S = true) (hl : S.length ≤ 100) (hz : ∀ q ∈ S, q.1.length ≤ 100000)
    (q : ∀ x H', Ex H H' → BookAt C M H' x S → Q (.ref x) H') : tMake C (spInit K C CN) [] E (tCons ta tNil) σ H Q := by
  refine h H (Ex.refl H) _ fun v d H1 e1 dv pd x dx hx hdx hne => ?_
  subst pd
  have e2 : Ex H1 (upd (upd H1 dx (.own x)) x (.ins C dx [])) := made_ex hx hdx hne
  refine ⟨M, x, dx, v, S, ok.ex (e1.trans e2), rfl, upd_same, dv.ex e2, hl, hz, fun _ H' hB hk => ⟨rfl, q x H' (e1.trans fun b o hb => ?_) hB⟩, fun g' => by rw [g] at g'; cases g'⟩
  exact hk b o (e2 b o hb) (ne_of_none hb hx)
theorem make_none (ok : Ok M H) (h : EvD K M ta σ H (.list (S.map sgD))) (g : validB S = false) (hl : S.length ≤ 100) (hz : ∀ q ∈ S, q.1.length ≤ 100000)
    (q : ∀ H', Ex H H' → E (.ref CN) none H') : tMake C (spInit K C CN) [] E (tCons ta tNil) σ H Q := by
  refine h H (Ex.refl H) _ fun v d H1 e1 dv pd x dx hx hdx hne => ?_
  subst pd
  have e2 : Ex H1 (upd (upd H1 dx (.own x)) x (.ins C dx [])) := made_ex hx hdx hne
  exact ⟨M, x, dx, v, S, ok.ex (e1.trans e2), rfl, upd_same, dv.ex e2, hl, hz, (fun g' => by rw [g] at g'; cases g'), fun _ H' e3 => q H' ((e1.trans e2).trans e3)⟩
/-! ### two lists that are the same -/
theorem lay_sgs : ∀ S : List Sg, (∀ q ∈ S, PyData.strOk q.1 = true) → PyData.canLayAll0 (S.map sgD) = true
  | [], _ => rfl
  | q :: S, h => by
    rw [List.map_cons, PyData.canLayAll0, lay_sgs S fun r hr => h r (List.mem_cons_of_mem _ hr)]
    have : (sgD q).canLay0 = true := by
      unfold sgD
      rw [PyData.canLay0, PyData.canLayAll0, PyData.canLay0, h q List.mem_cons_self, PyData.canLayAll0, PyData.canLay0, PyData.canLayAll0]
      rfl
    rw [this]
    rfl
theorem depth_sgs : ∀ S : List Sg, PyData.depthAll (S.map sgD) ≤ 1
  | [] => by show 0 ≤ 1; decide
  | q :: S => by
    rw [List.map_cons, PyData.depthAll]
    have h1 := depth_sgs S
    have h2 : (sgD q).depth = 1 := by
      unfold sgD
      rw [PyData.depth, PyData.depthAll, PyData.depth, PyData.depthAll, PyData.depth, PyData.depthAll]
      rfl
    rw [h2]
    exact Nat.max_le.mpr ⟨Nat.le_refl _, h1⟩
theorem shaped_sgs (h : ∀ q ∈ S, PyData.strOk q.1 = true) : SeqAt.shaped (.list (S.map sgD)) = true := by
  unfold SeqAt.shaped
  rw [PyData.canLay0, lay_sgs S h, PyData.depth, decide_eq_true (by have := depth_sgs S; omega)]
  rfl
theorem eqv_sgs (h : ∀ q ∈ S, PyData.strOk q.1 = true) : PyData.eqv (.list (S.map sgD)) (.list (S.map sgD)) = true :=
  SeqAt.eqv_refl _ (by rw [PyData.canLay0]; exact lay_sgs S h)
theorem like_same (S : List Sg) : (decide (S.map (·.1) = S.map (·.1)) && decide (S.map (·.2) = S.map (·.2))) = true := by simp
theorem like_other {S T : List Sg} (h : T ≠ S) : (decide (S.map (·.1) = T.map (·.1)) && decide (S.map (·.2) = T.map (·.2))) = false ∧ (decide (T.map (·.1) = S.map (·.1)) && decide (T.map (·.2) = S.map (·.2))) = false := by
  have key : ¬ (S.map (·.1) = T.map (·.1) ∧ S.map (·.2) = T.map (·.2)) := by
    rintro ⟨h1, h2⟩
    apply h
    have hl : S.length = T.length := by
      have := congrArg List.length h1
      rwa [List.length_map, List.length_map] at this
    refine List.ext_getElem hl.symm fun i hi hi' => ?_
    have a1 : (T.map (·.1))[i]? = (S.map (·.1))[i]? := by rw [h1]
    have a2 : (T.map (·.2))[i]? = (S.map (·.2))[i]? := by rw [h2]
    rw [List.getElem?_map, List.getElem?_map, List.getElem?_eq_getElem hi, List.getElem?_eq_getElem hi'] at a1 a2
    injection a1 with a1
    injection a2 with a2
    exact Prod.ext a1 a2
  constructor
  · rw [← Bool.not_eq_true, Bool.and_eq_true, decide_eq_true_eq, decide_eq_true_eq]
    exact key
  · rw [← Bool.not_eq_true, Bool.and_eq_true, decide_eq_true_eq, decide_eq_true_eq]
    exact fun z => key ⟨z.1.symm, z.2.symm⟩
theorem evd_listOf {ta : TA} {ds : List PyData} (ok : Ok M H) (h : EvDA K M ta σ H [.list ds]) : EvD K M (tCB (fun xs H Q => ∃ p ys, xs = [.ref p] ∧ (SqL K H p ys ∨ SqT K H p ys) ∧ ∀ l, H l = none → Q (.ref l) (upd H l (.lst ys))) ta) σ H (.list ds) :=
  evp_cb h fun vs es H1 e dv pd Q q => by
    subst pd
    cases dv with
    | cons h1 h2 =>
      cases h2
      cases h1 with
      | lst k1 k2 k3 => exact ⟨_, _, rfl, .inl (sq_of k1), fun l hl => q _ _ _ (Ex.new hl) (.lst upd_same ((ok.ex e).new hl) (k3.ex (Ex.new hl))) rfl⟩
theorem q_asgR {te : TE} {i : Nat} {tz : TS} {D : Ends} (h : te σ H fun v H1 => tz D (σ.set i (some v)) H1) : tSeq (tAsg te (gName i)) tz D σ H := h
/-- the book's lists are not the list of signs -/
theorem book_apart {h : Addr} {xs : List V} {y : Addr} (hB : BookAt C MF H p S) (hh : H h = some (.lst xs)) (hy : xs[0]? = some (.ref y)) : BookAt C (· = h) H p S := by
  obtain ⟨dx, l1, l2, h1, h2, _, h4, _⟩ := hB
  refine ⟨dx, l1, l2, h1, h2, fun z => ?_, h4, fun z => ?_⟩
  · rw [z, hh] at h2
    injection h2 with h2
    injection h2 with h2
    rw [h2, List.getElem?_map] at hy
    cases hS : S[0]? with
    | none =>
      rw [hS] at hy
      cases hy
    | some q =>
      rw [hS] at hy
      cases hy
  · rw [z, hh] at h4
    injection h4 with h4
    injection h4 with h4
    rw [h4, List.getElem?_map] at hy
    cases hS : S[0]? with
    | none =>
      rw [hS] at hy
      cases hy
    | some q =>
      rw [hS] at hy
      cases hy
end
end TH
namespace TH
/-! ### trees, their rows, their sizes -/
inductive Tr where
  | n0 (s : Nat)
  | n1 (s : Nat) (t : Tr)
  | n2 (s : Nat) (t u : Tr)
  deriving DecidableEq
namespace Tr
def root : Tr → Nat
  | n0 s => s
  | n1 s _ => s
  | n2 s _ _ => s
def kids : Tr → List Tr
  | n0 _ => []
  | n1 _ t => [t]
  | n2 _ t u => [t, u]
def row : Tr → List Nat
  | n0 s => [s]
  | n1 s t => s :: row t
  | n2 s t u => s :: (row t ++ row u)
def rowF (ts : List Tr) : List Nat := (ts.map row).flatten
def size (t : Tr) : Nat := t.row.length
def sizeF (ts : List Tr) : Nat := (rowF ts).length
def sizes : Tr → List Nat
  | n0 _ => [1]
  | n1 s t => (1 + size t) :: sizes t
  | n2 s t u => (1 + (size t + size u)) :: (sizes t ++ sizes u)
def sizesF (ts : List Tr) : List Nat := (ts.map sizes).flatten
theorem rowF_nil : rowF [] = [] := rfl
theorem rowF_cons (t : Tr) (ts : List Tr) : rowF (t :: ts) = t.row ++ rowF ts := by
  unfold rowF
  rw [List.map_cons, List.flatten_cons]
theorem rowF_app (ts us : List Tr) : rowF (ts ++ us) = rowF ts ++ rowF us := by
  unfold rowF
  rw [List.map_append, List.flatten_append]
theorem sizesF_cons (t : Tr) (ts : List Tr) : sizesF (t :: ts) = t.sizes ++ sizesF ts := by
  unfold sizesF
  rw [List.map_cons, List.flatten_cons]
theorem sizesF_app (ts us : List Tr) : sizesF (ts ++ us) = sizesF ts ++ sizesF us := by
  unfold sizesF
  rw [List.map_append, List.flatten_append]
theorem sizeF_cons (t : Tr) (ts : List Tr) : sizeF (t :: ts) = t.size + sizeF ts := by
  unfold sizeF size
  rw [rowF_cons, List.length_append]
theorem sizeF_app (ts us : List Tr) : sizeF (ts ++ us) = sizeF ts + sizeF us := by
  unfold sizeF
  rw [rowF_app, List.length_append]
theorem sizeF_nil : sizeF [] = 0 := rfl
theorem row_eq (t : Tr) : t.row = t.root :: rowF t.kids := by
  cases t with
  | n0 s => rfl
  | n1 s t => show s :: row t = s :: rowF [t]; rw [rowF_cons, rowF_nil, List.append_nil]
  | n2 s t u => show s :: (row t ++ row u) = s :: rowF [t, u]; rw [rowF_cons, rowF_cons, rowF_nil, List.append_nil]
theorem size_eq (t : Tr) : t.size = 1 + sizeF t.kids := by
  unfold size sizeF
  rw [row_eq, List.length_cons, Nat.add_comm]
theorem sizes_eq (t : Tr) : t.sizes = t.size :: sizesF t.kids := by
  cases t with
  | n0 s => rfl
  | n1 s t => 
    rw [size_eq]
    show (1 + size t) :: sizes t = (1 + sizeF [t]) :: sizesF [t]
    rw [sizeF_cons, sizesF_cons]
    show _ = (1 + (t.size + 0)) :: (t.sizes ++ [])
    rw [List.append_nil, Nat.add_zero]
  | n2 s t u => 
    rw [size_eq]
    show (1 + (size t + size u)) :: (sizes t ++ sizes u) = (1 + sizeF [t, u]) :: sizesF [t, u]
    rw [sizeF_cons, sizesF_cons, sizeF_cons, sizesF_cons]
    show _ = (1 + (t.size + (u.size + 0))) :: (t.sizes ++ (u.sizes ++ []))
    rw [List.append_nil, Nat.add_zero]
theorem kids_le (t : Tr) : t.kids.length ≤ 2 := by
  cases t with
  | n0 s => exact Nat.zero_le _
  | n1 s t => exact Nat.le_succ _
  | n2 s t u => exact Nat.le_refl _
theorem size_pos (t : Tr) : 0 < t.size := by
  rw [size_eq]
  omega
/-- an induction by kids -/
theorem ind {P : Tr → Prop} (h : ∀ t, (∀ k ∈ t.kids, P k) → P t) : ∀ t, P t
  | n0 s => h _ fun k hk => nomatch hk
  | n1 s t => by
    have h1 := ind h t
    refine h _ fun k hk => ?_
    rw [List.mem_singleton.mp hk]
    exact h1
  | n2 s t u => by
    have h1 := ind h t
    have h2 := ind h u
    refine h _ fun k hk => ?_
    rcases List.mem_cons.mp hk with hk | hk
    · rw [hk]
      exact h1
    · rw [List.mem_singleton.mp hk]
      exact h2
theorem sizes_len : ∀ t : Tr, t.sizes.length = t.size
  | n0 s => rfl
  | n1 s t => by
    rw [sizes_eq, List.length_cons, size_eq]
    show (sizesF [t]).length + 1 = 1 + sizeF [t]
    rw [sizesF_cons, sizeF_cons, List.length_append, sizes_len t]
    show t.size + 0 + 1 = 1 + (t.size + 0)
    omega
  | n2 s t u => by
    rw [sizes_eq, List.length_cons, size_eq]
    show (sizesF [t, u]).length + 1 = 1 + sizeF [t, u]
    rw [sizesF_cons, sizeF_cons, List.length_append, sizes_len t, sizesF_cons, sizeF_cons, List.length_append, sizes_len u]
    show t.size + (u.size + 0) + 1 = 1 + (t.size + (u.size + 0))
    omega
theorem sizesF_len (ts : List Tr) : (sizesF ts).length = sizeF ts := by
  induction ts with
  | nil => rfl
  | cons t ts ih => rw [sizesF_cons, sizeF_cons, List.length_append, ih, sizes_len]
/-- where the j-th of them begins -/
theorem sizesF_at {ts : List Tr} {j : Nat} {u : Tr} (h : ts[j]? = some u) (r : List Nat) : (sizesF ts ++ r)[sizeF (ts.take j)]? = some u.size := by
  induction ts generalizing j with
  | nil => cases h
  | cons t ts ih =>
    cases j with
    | zero =>
      have h : some t = some u := h
      cases h
      rw [sizesF_cons, sizes_eq]
      rfl
    | succ j =>
      have h : ts[j]? = some u := h
      rw [List.take_succ_cons, sizeF_cons, sizesF_cons, List.append_assoc, List.getElem?_append_right (by rw [sizes_len]; omega), sizes_len, Nat.add_sub_cancel_left]
      exact ih h
theorem take_snoc {α : Type} {ts : List α} {j : Nat} {u : α} (h : ts[j]? = some u) : ts.take (j + 1) = ts.take j ++ [u] := by
  rw [List.take_add_one, h]
  rfl
theorem sizeF_take {ts : List Tr} {j : Nat} {u : Tr} (h : ts[j]? = some u) : sizeF (ts.take (j + 1)) = sizeF (ts.take j) + u.size := by
  rw [take_snoc h, sizeF_app, sizeF_cons, sizeF_nil, Nat.add_zero]
theorem rowF_drop {ts : List Tr} {j : Nat} : (rowF ts).drop (sizeF (ts.take j)) = rowF (ts.drop j) := by
  have e : rowF ts = rowF (ts.take j) ++ rowF (ts.drop j) := by rw [← rowF_app, List.take_append_drop]
  rw [e]
  exact List.drop_left
/-! ### what is left of a wood from the n-th sign on -/
def next : List Tr → List Tr
  | [] => []
  | t :: ts => t.kids ++ ts
def suf : Nat → List Tr → List Tr
  | 0, ts => ts
  | n + 1, ts => suf n (next ts)
theorem rowF_next (ts : List Tr) : rowF (next ts) = (rowF ts).drop 1 := by
  cases ts with
  | nil => rfl
  | cons t ts =>
    show rowF (t.kids ++ ts) = _
    rw [rowF_app, rowF_cons, row_eq]
    rfl
theorem rowF_suf (n : Nat) : ∀ ts : List Tr, rowF (suf n ts) = (rowF ts).drop n := by
  induction n with
  | zero => intro ts; rfl
  | succ n ih =>
    intro ts
    show rowF (suf n (next ts)) = _
    rw [ih, rowF_next, List.drop_drop, Nat.add_comm]
theorem suf_succ (n : Nat) : ∀ ts : List Tr, suf (n + 1) ts = next (suf n ts) := by
  induction n with
  | zero => intro ts; rfl
  | succ n ih =>
    intro ts
    show suf (n + 1) (next ts) = next (suf n (next ts))
    exact ih _
theorem suf_add (m n : Nat) (ts : List Tr) : suf (m + n) ts = suf n (suf m ts) := by
  induction n with
  | zero => rfl
  | succ n ih => rw [← Nat.add_assoc, suf_succ, suf_succ, ih]
theorem rowF_empty {ts : List Tr} : rowF ts = [] ↔ ts = [] := by
  cases ts with
  | nil => exact ⟨fun _ => rfl, fun _ => rfl⟩
  | cons t ts =>
    rw [rowF_cons, row_eq]
    exact ⟨fun h => by simp at h, fun h => by simp at h⟩
theorem suf_nil {n : Nat} {ts : List Tr} : suf n ts = [] ↔ sizeF ts ≤ n := by
  rw [← rowF_empty, rowF_suf, List.drop_eq_nil_iff]
  rfl
theorem suf_cons {n : Nat} {ts : List Tr} (h : n < sizeF ts) : ∃ u us, suf n ts = u :: us ∧ (rowF ts)[n]? = some u.root := by
  cases e : suf n ts with
  | nil => exact absurd (suf_nil.mp e) (by omega)
  | cons u us =>
    refine ⟨u, us, rfl, ?_⟩
    have q := rowF_suf n ts
    rw [e, rowF_cons, row_eq] at q
    have q2 : ((rowF ts).drop n)[0]? = some u.root := by rw [← q]; rfl
    rwa [List.getElem?_drop, Nat.add_zero] at q2
theorem row_one (t : Tr) : rowF [t] = t.row := by rw [rowF_cons, rowF_nil, List.append_nil]
theorem size_one (t : Tr) : sizeF [t] = t.size := by rw [sizeF_cons, sizeF_nil, Nat.add_zero]
theorem sizes_one (t : Tr) : sizesF [t] = t.sizes := by rw [sizesF_cons]; exact List.append_nil _
/-- past the whole of a wood -/
theorem suf_app (ts us : List Tr) : suf (sizeF ts) (ts ++ us) = us := by
  have key : ∀ n : Nat, ∀ ts : List Tr, sizeF ts = n → suf n (ts ++ us) = us := by
    intro n
    induction n with
    | zero =>
      intro ts h
      have : ts = [] := by
        have := (suf_nil (n := 0) (ts := ts)).mpr (by omega)
        exact this
      rw [this]
      rfl
    | succ n ih =>
      intro ts h
      cases ts with
      | nil => rw [sizeF_nil] at h; omega
      | cons t ts =>
        show suf n (next (t :: (ts ++ us))) = us
        show suf n (t.kids ++ (ts ++ us)) = us
        rw [← List.append_assoc]
        refine ih _ ?_
        rw [sizeF_cons, size_eq] at h
        rw [sizeF_app]
        omega
  exact key _ ts rfl
theorem suf_in (n : Nat) : ∀ (ts us : List Tr), n ≤ sizeF ts → suf n (ts ++ us) = suf n ts ++ us := by
  induction n with
  | zero => intro ts us _; rfl
  | succ n ih =>
    intro ts us h
    cases ts with
    | nil => rw [sizeF_nil] at h; omega
    | cons t ts =>
      show suf n (t.kids ++ (ts ++ us)) = suf n (t.kids ++ ts) ++ us
      rw [← List.append_assoc]
      refine ih _ _ ?_
      rw [sizeF_cons, size_eq] at h
      rw [sizeF_app]
      omega
/-- the j-th kid of what stands at p -/
theorem suf_kid {n j : Nat} {ts us : List Tr} {u k : Tr} (h : suf n ts = u :: us) (hk : u.kids[j]? = some k) : suf (n + 1 + sizeF (u.kids.take j)) ts = k :: (u.kids.drop (j + 1) ++ us) := by
  rw [suf_add, suf_succ, h]
  show suf (sizeF (u.kids.take j)) (u.kids ++ us) = _
  obtain ⟨hlt, e⟩ := List.getElem?_eq_some_iff.mp hk
  have e2 : u.kids ++ us = u.kids.take j ++ (u.kids.drop j ++ us) := by rw [← List.append_assoc, List.take_append_drop]
  rw [e2, suf_app, List.drop_eq_getElem_cons hlt, e]
  rfl
/-- a part's row within the whole one -/
theorem suf_row {n : Nat} {ts us : List Tr} {u : Tr} (h : suf n ts = u :: us) : ((rowF ts).drop n).take u.size = u.row ∧ n + u.size ≤ sizeF ts ∧ (rowF ts).drop (n + u.size) = rowF us := by
  have e : (rowF ts).drop n = u.row ++ rowF us := by rw [← rowF_suf, h, rowF_cons]
  have hl : (rowF ts).length - n = u.size + (rowF us).length := by
    have := congrArg List.length e
    rwa [List.length_drop, List.length_append] at this
  have hp := size_pos u
  refine ⟨by rw [e]; exact List.take_left, by unfold sizeF; omega, ?_⟩
  rw [← List.drop_drop, e]
  exact List.drop_left
theorem sizesF_next (ts : List Tr) : sizesF (next ts) = (sizesF ts).drop 1 := by
  cases ts with
  | nil => rfl
  | cons t ts =>
    show sizesF (t.kids ++ ts) = _
    rw [sizesF_app, sizesF_cons, sizes_eq]
    rfl
theorem sizesF_suf (n : Nat) : ∀ ts : List Tr, sizesF (suf n ts) = (sizesF ts).drop n := by
  induction n with
  | zero => intro ts; rfl
  | succ n ih =>
    intro ts
    show sizesF (suf n (next ts)) = _
    rw [ih, sizesF_next, List.drop_drop, Nat.add_comm]
theorem sizes_at {n : Nat} {t u : Tr} {us : List Tr} (h : suf n [t] = u :: us) : t.sizes[n]? = some u.size := by
  have q := sizesF_suf n [t]
  rw [h, sizes_one, sizesF_cons, sizes_eq u] at q
  have q2 : ((t.sizes).drop n)[0]? = some u.size := by rw [← q]; rfl
  rwa [List.getElem?_drop, Nat.add_zero] at q2
theorem row_at {n : Nat} {t u : Tr} {us : List Tr} (h : suf n [t] = u :: us) : t.row[n]? = some u.root := by
  have q := rowF_suf n [t]
  rw [h, row_one, rowF_cons, row_eq u] at q
  have q2 : ((t.row).drop n)[0]? = some u.root := by rw [← q]; rfl
  rwa [List.getElem?_drop, Nat.add_zero] at q2
/-! ### rows that are rows of trees -/
/-- the trees of a book: each sign with as many kids as the book says -/
def Ok (n : Nat) (ar : Nat → Nat) : Tr → Prop
  | n0 s => s < n ∧ ar s = 0
  | n1 s t => s < n ∧ ar s = 1 ∧ Ok n ar t
  | n2 s t u => s < n ∧ ar s = 2 ∧ Ok n ar t ∧ Ok n ar u
variable {n : Nat} {ar : Nat → Nat}
theorem Ok.root {t : Tr} (h : Ok n ar t) : t.root < n := by
  cases t with
  | n0 s => exact h.1
  | n1 s t => exact h.1
  | n2 s t u => exact h.1
theorem Ok.kids {t : Tr} (h : Ok n ar t) : ∀ k ∈ t.kids, Ok n ar k := by
  cases t with
  | n0 s => intro k hk; cases hk
  | n1 s t =>
    intro k hk
    rw [List.mem_singleton.mp hk]
    exact h.2.2
  | n2 s t u =>
    intro k hk
    rcases List.mem_cons.mp hk with rfl | hk
    · exact h.2.2.1
    · rw [List.mem_singleton.mp hk]
      exact h.2.2.2
theorem Ok.ark {t : Tr} (h : Ok n ar t) : ar t.root = t.kids.length := by
  cases t with
  | n0 s => exact h.2
  | n1 s t => exact h.2.1
  | n2 s t u => exact h.2.1
theorem okF_next {ts : List Tr} (h : ∀ t ∈ ts, Ok n ar t) : ∀ t ∈ next ts, Ok n ar t := by
  cases ts with
  | nil => exact h
  | cons t ts =>
    intro u hu
    rcases List.mem_append.mp hu with hu | hu
    · exact (h t List.mem_cons_self).kids u hu
    · exact h u (List.mem_cons_of_mem _ hu)
theorem okF_suf (m : Nat) : ∀ {ts : List Tr}, (∀ t ∈ ts, Ok n ar t) → ∀ t ∈ suf m ts, Ok n ar t := by
  induction m with
  | zero => intro ts h; exact h
  | succ m ih => intro ts h; exact ih (okF_next h)
/-- the count of trees that are due -/
def run (n : Nat) (ar : Nat → Nat) : Nat → List Nat → Option Nat
  | d, [] => some d
  | d, s :: r => if d = 0 then none else if s < n then run n ar (d - 1 + ar s) r else none
theorem run_app (r1 r2 : List Nat) : ∀ {d e : Nat}, run n ar d r1 = some e → run n ar d (r1 ++ r2) = run n ar e r2 := by
  induction r1 with
  | nil =>
    intro d e h
    cases h
    rfl
  | cons s r ih =>
    intro d e h
    rw [run] at h
    rw [List.cons_append, run]
    split at h
    · cases h
    · split at h
      · rename_i h1 h2
        rw [if_neg h1, if_pos h2]
        exact ih h
      · cases h
theorem run_snoc {r : List Nat} {d e s : Nat} (h : run n ar d r = some e) (he : 0 < e) (hs : s < n) : run n ar d (r ++ [s]) = some (e - 1 + ar s) := by
  rw [run_app r [s] h, run, if_neg (by omega), if_pos hs, run]
/-- a row without any due is the row of a tree -/
theorem run_wood (ha : ∀ s, ar s ≤ 2) : ∀ (r : List Nat) (d : Nat), run n ar d r = some 0 → ∃ ts : List Tr, ts.length = d ∧ (∀ t ∈ ts, Ok n ar t) ∧ rowF ts = r
  | [], d, h => by
    cases h
    exact ⟨[], rfl, fun t ht => (nomatch ht), rfl⟩
  | s :: r, d, h => by
    rw [run] at h
    split at h
    · cases h
    · split at h
      · rename_i h1 h2
        obtain ⟨ts, hl, ho, hr⟩ := run_wood ha r _ h
        have h3 := ha s
        rcases (show ar s = 0 ∨ ar s = 1 ∨ ar s = 2 by omega) with e | e | e
        · refine ⟨n0 s :: ts, by rw [List.length_cons]; omega, fun t ht => ?_, ?_⟩
          · rcases List.mem_cons.mp ht with rfl | ht
            · exact ⟨h2, e⟩
            · exact ho t ht
          · rw [rowF_cons, hr]
            rfl
        · match ts, hl, ho, hr with
          | a :: us, hl, ho, hr =>
            refine ⟨n1 s a :: us, by rw [List.length_cons] at hl ⊢; omega, fun t ht => ?_, ?_⟩
            · rcases List.mem_cons.mp ht with rfl | ht
              · exact ⟨h2, e, ho a List.mem_cons_self⟩
              · exact ho t (List.mem_cons_of_mem _ ht)
            · rw [rowF_cons] at hr ⊢
              rw [← hr]
              rfl
          | [], hl, _, _ => rw [List.length_nil] at hl; omega
        · match ts, hl, ho, hr with
          | a :: b :: us, hl, ho, hr =>
            refine ⟨n2 s a b :: us, by rw [List.length_cons, List.length_cons] at hl; rw [List.length_cons]; omega, fun t ht => ?_, ?_⟩
            · rcases List.mem_cons.mp ht with rfl | ht
              · exact ⟨h2, e, ho a List.mem_cons_self, ho b (List.mem_cons_of_mem _ List.mem_cons_self)⟩
              · exact ho t (List.mem_cons_of_mem _ (List.mem_cons_of_mem _ ht))
            · rw [rowF_cons, rowF_cons] at hr
              rw [rowF_cons, ← hr, row, List.cons_append, List.append_assoc]
          | [], hl, _, _ => rw [List.length_nil] at hl; omega
          | [_], hl, _, _ => rw [List.length_cons, List.length_nil] at hl; omega
      · cases h
theorem run_rowF : ∀ (m : Nat) (ts : List Tr), sizeF ts ≤ m → (∀ t ∈ ts, Ok n ar t) → run n ar ts.length (rowF ts) = some 0
  | m, [], _, _ => rfl
  | 0, t :: ts, hm, _ => by
    rw [sizeF_cons] at hm
    have := size_pos t
    omega
  | m + 1, t :: ts, hm, ho => by
    have ht := ho t List.mem_cons_self
    rw [rowF_cons, row_eq, List.cons_append, run, if_neg (by rw [List.length_cons]; omega), if_pos ht.root, ht.ark, ← rowF_app, List.length_cons]
    have e : ts.length + 1 - 1 + t.kids.length = (t.kids ++ ts).length := by rw [List.length_append]; omega
    rw [e]
    refine run_rowF m _ ?_ fun u hu => ?_
    · rw [sizeF_cons, size_eq] at hm
      rw [sizeF_app]
      omega
    · rcases List.mem_append.mp hu with hu | hu
      · exact ht.kids u hu
      · exact ho u (List.mem_cons_of_mem _ hu)
theorem run_row {t : Tr} (h : Ok n ar t) : run n ar 1 t.row = some 0 := by
  have := run_rowF (n := n) (ar := ar) _ [t] (Nat.le_refl _) fun u hu => by rw [List.mem_singleton.mp hu]; exact h
  rwa [row_one] at this
theorem run_tree (ha : ∀ s, ar s ≤ 2) {r : List Nat} (h : run n ar 1 r = some 0) : ∃ t, Ok n ar t ∧ t.row = r := by
  obtain ⟨ts, hl, ho, hr⟩ := run_wood ha r 1 h
  match ts, hl with
  | [t], _ => exact ⟨t, ho t List.mem_cons_self, by rw [← hr, row_one]⟩
theorem row_lt {t : Tr} (h : Ok n ar t) : ∀ s ∈ t.row, s < n := by
  intro s hs
  obtain ⟨j, hj⟩ := List.mem_iff_getElem?.mp hs
  have hlt : j < sizeF [t] := by
    rw [size_one]
    exact (List.getElem?_eq_some_iff.mp hj).1
  obtain ⟨u, us, e, er⟩ := suf_cons hlt
  rw [row_one, hj] at er
  cases er
  exact (okF_suf j (ts := [t]) (fun v hv => by rw [List.mem_singleton.mp hv]; exact h) u (by rw [e]; exact List.mem_cons_self)).root
end Tr
end TH
set_option maxRecDepth 100000
set_option maxHeartbeats 4000000
namespace TH
open PySem L2 Evl
abbrev sIsRow : Stmt := top 19
abbrev sIsTree : Stmt := top 20
abbrev sCheck : Stmt := top 21
abbrev sSizes : Stmt := top 22
/-! ### books and rows -/
/-- how many kids the j-th sign has -/
def ks (S : List Sg) (j : Nat) : Nat := match S[j]? with
  | some q => q.2.toNat
  | none => 0
def KidsOk (S : List Sg) : Prop := ∀ q ∈ S, 0 ≤ q.2 ∧ q.2 ≤ 2
theorem ks_of {S : List Sg} {j : Nat} {q : Sg} (h : S[j]? = some q) : ks S j = q.2.toNat := by
  unfold ks
  rw [h]
theorem ks_le {S : List Sg} (h : KidsOk S) (j : Nat) : ks S j ≤ 2 := by
  unfold ks
  split
  · rename_i q e
    have := h q (List.mem_of_getElem? e)
    omega
  · exact Nat.zero_le _
theorem Good.kidsOk {S : List Sg} (h : Good S) : KidsOk S := h.kids
abbrev OkT (S : List Sg) (t : Tr) : Prop := Tr.Ok S.length (ks S) t
/-- a tuple, a list of ints -/
def tupI (ns : List Int) : PyData := .tuple (ns.map PyData.int)
def ofN (r : List Nat) : List Int := r.map fun (s : Nat) => (s : Int)
theorem ofN_len (r : List Nat) : (ofN r).length = r.length := List.length_map _
theorem ofN_at {r : List Nat} {j s : Nat} (h : r[j]? = some s) : (ofN r)[j]? = some (s : Int) := by
  unfold ofN
  rw [List.getElem?_map, h]
  rfl
def rowD (t : Tr) : PyData := tupI (ofN t.row)
section
variable {K : PySem.W.Frag} {M M' : Addr → Prop} {H H1 H' : Hp} {σ : L2.St} {ta tb te tc : TE} {v : V} {ns : List Int}
theorem dt_tupS (h : Dt K M H v (tupI ns)) : ∃ a, v = .ref a ∧ H a = some (.tup (ns.map V.int)) := by
  unfold tupI at h
  cases h with
  | tup h1 h2 =>
    rw [h2.ints] at h1
    exact ⟨_, rfl, h1⟩
theorem dt_tup (h : Dt K M H v (tupI ns)) : ∃ a, v = .ref a ∧ SqT K H a (ns.map V.int) := by
  obtain ⟨a, e, h1⟩ := dt_tupS h
  exact ⟨a, e, SqT.of h1⟩
theorem dt_of_tup {a : Addr} (h : H a = some (.tup (ns.map V.int))) : Dt K M H (.ref a) (tupI ns) := .tup h (Dts.of_ints ns)
theorem dt_any (h : Dt K M H v (tupI ns)) : Dt K M' H v (tupI ns) := by
  obtain ⟨a, rfl, h1⟩ := dt_tupS h
  exact dt_of_tup h1
/-! ### the book asked -/
theorem evd_many {C p : Addr} {S : List Sg} {i : Nat} {E : XK} (hs : σ[i]? = some (some (.ref p))) (hB : BookAt C M H p S) : EvD K M' (tMeth C "many" (spMany C) [] E (tVar i) tNil) σ H (.int S.length) := fun H1 e Q q => by
  have h := hB.ex e
  have h' := h
  obtain ⟨dx, l1, l2, h1, _⟩ := h'
  exact ⟨_, hs, p, dx, _, rfl, h1, flds_no _ _ (by decide +kernel) (by decide +kernel), M, p, S, rfl, h, q _ _ H1 (Ex.refl _) (.int _) rfl⟩
theorem evd_has {C p : Addr} {S : List Sg} {i : Nat} {z : Int} {E : XK} (hs : σ[i]? = some (some (.ref p))) (hB : BookAt C M H p S) (ha : EvD K M' ta σ H (.int z)) :
    EvD K M' (tMeth C "has" (spHas C) [] E (tVar i) (tCons ta tNil)) σ H (.bool (decide (0 ≤ z) && decide (z < (S.length : Int)))) := fun H1 e Q q => by
  have h := hB.ex e
  have h' := h
  obtain ⟨dx, l1, l2, h1, _⟩ := h'
  refine ⟨_, hs, p, dx, _, rfl, h1, flds_no _ _ (by decide +kernel) (by decide +kernel), ha H1 e _ fun v d H2 e2 dv pd => ?_⟩
  subst pd
  cases dv
  exact ⟨M, p, S, z, rfl, h.ex e2, fun H3 e3 => q _ _ H3 (e2.trans e3) (.bl _) rfl⟩
theorem evd_kids {C p : Addr} {S : List Sg} {i j : Nat} {z : Int} {r : Sg} {E : XK} (hs : σ[i]? = some (some (.ref p))) (hB : BookAt C M H p S) (ha : EvD K M' ta σ H (.int z)) (hz : z = (j : Int)) (hj : S[j]? = some r) :
    EvD K M' (tMeth C "kids" (spKd C) [] E (tVar i) (tCons ta tNil)) σ H (.int r.2) := fun H1 e Q q => by
  have h := hB.ex e
  have h' := h
  obtain ⟨dx, l1, l2, h1, _⟩ := h'
  refine ⟨_, hs, p, dx, _, rfl, h1, flds_no _ _ (by decide +kernel) (by decide +kernel), ha H1 e _ fun v d H2 e2 dv pd => ?_⟩
  subst pd
  cases dv
  subst hz
  exact ⟨M, p, S, j, r, rfl, h.ex e2, hj, q _ _ H2 e2 (.int _) rfl⟩
end
structure BookK (P : Program) (w : World) (K : PySem.W.Frag) (mg : Str → Option Value) (base : Heap) (C : Addr) : Prop where
  T : BookT K mg C
  many : OneM P w K mg base C "many" 1 ["self"] (spMany C)
  kids : OneM P w K mg base C "kids" 1 ["self", "sign"] (spKd C)
/-! ### is_row -/
def runB (S : List Sg) : Nat → List Int → Bool
  | d, [] => decide (d = 0)
  | d, z :: r => if d = 0 then false else if 0 ≤ z ∧ z < S.length then runB S (d - 1 + ks S z.toNat) r else false
theorem runB_run {S : List Sg} : ∀ (r : List Nat) (d : Nat), runB S d (ofN r) = decide (Tr.run S.length (ks S) d r = some 0)
  | [], d => by
    show decide (d = 0) = decide (some d = some 0)
    simp
  | s :: r, d => by
    show runB S d ((s : Int) :: ofN r) = _
    rw [runB, Tr.run]
    by_cases h : d = 0
    · rw [if_pos h, if_pos h]
      rfl
    · rw [if_neg h, if_neg h]
      by_cases h2 : s < S.length
      · rw [if_pos ⟨by omega, by omega⟩, if_pos h2]
        exact runB_run r _
      · rw [if_neg (by omega), if_neg h2]
        rfl
theorem runB_row {S : List Sg} {t : Tr} (h : OkT S t) : runB S 1 (ofN t.row) = true := by
  rw [runB_run, decide_eq_true_eq]
  exact Tr.run_row h
/-- a row of ints without any due is the row of a tree -/
theorem runB_tree {S : List Sg} (hk : KidsOk S) {ns : List Int} (h : runB S 1 ns = true) : ∃ t, OkT S t ∧ ns = ofN t.row := by
  have hn : ∀ (ns : List Int) (d : Nat), runB S d ns = true → ∃ r : List Nat, ns = ofN r := by
    intro ns
    induction ns with
    | nil => exact fun d _ => ⟨[], rfl⟩
    | cons z ns ih =>
      intro d h
      rw [runB] at h
      split at h
      · cases h
      · split at h
        · rename_i h2
          obtain ⟨r, rfl⟩ := ih _ h
          refine ⟨z.toNat :: r, ?_⟩
          show z :: ofN r = (z.toNat : Int) :: ofN r
          rw [Int.toNat_of_nonneg h2.1]
        · cases h
  obtain ⟨r, rfl⟩ := hn ns 1 h
  rw [runB_run, decide_eq_true_eq] at h
  obtain ⟨t, ht, rfl⟩ := Tr.run_tree (ks_le hk) h
  exact ⟨t, ht, rfl⟩
def spIsRow (K : PySem.W.Frag) (C : Addr) : Sp := fun vs H Q _ => ∃ (p : Addr) (v : V) (S : List Sg) (ns : List Int), vs = [.ref p, v] ∧ BookAt C MF H p S ∧ KidsOk S ∧ Dt K MF H v (tupI ns) ∧ ∀ H', Ex H H' → Q (.bl (runB S 1 ns)) H'
section
variable {P : Program} {w : World} {K : PySem.W.Frag} {mg : Str → Option Value} {base : Heap} {C : Addr}
abbrev nIsRow : List Str := ["book", "row", "due", "sign"]
theorem scIsRow : FnScope nIsRow ["book", "row"] (defScope sIsRow) := ⟨rfl, rfl, rfl, by decide +kernel, rfl, by decide +kernel, by decide +kernel⟩
theorem ok_isrow {f : Addr} {fd : FuncData} (F : Fun K "is_row" "is_row" sIsRow f fd) (B : BookK P w K mg base C) (BH : OneM P w K mg base C "has" 1 ["self", "sign"] (spHas C)) : FnOk P w K mg base CX0 2 f fd ["book", "row"] (spIsRow K C) := by
  obtain ⟨T, _, ⟨f2, d2, m2, g2, b2⟩⟩ := B
  obtain ⟨f1, d1, m1, g1, b1⟩ := BH
  refine F.ok scIsRow (fun vs H Q E h => ?_) (fun cdv A outer s H vs Q E hr h => ?_)
  · obtain ⟨p, v, S, ns, rfl, _⟩ := h
    rfl
  · obtain ⟨p, v, S, ns, rfl, hB, hK, hv, q⟩ := h
    refine ⟨_, pss_cons (ps_set (i := 2) scIsRow.nd rfl (.inl rfl) pe_int)
      (pss_cons (ps_for PassesOwn.never rfl (pi_tup (pv 1)) (pg_name (i := 3) scIsRow.nd rfl (.inl rfl))
        (pss_cons (ps_if (PW.pt (pw_or (pt_cmpR op_eq (pv 2) pe_int (nomark _)) (pw_or1 (pt_not (pt_val (pe_meth (pv 0) T.cl m1 g1 hr b1 .nil pass0 (pa_cons (pv 3) pa_nil))))))) (pss_one (ps_ret pe_bl)) pss_nil)
        (pss_one (ps_set (i := 2) scIsRow.nd rfl (.inl rfl) (pe_op op_sub (pe_op op_add (pv 2) (pe_meth (pv 0) T.cl m2 g2 hr b2 .nil pass0 (pa_cons (pv 3) pa_nil))) pe_int)))))
      (pss_one (ps_ret (pe_cmpR op_eq (pv 2) pe_int (nomark _))))), ?_⟩
    obtain ⟨a, rfl, hS⟩ := dt_tup hv
    refine ⟨_, rfl, a, rfl, ⟨_, hS⟩, for_tup (K := K) (a := a) (xs := ns.map V.int) (fun i σ' H' => Ex H H' ∧ ∃ (d : Nat) (u : Option V), σ' = [some (.ref p), some (.ref a), some (.int (d : Int)), u] ∧ runB S 1 ns = runB S d (ns.drop i))
      ⟨Ex.refl H, 1, none, rfl, rfl⟩ (fun i σ' H' _ z => ex_t z.1 hS) ?_ ?_⟩
    · rintro i x σ' H1 hx ⟨e, d, u, rfl, hd⟩
      rw [List.getElem?_map] at hx
      cases hz : ns[i]? with
      | none =>
        rw [hz] at hx
        cases hx
      | some z =>
      rw [hz] at hx
      cases hx
      obtain ⟨hlt, ez⟩ := List.getElem?_eq_some_iff.mp hz
      have ed : ns.drop i = z :: ns.drop (i + 1) := by rw [List.drop_eq_getElem_cons hlt, ez]
      rw [ed, runB] at hd
      have hB1 := hB.ex e
      refine q_when (et_or (evt_test (K := K) (M := MF) (evd_eqI (evd_var rfl (.int (d : Int))) evd_int)) fun _ => evt_not (evt_B (K := K) (M := MF) (evd_has rfl hB1 (evd_var rfl (.int z))))) (fun hb H2 e2 => ?_) (fun hb H2 e2 => ?_)
      · rw [Bool.or_eq_true, Bool.not_eq_true', Bool.and_eq_false_iff, decide_eq_true_eq, decide_eq_false_iff_not, decide_eq_false_iff_not] at hb
        have hf : runB S 1 ns = false := by
          rw [hd]
          by_cases h0 : d = 0
          · rw [if_pos h0]
          · rw [if_neg h0, if_neg]
            omega
        have := q H2 (e.trans e2)
        rw [hf] at this
        exact this
      · rw [Bool.or_eq_false_iff, Bool.not_eq_false', Bool.and_eq_true, decide_eq_false_iff_not, decide_eq_true_eq, decide_eq_true_eq] at hb
        obtain ⟨h0, h1, h2⟩ := hb
        rw [if_neg (by omega), if_pos ⟨h1, h2⟩] at hd
        obtain ⟨j, rfl⟩ := Int.eq_ofNat_of_zero_le h1
        have hj : S[j]? = some (S[j]'(by omega)) := List.getElem?_eq_getElem _
        have hk := hK _ (List.mem_of_getElem? hj)
        refine s_asgP (K := K) (M := MF) (evd_sub (evd_add (evd_var rfl (.int (d : Int))) (evd_kids rfl (hB1.ex e2) (evd_var rfl (.int (j : Int))) rfl hj)) evd_int) fun v d' H3 e3 dv pd => ?_
        subst pd
        cases dv
        refine ⟨(e.trans e2).trans e3, d - 1 + ks S j, some (.int (j : Int)), ?_, hd⟩
        rw [ks_of hj]
        have hc : (d : Int) + (S[j]'(by omega)).2 - 1 = ((d - 1 + (S[j]'(by omega)).2.toNat : Nat) : Int) := by omega
        exact congrArg (fun z => [some (V.ref p), some (V.ref a), some (V.int z), some (V.int (j : Int))]) hc
    · rintro σ' H1 ⟨e, d, u, rfl, hd⟩
      rw [List.length_map, List.drop_length, runB] at hd
      refine s_retP (K := K) (M := MF) (evd_eqI (evd_var rfl (.int (d : Int))) evd_int) fun v d' H3 e3 dv pd => ?_
      subst pd
      cases dv
      have := q H3 (e.trans e3)
      rw [hd] at this
      have e0 : decide (d = 0) = decide ((d : Int) = 0) := by
        by_cases h : d = 0
        · rw [decide_eq_true h, decide_eq_true (by omega)]
        · rw [decide_eq_false h, decide_eq_false (by omega)]
      rw [e0] at this
      exact this
end
end TH
set_option maxRecDepth 100000
set_option maxHeartbeats 4000000
namespace TH
open PySem L2 Evl
structure GlobR (mg : Str → Option Value) : Prop where
  mostT : ∃ t, mg "MOST_SIGNS_trees" = some (.int 40 t)
  reversed : mg "reversed" = none
section
variable {K : PySem.W.Frag} {M M' : Addr → Prop} {H H1 H' : Hp} {σ : L2.St} {ta tb te tc : TE} {v : V} {ns : List Int} {D : Ends} {tu tz : TS}
theorem ev_ofI {i : Int} (h : EvD K M te σ H (.int i)) : Ev te σ H (.int i) := fun H1 e Q q => h H1 e _ fun v d H2 e2 dv pd => by
  subst pd
  cases dv
  exact q H2 e2
theorem ev_ofB {i : Bool} (h : EvD K M te σ H (.bool i)) : Ev te σ H (.bl i) := fun H1 e Q q => h H1 e _ fun v d H2 e2 dv pd => by
  subst pd
  cases dv
  exact q H2 e2
theorem s_forRev {j n : Nat} (h : Ev te σ H (.int (n : Int))) (hn : n ≤ 100000) (Pv : Nat → L2.St → Hp → Prop) (h0 : ∀ H1, Ex H H1 → Pv 0 σ H1)
    (hs : ∀ (i : Nat) σ' H', i < n → Pv i σ' H' → tu { D with nx := Pv (i + 1), ct := Pv (i + 1), bk := D.nx } (σ'.set j (some (.int ((n - 1 - i : Nat) : Int)))) H') (hd : ∀ σ' H', Pv n σ' H' → D.nx σ' H') : tFor (iRevR (tRg1 te)) (gName j) tu D σ H :=
  h H (Ex.refl H) _ fun H1 e => ⟨_, rfl, by omega, by omega, by omega, by omega, by
    have e0 : ((n : Int) - 0).toNat = n := by omega
    rw [e0]
    exact for_rangeC (lo := 0 + (n : Int) - 1) (c := -1) (n := n) Pv (h0 H1 e) (fun i σ' H' hi p => by
      have e1 : (0 : Int) + (n : Int) - 1 + (i : Int) * (-1) = ((n - 1 - i : Nat) : Int) := by omega
      show tu { D with nx := Pv (i + 1), ct := Pv (i + 1), bk := D.nx } (σ'.set j (some (.int ((0 : Int) + (n : Int) - 1 + (i : Int) * (-1))))) H'
      rw [e1]
      exact hs i σ' H' hi p) hd⟩
theorem q_forRev {j n : Nat} (h : Ev te σ H (.int (n : Int))) (hn : n ≤ 100000) (Pv : Nat → L2.St → Hp → Prop) (h0 : ∀ H1, Ex H H1 → Pv 0 σ H1)
    (hs : ∀ (i : Nat) σ' H', i < n → Pv i σ' H' → tu { D with nx := Pv (i + 1), ct := Pv (i + 1), bk := tz D } (σ'.set j (some (.int ((n - 1 - i : Nat) : Int)))) H') (hd : ∀ σ' H', Pv n σ' H' → tz D σ' H') : tSeq (tFor (iRevR (tRg1 te)) (gName j) tu) tz D σ H :=
  s_forRev (D := { D with nx := tz D }) h hn Pv h0 hs hd
end
/-! ### is_tree, check_tree -/
def treeB (S : List Sg) (ns : List Int) : Bool := decide ((ns.length : Int) ≤ 40) && runB S 1 ns
theorem treeB_row {S : List Sg} {t : Tr} (h : OkT S t) (hl : t.size ≤ 40) : treeB S (ofN t.row) = true := by
  unfold treeB
  rw [runB_row h, ofN_len, decide_eq_true (by unfold Tr.size at hl; omega)]
  rfl
def spIsTree (K : PySem.W.Frag) (C : Addr) : Sp := fun vs H Q _ => ∃ (p : Addr) (v : V) (S : List Sg) (ns : List Int), vs = [.ref p, v] ∧ BookAt C MF H p S ∧ KidsOk S ∧ Dt K MF H v (tupI ns) ∧ ∀ H', Ex H H' → Q (.bl (treeB S ns)) H'
def spCheck (K : PySem.W.Frag) (C CT : Addr) : Sp := fun vs H Q E => ∃ (p : Addr) (v : V) (S : List Sg) (ns : List Int), vs = [.ref p, v] ∧ BookAt C MF H p S ∧ KidsOk S ∧ Dt K MF H v (tupI ns) ∧
  (treeB S ns = true → ∀ H', Ex H H' → Q .non H') ∧ (treeB S ns = false → ∀ H', Ex H H' → E (.ref CT) none H')
section
variable {P : Program} {w : World} {K : PySem.W.Frag} {mg : Str → Option Value} {base : Heap} {C : Addr}
theorem scIsTree : FnScope ["book", "tree"] ["book", "tree"] (defScope sIsTree) := ⟨rfl, rfl, rfl, by decide +kernel, rfl, by decide +kernel, by decide +kernel⟩
theorem ok_istree {f : Addr} {fd : FuncData} (F : Fun K "is_tree" "is_tree" sIsTree f fd) (G : Glob mg) (GR : GlobR mg) (B : OneF P w K mg base "is_row" 2 ["book", "row"] (spIsRow K C)) : FnOk P w K mg base CX0 3 f fd ["book", "tree"] (spIsTree K C) := by
  obtain ⟨f1, d1, m1, k1, g1, b1⟩ := B
  obtain ⟨t, hL⟩ := GR.mostT
  refine F.ok scIsTree (fun vs H Q E h => ?_) (fun cdv A outer s H vs Q E hr h => ?_)
  · obtain ⟨p, v, S, ns, rfl, _⟩ := h
    rfl
  · obtain ⟨p, v, S, ns, rfl, hB, hK, hv, q⟩ := h
    refine ⟨_, pss_one (ps_ret (pe_and (pe_cmpR op_le (pe_callB call_len_seq (by rfl) G.len PySem.boot_len (pa_cons (pv 1) pa_nil)) (pe_glob rfl hL (show RelV (.int 40) _ from ⟨_, rfl⟩)) (nomark _)) (pe_one (pe_call g1 hr rfl m1 k1 b1 .nil pass0 (pa_cons (pv 0) (pa_cons (pv 1) pa_nil)))))), ?_⟩
    obtain ⟨a, rfl, hS⟩ := dt_tup hv
    refine ⟨_, rfl, a, _, rfl, .inr hS, _, _, rfl, rfl, _, rfl, ?_⟩
    rw [List.length_map]
    by_cases h : (ns.length : Int) ≤ 40
    · rw [decide_eq_true h]
      refine iteT ⟨_, rfl, _, rfl, p, .ref a, S, ns, rfl, hB, hK, hv, fun H' e => ?_⟩
      have := q H' e
      unfold treeB at this
      rw [decide_eq_true h] at this
      exact this
    · rw [decide_eq_false h]
      refine iteF ?_
      have := q H (Ex.refl _)
      unfold treeB at this
      rw [decide_eq_false h] at this
      exact this
theorem scCheck : FnScope ["book", "tree"] ["book", "tree"] (defScope sCheck) := ⟨rfl, rfl, rfl, by decide +kernel, rfl, by decide +kernel, by decide +kernel⟩
theorem ok_check {f CT : Addr} {fd : FuncData} (F : Fun K "check_tree" "check_tree" sCheck f fd) (TN : ExcT K mg "NoTree" CT) (B : OneF P w K mg base "is_tree" 3 ["book", "tree"] (spIsTree K C)) : FnOk P w K mg base (L2.CX P w) 4 f fd ["book", "tree"] (spCheck K C CT) := by
  obtain ⟨f1, d1, m1, k1, g1, b1⟩ := B
  refine F.okX scCheck (fun vs H Q E h => ?_) (fun cdv A outer s H vs Q E hr h => ?_)
  · obtain ⟨p, v, S, ns, rfl, _⟩ := h
    rfl
  · obtain ⟨p, v, S, ns, rfl, hB, hK, hv, qy, qn⟩ := h
    refine ⟨_, pss_one (ps_if (pt_not (pt_val (pe_call g1 hr rfl m1 k1 b1 .nil pass0 (pa_cons (pv 0) (pa_cons (pv 1) pa_nil))))) (pss_one (ps_raise rfl (takes_of rfl rfl rfl rfl) (pmk_own PySem.F.excBase_ValueError TN.x TN.g TN.k (raises_own TN.b TN.t) rfl))) pss_nil), ?_⟩
    refine ⟨_, rfl, _, rfl, p, v, S, ns, rfl, hB, hK, hv, fun H' e => ⟨_, rfl, ?_⟩⟩
    cases h : treeB S ns with
    | true => exact iteF (qy h H' e)
    | false => exact iteT (qn h H' e)
end
/-! ### sizes_of -/
def nums (r : List Nat) : List V := r.map fun (s : Nat) => V.int (s : Int)
theorem nums_len (r : List Nat) : (nums r).length = r.length := List.length_map _
theorem nums_app (r q : List Nat) : nums (r ++ q) = nums r ++ nums q := List.map_append
theorem nums_at {r : List Nat} {j s : Nat} (h : r[j]? = some s) : (nums r)[j]? = some (.int (s : Int)) := by
  unfold nums
  rw [List.getElem?_map, h]
  rfl
theorem nums_dts {K : PySem.W.Frag} {M : Addr → Prop} {H : Hp} (r : List Nat) : Dts K M H (nums r) ((ofN r).map PyData.int) := by
  have e : nums r = (ofN r).map V.int := by
    unfold nums ofN
    rw [List.map_map]
    rfl
  rw [e]
  exact Dts.of_ints _
def intsD (r : List Nat) : PyData := .list ((ofN r).map PyData.int)
def spSizes (K : PySem.W.Frag) (C : Addr) : Sp := fun vs H Q _ => ∃ (p : Addr) (v : V) (S : List Sg) (t : Tr), vs = [.ref p, v] ∧ BookAt C MF H p S ∧ KidsOk S ∧ Dt K MF H v (rowD t) ∧ OkT S t ∧ t.size ≤ 100000 ∧
  ∀ l H', H l = none → Ex H H' → H' l = some (.lst (nums t.sizes)) → Q (.ref l) H'
section
variable {P : Program} {w : World} {K : PySem.W.Frag} {mg : Str → Option Value} {base : Heap} {C : Addr}
abbrev nSizes : List Str := ["book", "row", "sizes", "start", "_"]
theorem scSizes : FnScope nSizes ["book", "row"] (defScope sSizes) := ⟨rfl, rfl, rfl, by decide +kernel, rfl, by decide +kernel, by decide +kernel⟩
theorem ok_sizes {f : Addr} {fd : FuncData} (F : Fun K "sizes_of" "sizes_of" sSizes f fd) (G : Glob mg) (GR : GlobR mg) (B : BookK P w K mg base C) : FnOk P w K mg base CX0 2 f fd ["book", "row"] (spSizes K C) := by
  obtain ⟨T, _, ⟨f2, d2, m2, g2, b2⟩⟩ := B
  refine F.ok scSizes (fun vs H Q E h => ?_) (fun cdv A outer s H vs Q E hr h => ?_)
  · obtain ⟨p, v, S, t, rfl, _⟩ := h
    rfl
  · obtain ⟨p, v, S, t, rfl, hB, hK, hv, hO, hN, q⟩ := h
    refine ⟨_, pss_cons (ps_set (i := 2) scSizes.nd rfl (.inl rfl) (pe_op op_rep (pe_lst (pa_cons pe_int pa_nil)) (pe_callB call_len_seq (by rfl) G.len PySem.boot_len (pa_cons (pv 1) pa_nil))))
      (pss_cons (ps_for PassesOwn.never rfl (pi_revR rfl GR.reversed (prg_1 rfl G.range (pe_callB call_len_seq (by rfl) G.len PySem.boot_len (pa_cons (pv 1) pa_nil)))) (pg_name (i := 3) scSizes.nd rfl (.inl rfl))
        (pss_one (ps_for PassesOwn.never rfl (pi_range1 rfl G.range (pa_cons (pe_meth (pv 0) T.cl m2 g2 hr b2 .nil pass0 (pa_cons (pe_ix ix_tup (pv 1) (pv 3) (fun _ _ => rfl)) pa_nil)) pa_nil)) (pg_name (i := 4) scSizes.nd rfl (.inl rfl))
          (pss_one (ps_asg (pe_op op_add (pe_ix ix_list (pv 2) (pv 3) (fun _ _ => rfl)) (pe_ix ix_list (pv 2) (pe_op op_add (pv 3) (pe_ix ix_list (pv 2) (pv 3) (fun _ _ => rfl))) (fun _ _ => rfl))) (pg_sub (pv 2) (pv 3) set_list))))))
      (pss_one (ps_ret (pv 2)))), ?_⟩
    obtain ⟨a, rfl, hS⟩ := dt_tup hv
    have hlen : ((ofN t.row).map V.int).length = t.size := by rw [List.length_map, ofN_len]; rfl
    have hz : t.size ≤ sizeLine := sz_of hN
    refine ⟨(by show 1 ≤ sizeLine; decide), fun l0 hl0 => ⟨_, rfl, a, _, rfl, .inr (ex_t (Ex.new hl0) hS), l0, _, _, rfl, rfl, upd_same, by omega, by rw [hlen]; omega, ?_, fun l hl => ?_⟩⟩
    · rw [hlen]
      show 1 * _ ≤ _
      rw [Nat.one_mul]
      exact hz
    have eR : (List.replicate ((((ofN t.row).map V.int).length : Nat) : Int).toNat [V.int 1]).flatten = List.replicate t.size (V.int 1) := by
      rw [hlen, Int.toNat_natCast]
      clear hlen hN hz
      generalize t.size = n
      induction n with
      | zero => rfl
      | succ n ih =>
        rw [List.replicate_succ, List.flatten_cons, ih]
        rfl
    rw [eR]
    have e1 : Ex H (upd (upd H l0 (.lst [.int 1])) l (.lst (List.replicate t.size (V.int 1)))) := (Ex.new hl0).trans (Ex.new hl)
    have hlH : H l = none := fresh_back (Ex.new hl0) hl
    have hl1 : (upd (upd H l0 (.lst [.int 1])) l (.lst (List.replicate t.size (V.int 1)))) l = some (.lst (List.replicate t.size (V.int 1))) := upd_same
    generalize upd (upd H l0 (.lst [.int 1])) l (.lst (List.replicate t.size (V.int 1))) = H1 at e1 hl1
    have evlen : ∀ {H'}, Ex H H' → Ev (tCB (fun xs H Q => ∃ p ys, xs = [.ref p] ∧ (SqL K H p ys ∨ SqT K H p ys) ∧ Q (.int ys.length) H) (tCons (tVar 1) tNil)) [some (.ref p), some (.ref a), some (.ref l), none, none] H' (.int (t.size : Int)) := fun {H'} e => by
      have h := ev_ofI (K := K) (M := MF) (evd_lenT (K := K) (M := MF) (σ := [some (.ref p), some (.ref a), some (.ref l), none, none]) (ta := tCons (tVar 1) tNil) (eva_cons (evd_var (d := rowD t) rfl (hv.ex e)) eva_nil))
      rw [List.length_map, ofN_len] at h
      exact h
    refine q_forRev (evlen e1) hN (fun i σ' H' => Ex H H' ∧ ∃ u3 u4, σ' = [some (.ref p), some (.ref a), some (.ref l), u3, u4] ∧ H' l = some (.lst (List.replicate (t.size - i) (V.int 1) ++ nums (Tr.sizesF (Tr.suf (t.size - i) [t])))))
      (fun H2 e2 => ⟨e1.trans e2, none, none, rfl, ?_⟩) ?_ ?_
    · rw [e2 _ _ hl1, Nat.sub_zero, Tr.suf_nil.mpr (by rw [Tr.size_one]; exact Nat.le_refl _)]
      show some (HO.lst _) = some (HO.lst (_ ++ []))
      rw [List.append_nil]
    · rintro i σ' H2 hi ⟨e2, u3, u4, rfl, hl2⟩
      have hpN : t.size - 1 - i < Tr.sizeF [t] := by rw [Tr.size_one]; omega
      obtain ⟨u, us, hu, hroot⟩ := Tr.suf_cons hpN
      generalize hp : t.size - 1 - i = p' at hpN hu hroot
      have e0 : t.size - i = p' + 1 := by omega
      rw [Tr.row_one] at hroot
      have hOu : OkT S u := Tr.okF_suf p' (ts := [t]) (fun x hx => by rw [List.mem_singleton.mp hx]; exact hO) u (by rw [hu]; exact List.mem_cons_self)
      have hsuc : Tr.suf (p' + 1) [t] = u.kids ++ us := by rw [Tr.suf_succ, hu]; rfl
      rw [e0, hsuc, List.replicate_succ'] at hl2
      have hrt : u.root < S.length := hOu.root
      have hSr : S[u.root]? = some (S[u.root]'hrt) := List.getElem?_eq_getElem hrt
      have hkn : (S[u.root]'hrt).2 = (u.kids.length : Int) := by
        have h1 := hOu.ark
        rw [ks_of hSr] at h1
        have := hK _ (List.mem_of_getElem? hSr)
        omega
      have hk2 := Tr.kids_le u
      refine s_forR1 (ea_cons (ev_ofI (K := K) (M := MF) (evd_kids (j := u.root) rfl (hB.ex e2) (evd_ixT (j := p') (ds := (ofN t.row).map PyData.int) (evd_var (d := rowD t) rfl (hv.ex e2)) (evd_var rfl (.int _)) rfl (by rw [List.getElem?_map, ofN_at hroot]; rfl)) rfl hSr)) ea_nil) (by omega)
        (fun j σ' H' => Ex H H' ∧ ∃ u4, σ' = [some (.ref p), some (.ref a), some (.ref l), some (.int (p' : Int)), u4] ∧ H' l = some (.lst (List.replicate p' (V.int 1) ++ V.int ((1 + Tr.sizeF (u.kids.take j) : Nat) : Int) :: nums (Tr.sizesF (u.kids ++ us)))))
        (fun H3 e3 => ⟨e2.trans e3, _, rfl, ?_⟩) ?_ ?_
      · rw [e3 _ _ hl2, List.append_assoc]
        rfl
      · rintro j σ'' H3 hj ⟨e3, u5, rfl, hl3⟩
        rw [hkn] at hj
        obtain ⟨k, hk⟩ : ∃ k, u.kids[j]? = some k := ⟨_, List.getElem?_eq_getElem (by omega)⟩
        have hs := Tr.sizesF_at hk (Tr.sizesF us)
        rw [← Tr.sizesF_app] at hs
        have hd3 : Dts K MF H3 (List.replicate p' (V.int 1) ++ V.int ((1 + Tr.sizeF (u.kids.take j) : Nat) : Int) :: nums (Tr.sizesF (u.kids ++ us))) (List.replicate p' (PyData.int 1) ++ PyData.int ((1 + Tr.sizeF (u.kids.take j) : Nat) : Int) :: (ofN (Tr.sizesF (u.kids ++ us))).map PyData.int) := by
          refine Dts.append ?_ (.cons (.int _) (nums_dts _))
          generalize p' = n
          induction n with
          | zero => exact .nil
          | succ n ih => exact .cons (.int _) ih
        have hdl : Dt K MF H3 (.ref l) (.list (List.replicate p' (PyData.int 1) ++ PyData.int ((1 + Tr.sizeF (u.kids.take j) : Nat) : Int) :: (ofN (Tr.sizesF (u.kids ++ us))).map PyData.int)) := .lst hl3 (fun h => h) hd3
        have at1 : (List.replicate p' (PyData.int 1) ++ PyData.int ((1 + Tr.sizeF (u.kids.take j) : Nat) : Int) :: (ofN (Tr.sizesF (u.kids ++ us))).map PyData.int)[p']? = some (PyData.int ((1 + Tr.sizeF (u.kids.take j) : Nat) : Int)) := by
          rw [List.getElem?_append_right (by rw [List.length_replicate]; exact Nat.le_refl _), List.length_replicate, Nat.sub_self]
          rfl
        have at2 : (List.replicate p' (PyData.int 1) ++ PyData.int ((1 + Tr.sizeF (u.kids.take j) : Nat) : Int) :: (ofN (Tr.sizesF (u.kids ++ us))).map PyData.int)[p' + (1 + Tr.sizeF (u.kids.take j))]? = some (PyData.int (k.size : Int)) := by
          rw [List.getElem?_append_right (by rw [List.length_replicate]; omega), List.length_replicate, Nat.add_sub_cancel_left, Nat.add_comm 1, List.getElem?_cons_succ, List.getElem?_map, ofN_at hs]
          rfl
        refine s_setP (K := K) (M := MF) (j := p') (P := (· = .int _)) hl3 rfl rfl (by rw [List.length_append, List.length_replicate, List.length_cons]; omega)
          (evd_add (evd_ixL (j := p') (evd_var rfl hdl) (evd_var rfl (.int _)) rfl at1) (evd_ixL (j := p' + (1 + Tr.sizeF (u.kids.take j))) (evd_var rfl hdl) (evd_add (evd_var rfl (.int _)) (evd_ixL (j := p') (evd_var rfl hdl) (evd_var rfl (.int _)) rfl at1)) (by omega) at2)) fun v d H4 e4 dv pd => ?_
        subst pd
        cases dv
        refine ⟨Ex.mut (e3.trans e4) hlH, _, rfl, ?_⟩
        rw [upd_same, Tr.sizeF_take hk]
        congr 2
        rw [List.set_append_right _ _ (by rw [List.length_replicate]; exact Nat.le_refl _), List.length_replicate, Nat.sub_self, List.set_cons_zero]
        congr 3
        omega
      · rintro σ'' H3 ⟨e3, u5, rfl, hl3⟩
        refine ⟨e3, _, _, rfl, ?_⟩
        rw [hl3, hkn, Int.toNat_natCast, List.take_length, ← Tr.size_eq]
        have e5 : t.size - (i + 1) = p' := by omega
        rw [e5, hu, Tr.sizesF_cons, Tr.sizes_eq, List.cons_append, ← Tr.sizesF_app]
        rfl
    · rintro σ' H2 ⟨e2, u3, u4, rfl, hl2⟩
      rw [Nat.sub_self] at hl2
      refine ⟨_, rfl, q l H2 hlH e2 ?_⟩
      rw [hl2]
      show some (HO.lst ([] ++ nums (Tr.sizesF [t]))) = _
      rw [Tr.sizes_one]
      rfl
end
end TH
set_option maxRecDepth 100000
set_option maxHeartbeats 4000000
namespace TH
open PySem L2 Evl
abbrev sLRow : Stmt := top 41
/-! ### data by its size and its depth -/
theorem lay_all : ∀ {ds : List PyData}, (∀ d ∈ ds, d.canLay0 = true) → PyData.canLayAll0 ds = true
  | [], _ => rfl
  | d :: ds, h => by
    rw [PyData.canLayAll0, h d List.mem_cons_self, lay_all fun e he => h e (List.mem_cons_of_mem _ he)]
    rfl
theorem depth_all {n : Nat} : ∀ {ds : List PyData}, (∀ d ∈ ds, d.depth ≤ n) → PyData.depthAll ds ≤ n
  | [], _ => Nat.zero_le _
  | d :: ds, h => by
    rw [PyData.depthAll]
    exact Nat.max_le.mpr ⟨h d List.mem_cons_self, depth_all fun e he => h e (List.mem_cons_of_mem _ he)⟩
/-- data that may be laid, of a small depth -/
structure Flat (n : Nat) (d : PyData) : Prop where
  lay : d.canLay0 = true
  depth : d.depth ≤ n
theorem flat_int (i : Int) : Flat 0 (.int i) := ⟨rfl, Nat.le_refl _⟩
theorem flat_list {n : Nat} {ds : List PyData} (h : ∀ d ∈ ds, Flat n d) : Flat (n + 1) (.list ds) :=
  ⟨by rw [PyData.canLay0]; exact lay_all fun d hd => (h d hd).lay, by rw [PyData.depth]; have := depth_all fun d hd => (h d hd).depth; omega⟩
theorem flat_tup {n : Nat} {ds : List PyData} (h : ∀ d ∈ ds, Flat n d) : Flat (n + 1) (.tuple ds) :=
  ⟨by rw [PyData.canLay0]; exact lay_all fun d hd => (h d hd).lay, by rw [PyData.depth]; have := depth_all fun d hd => (h d hd).depth; omega⟩
theorem flat_tupI (ns : List Int) : Flat 1 (tupI ns) := flat_tup fun d hd => by
  obtain ⟨i, _, rfl⟩ := List.mem_map.mp hd
  exact flat_int i
theorem Flat.shaped {n : Nat} {d : PyData} (h : Flat n d) (hn : n ≤ 20) : SeqAt.shaped d = true := by
  unfold SeqAt.shaped
  rw [h.lay, decide_eq_true (by have := h.depth; omega)]
  rfl
theorem Flat.self {n : Nat} {d : PyData} (h : Flat n d) : PyData.eqv d d = true := SeqAt.eqv_refl _ h.lay
section
variable {K : PySem.W.Frag} {M M' : Addr → Prop} {H H1 H' : Hp} {σ : L2.St} {ta tb te tc : TE} {v : V} {d1 d2 : PyData}
theorem evd_eqD {n m : Nat} (ha : EvD K M ta σ H d1) (hb : EvD K M tb σ H d2) (f1 : Flat n d1) (f2 : Flat m d2) (hn : n ≤ 20 := by decide) (hm : m ≤ 20 := by decide) : EvD K M (tOp (rEqD K) ta tb) σ H (.bool (PyData.eqv d1 d2)) :=
  evp_op ha hb fun x y a b H1 e dx dy px py Q q => by
    subst px py
    exact ⟨_, _, dx.dp, dy.dp, f1.shaped hn, f2.shaped hm, q _ _ H1 (Ex.refl _) (.bl _) rfl⟩
theorem evd_neD {n m : Nat} (ha : EvD K M ta σ H d1) (hb : EvD K M tb σ H d2) (f1 : Flat n d1) (f2 : Flat m d2) (hn : n ≤ 20 := by decide) (hm : m ≤ 20 := by decide) : EvD K M (tOp (rNeD K) ta tb) σ H (.bool (!PyData.eqv d1 d2)) :=
  evp_op ha hb fun x y a b H1 e dx dy px py Q q => by
    subst px py
    exact ⟨_, _, dx.dp, dy.dp, f1.shaped hn, f2.shaped hm, q _ _ H1 (Ex.refl _) (.bl _) rfl⟩
/-- tuples put together, a part of a tuple -/
theorem evd_catA {ds es : List PyData} (ha : EvD K M ta σ H (.tuple ds)) (hb : EvD K M tb σ H (.tuple es)) (hs : ds.length + es.length ≤ 100000) : EvD K M (tOp (rCatA K) ta tb) σ H (.tuple (ds ++ es)) :=
  evp_op ha hb fun x y a b H1 e dx dy px py Q q => by
    subst px py
    cases dx with
    | tup h1 h3 =>
      cases dy with
      | tup k1 k3 =>
        refine ⟨_, _, _, _, rfl, rfl, SqT.of h1, SqT.of k1, by rw [h3.length, k3.length]; exact sz_of hs, fun e0 => ?_, fun _ e0 => ?_, fun _ _ p hp => q _ _ _ (Ex.new hp) (.tup upd_same ((h3.append k3).ex (Ex.new hp))) rfl⟩
        · subst e0
          cases h3
          exact q _ _ H1 (Ex.refl _) (.tup k1 k3) rfl
        · subst e0
          cases k3
          exact q _ _ H1 (Ex.refl _) (.tup h1 h3) (by rw [List.append_nil])
theorem evd_slT {ds : List PyData} {tl th : TO} {lo hi : Option Int} (ha : EvD K M ta σ H (.tuple ds)) (hl : EvPO K M tl σ H lo) (hh : EvPO K M th σ H hi) : EvD K M (tSl (rSlA K) ta tl th) σ H (.tuple (cutG ds lo hi)) := fun H1 e Q q =>
  ha H1 e _ fun v d H2 e2 dv pd => hl H2 (e.trans e2) _ fun H3 e3 => hh H3 ((e.trans e2).trans e3) _ fun H4 e4 => by
    subst pd
    cases dv.ex (e3.trans e4) with
    | tup h1 h3 =>
      refine ⟨_, _, rfl, SqT.of h1, fun hw => q _ _ H4 ((e2.trans e3).trans e4) (.tup h1 h3) ?_, fun _ p hp => q _ _ _ (((e2.trans e3).trans e4).trans (Ex.new hp)) (.tup upd_same (h3.cut.ex (Ex.new hp))) rfl⟩
      unfold cutG
      rw [h3.length] at hw
      rw [hw.1, hw.2, List.drop_zero, Nat.sub_zero, List.take_length]
theorem cutG_nat {α : Type} (xs : List α) (i j : Nat) (h : i ≤ j) (hj : j ≤ xs.length) : cutG xs (some (i : Int)) (some (j : Int)) = (xs.drop i).take (j - i) := by
  unfold cutG
  rw [HT.sIx_nat, HT.sIx_nat, Nat.min_eq_left (Nat.le_trans h hj), Nat.min_eq_left hj]
theorem cutG_to {α : Type} (xs : List α) (j : Nat) (hj : j ≤ xs.length) : cutG xs none (some (j : Int)) = xs.take j := by
  unfold cutG
  rw [HT.sIx_nat, HT.sIx_none, Nat.min_eq_left hj]
  rfl
theorem cutG_from {α : Type} (xs : List α) (i : Nat) (hj : i ≤ xs.length) : cutG xs (some (i : Int)) none = xs.drop i := by
  unfold cutG
  rw [HT.sIx_nat, HT.sIx_none, Nat.min_eq_left hj, List.take_of_length_le (by rw [List.length_drop]; exact Nat.le_refl _)]
/-- a test of which something is known -/
def EvTP (tt : TT) (σ : L2.St) (H : Hp) (PB : Bool → Prop) : Prop := ∀ H1, Ex H H1 → ∀ Q : Bool → Hp → Prop, (∀ b H2, Ex H1 H2 → PB b → Q b H2) → tt σ H1 Q
theorem evtp_of {t : TT} {b : Bool} (h : EvT t σ H b) : EvTP t σ H (· = b) := fun H1 e Q q => h H1 e Q fun H2 e2 => q b H2 e2 rfl
theorem evtp_test {PB : Bool → Prop} (h : EvP K M te σ H (fun d => ∃ b, d = .bool b ∧ PB b)) : EvTP (tTest te) σ H PB := fun H1 e Q q => h H1 e _ fun v d H2 e2 dv pd => by
  obtain ⟨b, rfl, pb⟩ := pd
  cases dv
  exact ⟨b, rfl, q b H2 e2 pb⟩
theorem evtp_or {t u : TT} {PA PB : Bool → Prop} (h1 : EvTP t σ H PA) (h2 : PA false → EvTP u σ H PB) : EvTP (tOr t u) σ H (fun b => PA true ∧ b = true ∨ PA false ∧ PB b) := fun H1 e Q q => h1 H1 e _ fun b H2 e2 pb => by
  cases b with
  | true => exact q true H2 e2 (.inl ⟨pb, rfl⟩)
  | false => exact h2 pb H2 (e.trans e2) Q fun b H3 e3 p3 => q b H3 (e2.trans e3) (.inr ⟨pb, p3⟩)
theorem EvTP.mono {t : TT} {PA PB : Bool → Prop} (h : EvTP t σ H PA) (k : ∀ b, PA b → PB b) : EvTP t σ H PB := fun H1 e Q q => h H1 e Q fun b H2 e2 pb => q b H2 e2 (k b pb)
theorem s_whenP {t : TT} {tu : TS} {D : Ends} {PB : Bool → Prop} (h : EvTP t σ H PB) (h1 : PB true → ∀ H1, Ex H H1 → tu D σ H1) (h2 : PB false → ∀ H1, Ex H H1 → D.nx σ H1) : tIfS t tu tNext D σ H := h H (Ex.refl H) _ fun b H1 e pb => by
  cases b with
  | true => exact h1 pb H1 e
  | false => exact h2 pb H1 e
theorem eqv_list (ds es : List PyData) : PyData.eqv (.list ds) (.list es) = PyData.eqvAll ds es := by rw [PyData.eqv]
theorem eqv_tup (ds es : List PyData) : PyData.eqv (.tuple ds) (.tuple es) = PyData.eqvAll ds es := by rw [PyData.eqv]
theorem eqv_tupI (ns ms : List Int) : PyData.eqv (tupI ns) (tupI ms) = decide (ns = ms) := by
  unfold tupI
  rw [eqv_tup, eqv_ints]
theorem flat_intsD (c : List Nat) : Flat 1 (intsD c) := flat_list fun d hd => by
  obtain ⟨i, _, rfl⟩ := List.mem_map.mp hd
  exact flat_int i
theorem eqv_nil (c : List Nat) : PyData.eqv (intsD c) (.list []) = decide (c = []) := by
  unfold intsD
  rw [eqv_list, show ([] : List PyData) = ([] : List Int).map PyData.int from rfl, eqv_ints]
  unfold ofN
  cases c with
  | nil => rfl
  | cons a c => rfl
/-- how many kids, by the list of signs -/
theorem evd_ar {S : List Sg} {i k j : Nat} {z : Int} {v : V} {q : Sg} (hs : σ[i]? = some (some v)) (hv : Dt K M H v (.list (S.map sgD))) (hz : EvD K M te σ H (.int z)) (ez : z = (j : Int)) (hq : S[j]? = some q) :
    EvD K M (tOp (rIxT K) (tOp (rIxL K) (tVar i) te) (tC (.int 1))) σ H (.int q.2) :=
  evd_ixT (j := 1) (ds := [.str q.1, .int q.2]) ((evd_ixL (j := j) (d := sgD q) (evd_var hs hv) hz ez (by rw [List.getElem?_map, hq]; rfl)).mono fun d h => h) evd_int rfl rfl
end
/-! ### a tree is drawn -/
def spLRow (K : PySem.W.Frag) : Sp := fun vs H Q _ => ∃ (M : Addr → Prop) (b : Addr) (v : V) (S : List Sg) (m : Nat), vs = [.ref b, v, .int (m : Int)] ∧ Ok M H ∧ H b = some (Box b) ∧ Dt K M H v (.list (S.map sgD)) ∧ Good S ∧ 1 ≤ m ∧ m ≤ 1000 ∧
  ∀ (u : V) (t : Tr) (H' : Hp), Ex H H' → OkT S t → t.size ≤ m → Dt K MF H' u (rowD t) → Q u H'
structure GlobU (mg : Str → Option Value) : Prop where
  tuple : mg "tuple" = none
section
variable {P : Program} {w : World} {K : PySem.W.Frag} {mg : Str → Option Value} {base : Heap} {C : Addr}
abbrev nLRow : List Str := ["_law_box_here", "_law_signs_here", "_law_most", "_law_row_here", "_law_wanted", "_law_room", "_law_some", "_law_sign"]
theorem scLRow : FnScope nLRow ["_law_box_here", "_law_signs_here", "_law_most"] (defScope sLRow) := ⟨rfl, rfl, rfl, by decide +kernel, rfl, by decide +kernel, by decide +kernel⟩
theorem ok_lrow {f fT : Addr} {fd fdT : FuncData} (F : Fun K "_law_row" "_law_row" sLRow f fd) (G : Glob mg) (GU : GlobU mg)
    (GT : FnOk P w K mg base CX0 2 fT fdT ["_law_box_here", "_law_count"] spTake) (FT : PySem.W.keepIn K (.ref fT) = true) (mT : mg "_law_take" = some (.ref fT)) (bT : Binds K fdT ["_law_box_here", "_law_count"] []) :
    FnOk P w K mg base CX0 3 f fd ["_law_box_here", "_law_signs_here", "_law_most"] (spLRow K) := by
  refine F.ok scLRow (fun vs H Q E h => ?_) (fun cdv A outer s H vs Q E hr h => ?_)
  · obtain ⟨M, b, v, S, m, rfl, _⟩ := h
    rfl
  · obtain ⟨M, b, v, S, m, rfl, ok, hb, hv, gS, m1, m2, q⟩ := h
    have hu := hu64 hr
    refine ⟨_, pss_cons (ps_par (by rfl) scLRow.nd (i := 3) (j := 4) rfl rfl (by decide) rfl rfl (pa_cons (pe_lst pa_nil) (pa_cons pe_int pa_nil)) (by rfl))
      (pss_cons (ps_while PassesOwn.never (pt_cmpR op_gt (pv 4) pe_int (nomark _))
        (pss_cons (ps_set (i := 5) scLRow.nd rfl (.inr rfl) (pe_op op_sub (pe_op op_sub (pv 2) (pe_callB call_len_seq (by rfl) G.len PySem.boot_len (pa_cons (pv 3) pa_nil))) (pv 4)))
        (pss_cons (ps_setLc (i := 6) (own := [("_law_sign", 7)]) (g := gName 7) (by rfl) scLRow.nd rfl rfl (sw_true rfl rfl rfl (by decide +kernel)) (pi_range1 rfl G.range (pa_cons (pe_callB call_len_seq (by rfl) G.len PySem.boot_len (pa_cons (pv 1) pa_nil)) pa_nil))
            (blkOk_by (N := nLRow) (sc := defScope sLRow) (by decide +kernel)) (fun _ _ _ _ _ => pg_name (i := 7) scLRow.nd rfl (.inl rfl))
            (fun _ _ _ _ _ => pts_one (pt_chain op_lt op_le pe_int (pe_ix (ix_tupK (K := K) rfl) (pe_ix (ix_listK (K := K) rfl) (pv 1) (pv 7) (fun _ _ => rfl)) pe_int (fun _ _ => rfl)) (pv 5))) (fun _ _ _ _ _ => pv 7))
        (pss_cut (ps_if (PW.pt (pw_or (pt_cmpR (op_eqD hu) (pv 6) (pe_lst pa_nil) (nomark _)) (pw_or1 (pt_cmpR op_eq (pe_call GT hr rfl mT FT bT .nil pass0 (pa_cons (pv 0) (pa_cons pe_int pa_nil))) pe_int (nomark _)))))
          (pss_one (ps_setLc (i := 6) (own := [("_law_sign", 7)]) (g := gName 7) (by rfl) scLRow.nd rfl rfl (sw_true rfl rfl rfl (by decide +kernel)) (pi_range1 rfl G.range (pa_cons (pe_callB call_len_seq (by rfl) G.len PySem.boot_len (pa_cons (pv 1) pa_nil)) pa_nil))
            (blkOk_by (N := nLRow) (sc := defScope sLRow) (by decide +kernel)) (fun _ _ _ _ _ => pg_name (i := 7) scLRow.nd rfl (.inl rfl))
            (fun _ _ _ _ _ => pts_one (pt_cmpR op_eq (pe_ix (ix_tupK (K := K) rfl) (pe_ix (ix_listK (K := K) rfl) (pv 1) (pv 7) (fun _ _ => rfl)) pe_int (fun _ _ => rfl)) pe_int (nomark _))) (fun _ _ _ _ _ => pv 7))) pss_nil)
        (pss_cons (ps_set (i := 7) scLRow.nd rfl (.inl rfl) (pe_ix ix_list (pv 6) (pe_call GT hr rfl mT FT bT .nil pass0 (pa_cons (pv 0) (pa_cons (pe_callB call_len_seq (by rfl) G.len PySem.boot_len (pa_cons (pv 6) pa_nil)) pa_nil))) (fun _ _ => rfl)))
        (pss_cons (ps_expr (pe_bm PySem.F.plainAttrs_list PySem.F.slot_list_append PySem.F.type_list_append mt_append (pv 3) (pa_cons (pv 7) pa_nil)))
        (pss_one (ps_set (i := 4) scLRow.nd rfl (.inl rfl) (pe_op op_add (pe_op op_sub (pv 4) pe_int) (pe_ix ix_tup (pe_ix ix_list (pv 1) (pv 7) (fun _ _ => rfl)) pe_int (fun _ _ => rfl)))))))))))
      (pss_one (ps_ret (pe_callTy call_tuple_of (by rfl) GU.tuple (by decide +kernel) (pa_cons (pv 3) pa_nil))))), ?_⟩
    refine ⟨by decide, fun l hl => ⟨_, _, rfl, ?_⟩⟩
    have e1 : Ex H (upd H l (.lst [])) := Ex.new hl
    have hl1 : (upd H l (.lst [])) l = some (.lst []) := upd_same
    generalize upd H l (.lst []) = H1 at e1 hl1
    have kl := gS.len
    have kn : ∀ {j : Nat} {r : Sg}, S[j]? = some r → 0 ≤ r.2 ∧ r.2 ≤ 2 := fun h => gS.kids _ (List.mem_of_getElem? h)
    refine q_while (fun k σ' H' => Ex H H' ∧ ∃ (r : List Nat) (d : Nat) (u5 u6 u7 : Option V), σ' = [some (.ref b), some v, some (.int (m : Int)), some (.ref l), some (.int (d : Int)), u5, u6, u7] ∧ H' l = some (.lst (nums r)) ∧ Tr.run S.length (ks S) 1 r = some d ∧ r.length + d ≤ m ∧ k = m - r.length)
      m ⟨e1, [], 1, none, none, none, rfl, hl1, rfl, m1, rfl⟩ ?_
    rintro k σ' H2 ⟨e2, r, d, u5, u6, u7, rfl, hl2, hrun, hm, rfl⟩
    refine ⟨decide (0 < (d : Int)), evt_test (K := K) (M := MF) (evd_cmp (g := fun i j => decide (j < i)) (evd_var rfl (.int (d : Int))) evd_int), fun hd H3 e3 => ?_, fun hd H3 e3 => ?_⟩
    · have hd : 0 < d := by have := of_decide_eq_true hd; omega
      refine ⟨fun σ' H' => Ex H H' ∧ ∃ (r' : List Nat) (d' : Nat) (u5 u6 u7 : Option V), σ' = [some (.ref b), some v, some (.int (m : Int)), some (.ref l), some (.int (d' : Int)), u5, u6, u7] ∧ H' l = some (.lst (nums r')) ∧ Tr.run S.length (ks S) 1 r' = some d' ∧ r'.length + d' ≤ m ∧ r'.length = r.length + 1,
        fun σ2 H4 ⟨e4, r', d', u5, u6, u7, h1, h2, h3, h4, h5⟩ => ⟨m - r'.length, by omega, e4, r', d', u5, u6, u7, h1, h2, h3, h4, rfl⟩, ?_⟩
      have e23 := e2.trans e3
      have hl3 := e3 _ _ hl2
      have lD : ∀ {H'}, Ex H3 H' → Dt K MF H' (.ref l) (intsD r) := fun e => .lst (e _ _ hl3) (fun h => h) (nums_dts _)
      have ev3 : ∀ {H' σ}, σ[3]? = some (some (.ref l)) → Ex H3 H' → EvD K MF (tCB (fun xs H Q => ∃ p ys, xs = [.ref p] ∧ (SqL K H p ys ∨ SqT K H p ys) ∧ Q (.int ys.length) H) (tCons (tVar 3) tNil)) σ H' (.int (r.length : Int)) := fun {H' σ} hs e => by
        have h := evd_lenL (K := K) (M := MF) (σ := σ) (ta := tCons (tVar 3) tNil) (eva_cons (evd_var (d := intsD r) hs (lD e)) eva_nil)
        rw [List.length_map, ofN_len] at h
        exact h
      have evS : ∀ {M' : Addr → Prop} {H' σ}, σ[1]? = some (some v) → Dt K M' H' v (.list (S.map sgD)) → EvD K M' (tCB (fun xs H Q => ∃ p ys, xs = [.ref p] ∧ (SqL K H p ys ∨ SqT K H p ys) ∧ Q (.int ys.length) H) (tCons (tVar 1) tNil)) σ H' (.int (S.length : Int)) := fun {M' H' σ} hs hv => by
        have h := evd_lenL (K := K) (M := M') (σ := σ) (ta := tCons (tVar 1) tNil) (eva_cons (evd_var (d := .list (S.map sgD)) hs hv) eva_nil)
        rw [List.length_map] at h
        exact h
      -- room
      refine q_asgP (K := K) (M := MF) (evd_sub (evd_sub (evd_var rfl (.int (m : Int))) (ev3 rfl (Ex.refl _))) (evd_var rfl (.int (d : Int)))) fun vr dr H4 e4 dvr pr => ?_
      subst pr
      cases dvr
      have hv4 : Dt K M H4 v (.list (S.map sgD)) := hv.ex (e23.trans e4)
      have ok4 := ok.ex (e23.trans e4)
      -- the signs for which there is room
      have key : ∀ (f : Nat → Bool) (tt : TT) (H4 : Hp) (u6 u7 : Option V), Ok M H4 → Dt K M H4 v (.list (S.map sgD)) →
          (∀ (M' : Addr → Prop) (i : Nat) (H' : Hp), Dt K M' H' v (.list (S.map sgD)) → (i : Int) < (S.length : Int) → ∀ σ2 : L2.St, σ2[1]? = some (some v) → σ2[5]? = some (some (.int ((m : Int) - r.length - d))) → σ2[7]? = some (some (.int (i : Int))) → EvT tt σ2 H' (f i)) →
          EvD K M (tLc (iRng1 (tCons (tCB (fun xs H Q => ∃ p ys, xs = [.ref p] ∧ (SqL K H p ys ∨ SqT K H p ys) ∧ Q (.int ys.length) H) (tCons (tVar 1) tNil)) tNil)) (gName 7) tt (tVar 7) [7])
            [some (.ref b), some v, some (.int (m : Int)), some (.ref l), some (.int (d : Int)), some (.int ((m : Int) - r.length - d)), u6, u7] H4 (intsD ((List.range S.length).filter f)) := by
        intro f tt H4 u6 u7 ok4 hv4 ht
        refine (evp_lcR (PN := fun n => n = (S.length : Int)) f (fun i e => e = .int (i : Int)) ok4 ((eva_cons (evS rfl hv4) eva_nil).mono fun ds h => ⟨_, h, rfl⟩) (fun n hn => by omega) fun M' n i H' hm ok' pn hi e Qg qg => ?_).mono ?_
        · subst pn
          refine qg _ H' (Ex.refl _) ⟨rfl, ht M' i H' ((hm _ _ hv4)) hi _ rfl rfl rfl, fun _ => evd_var rfl (.int _)⟩
        · rintro dd ⟨n, es, rfl, rfl, pr⟩
          rw [Int.toNat_natCast] at pr
          rw [paired_map pr]
          show _ = PyData.list ((ofN _).map PyData.int)
          unfold ofN
          rw [List.map_map]
          rfl
      have arE : ∀ {M' : Addr → Prop} {i : Nat} {H' : Hp} {σ2 : L2.St}, Dt K M' H' v (.list (S.map sgD)) → (i : Int) < (S.length : Int) → σ2[1]? = some (some v) → σ2[7]? = some (some (.int (i : Int))) →
          EvD K M' (tOp (rIxT K) (tOp (rIxL K) (tVar 1) (tVar 7)) (tC (.int 1))) σ2 H' (.int (ks S i : Int)) := fun {M' i H' σ2} hv hi h1 h7 => by
        have hq : S[i]? = some (S[i]'(by omega)) := List.getElem?_eq_getElem _
        have h := evd_ar (k := 0) (K := K) (M := M') (σ := σ2) (te := tVar 7) h1 hv (evd_var h7 (.int (i : Int))) rfl hq
        have := kn hq
        rw [ks_of hq, Int.toNat_of_nonneg this.1]
        exact h
      refine q_asgP (K := K) (M := M) (key (fun i => decide (0 < ks S i) && decide ((ks S i : Int) ≤ (m : Int) - r.length - d)) _ H4 _ _ ok4 hv4 ?_) fun vs ds H5 e5 dvs pds => ?_
      · intro M' i H' hv hi σ2 h1 h5 h7
        refine et_is (evt_test (K := K) (M := M') (evd_chainI (g := fun i j => decide (i < j)) (g' := fun i j => decide (i ≤ j)) evd_int (arE hv hi h1 h7) (evd_var h5 (.int _)))) ?_
        congr 1
        by_cases h : 0 < ks S i
        · rw [decide_eq_true h, decide_eq_true (by omega)]
        · rw [decide_eq_false h, decide_eq_false (by omega)]
      subst pds
      have e05 := (e23.trans e4).trans e5
      have hv5 := hv4.ex e5
      have ok5 := ok4.ex e5
      have hb5 := e05 _ _ hb
      refine q_cut (M := fun σ' H6 => Ex H5 H6 ∧ ∃ (c : List Nat) (vc : V) (u7 : Option V), σ' = [some (.ref b), some v, some (.int (m : Int)), some (.ref l), some (.int (d : Int)), some (.int ((m : Int) - r.length - d)), some vc, u7] ∧ Dt K M H6 vc (intsD c) ∧ c ≠ [] ∧ c.length ≤ 6 ∧ ∀ j ∈ c, j < S.length ∧ ((ks S j : Int) ≤ (m : Int) - r.length - d ∨ ks S j = 0)) ?_ ?_
      · have memf : ∀ (f : Nat → Bool), ∀ j ∈ (List.range S.length).filter f, j < S.length ∧ f j = true := fun f j hj => by
          obtain ⟨h1, h2⟩ := List.mem_filter.mp hj
          exact ⟨List.mem_range.mp h1, h2⟩
        have lenf : ∀ (f : Nat → Bool), ((List.range S.length).filter f).length ≤ 6 := fun f => by
          have h := List.length_filter_le f (List.range S.length)
          rw [List.length_range] at h
          omega
        refine s_whenP (PB := fun b => b = false → (List.range S.length).filter (fun i => decide (0 < ks S i) && decide ((ks S i : Int) ≤ (m : Int) - r.length - d)) ≠ []) ?_ (fun _ H6 e6 => ?_) (fun hne H6 e6 => ?_)
        · refine (evtp_or (PB := fun _ => True) (evtp_of (evt_test (K := K) (M := M) (evd_eqD (evd_var rfl dvs) (evd_lst (ds := []) ok5 eva_nil) (flat_intsD _) (flat_list (n := 0) fun d hd => nomatch hd)))) fun _ => evtp_test (K := K) (M := M) ?_).mono ?_
          · refine evp_op (evp_take (ev_var rfl) hb5 evd_int (by decide) (by decide)) evd_int fun x y a dd H7 e7 dx dy px py Q q => ?_
            obtain ⟨k, rfl, k0, k1⟩ := px
            subst py
            cases dx
            cases dy
            exact ⟨rfl, q _ _ H7 (Ex.refl _) (.bl _) ⟨_, rfl, trivial⟩⟩
          · rintro b (⟨_, rfl⟩ | ⟨h, _⟩) hb
            · cases hb
            · rw [eqv_nil] at h
              exact of_decide_eq_false h.symm
        · refine s_asgP (K := K) (M := M) (key (fun i => decide (ks S i = 0)) _ H6 _ _ (ok5.ex e6) (hv5.ex e6) ?_) fun vc dc H7 e7 dvc pc => ?_
          · intro M' i H' hv hi σ2 h1 h5 h7
            refine et_is (evt_test (K := K) (M := M') (evd_eqI (arE hv hi h1 h7) evd_int)) ?_
            by_cases h : ks S i = 0
            · rw [decide_eq_true h, decide_eq_true (by omega)]
            · rw [decide_eq_false h, decide_eq_false (by omega)]
          subst pc
          refine ⟨e6.trans e7, _, vc, u7, rfl, dvc, ?_, lenf _, fun j hj => ?_⟩
          · obtain ⟨p, hp, hz⟩ := gS.leaf
            obtain ⟨j, hj⟩ := List.mem_iff_getElem?.mp hp
            intro h
            have : j ∈ (List.range S.length).filter (fun i => decide (ks S i = 0)) := List.mem_filter.mpr ⟨List.mem_range.mpr (List.getElem?_eq_some_iff.mp hj).1, by rw [ks_of hj, hz]; rfl⟩
            rw [h] at this
            cases this
          · obtain ⟨h1, h2⟩ := memf _ j hj
            exact ⟨h1, .inr (of_decide_eq_true h2)⟩
        · refine ⟨e6, _, vs, u7, rfl, dvs.ex e6, hne rfl, lenf _, fun j hj => ?_⟩
          obtain ⟨h1, h2⟩ := memf _ j hj
          rw [Bool.and_eq_true, decide_eq_true_eq, decide_eq_true_eq] at h2
          exact ⟨h1, .inl h2.2⟩
      · rintro σ' H6 ⟨e6, c, vc, u7, rfl, hc, hne, hc6, hfit⟩
        have lenc : 0 < c.length := List.length_pos_iff.mpr hne
        have hb6 := e6 _ _ hb5
        have ev6 : EvD K M (tCB (fun xs H Q => ∃ p ys, xs = [.ref p] ∧ (SqL K H p ys ∨ SqT K H p ys) ∧ Q (.int ys.length) H) (tCons (tVar 6) tNil)) [some (.ref b), some v, some (.int (m : Int)), some (.ref l), some (.int (d : Int)), some (.int ((m : Int) - r.length - d)), some vc, u7] H6 (.int (c.length : Int)) := by
          have h := evd_lenL (K := K) (M := M) (σ := [some (.ref b), some v, some (.int (m : Int)), some (.ref l), some (.int (d : Int)), some (.int ((m : Int) - r.length - d)), some vc, u7]) (ta := tCons (tVar 6) tNil) (eva_cons (evd_var (d := intsD c) rfl hc) eva_nil)
          rw [List.length_map, ofN_len] at h
          exact h
        -- sign = some[take(box, len(some))]
        refine q_asgP (K := K) (M := M) (P := fun dd => ∃ j : Nat, dd = .int (j : Int) ∧ j ∈ c) ?_ fun vj dj H7 e7 dvj pj => ?_
        · refine evp_op (evd_var rfl hc) (evp_take (ev_var rfl) hb6 ev6 (by omega) (Nat.lt_of_le_of_lt (show ((c.length : Nat) : Int).natAbs ≤ 6 by omega) (by decide))) fun x y a dd H7 e7 dx dy px py Q q => ?_
          obtain ⟨k, rfl, k0, k1⟩ := py
          subst px
          cases dy
          cases dx with
          | lst w1 w2 w3 =>
          obtain ⟨n, rfl⟩ := Int.eq_ofNat_of_zero_le k0
          have hn : c[n]? = some (c[n]'(by omega)) := List.getElem?_eq_getElem _
          obtain ⟨vv, hvv, dvv⟩ := w3.at (i := n) (d := .int ((c[n]'(by omega) : Nat) : Int)) (by rw [List.getElem?_map, ofN_at hn]; rfl)
          exact ⟨_, _, _, vv, rfl, rfl, sq_of w1, atI_nat hvv, q vv _ H7 (Ex.refl _) dvv ⟨_, rfl, List.mem_of_getElem? hn⟩⟩
        obtain ⟨j, rfl, hj⟩ := pj
        cases dvj
        obtain ⟨hjS, hjf⟩ := hfit j hj
        have e57 := e6.trans e7
        have hl7 : H7 l = some (.lst (nums r)) := (e57) _ _ (e5 _ _ (e4 _ _ hl3))
        -- row.append(sign)
        refine q_appP (K := K) (M := M) (P := (· = .int (j : Int))) hl7 rfl (evd_var rfl (.int _)) (by rw [nums_len]; exact Nat.lt_of_le_of_lt (show r.length ≤ 1000 by omega) (by decide)) fun va da H8 e8 dva pa => ?_
        subst pa
        cases dva
        have hlH : H l = none := hl
        have e08 : Ex H (upd H8 l (.lst (nums r ++ [V.int (j : Int)]))) := Ex.mut ((e05.trans e57).trans e8) hlH
        have hv8 : Dt K (more M l) H8 v (.list (S.map sgD)) := (hv.more hlH).ex ((e05.trans e57).trans e8)
        have hl8 := e8 _ _ hl7
        have hv9 : Dt K (more M l) (upd H8 l (.lst (nums r ++ [V.int (j : Int)]))) v (.list (S.map sgD)) := hv8.upd hl8 (.inr rfl)
        refine s_asgP (K := K) (M := more M l) (evd_add (evd_sub (evd_var rfl (.int (d : Int))) evd_int) (arE hv9 (by omega) rfl rfl)) fun vw dw H9 e9 dvw pw => ?_
        subst pw
        cases dvw
        have hrun' := Tr.run_snoc hrun hd hjS
        refine ⟨e08.trans e9, r ++ [j], d - 1 + ks S j, some (.int ((m : Int) - r.length - d)), some vc, some (.int (j : Int)), ?_, ?_, hrun', ?_, by rw [List.length_append]; rfl⟩
        · have hc : (d : Int) - 1 + (ks S j : Int) = ((d - 1 + ks S j : Nat) : Int) := by omega
          exact congrArg (fun z => [some (.ref b), some v, some (.int (m : Int)), some (.ref l), some (V.int z), some (.int ((m : Int) - r.length - d)), some vc, some (.int (j : Int))]) hc
        · rw [e9 _ _ upd_same, nums_app]
          rfl
        · rw [List.length_append, List.length_singleton]
          omega
    · have hd : d = 0 := by have := of_decide_eq_false hd; omega
      subst hd
      obtain ⟨t, ht, rfl⟩ := Tr.run_tree (ks_le gS.kidsOk) hrun
      refine ⟨_, rfl, l, _, rfl, .inl ⟨sq_of (e3 _ _ hl2), fun tp htp => ?_⟩⟩
      have hsz : t.size ≤ m := by unfold Tr.size; omega
      exact q (.ref tp) t _ ((e2.trans e3).trans (Ex.new htp)) ht hsz (.tup upd_same ((nums_dts _)))
end
end TH
set_option maxRecDepth 100000
set_option maxHeartbeats 4000000
namespace TH
open PySem L2 Evl
abbrev sKidSt : Stmt := top 23
abbrev sLKids : Stmt := top 42
/-- where the kids begin of the part u that begins at n -/
def kst (n : Nat) (u : Tr) : List Nat := (List.range u.kids.length).map fun j => n + 1 + Tr.sizeF (u.kids.take j)
theorem kst_len (n : Nat) (u : Tr) : (kst n u).length = u.kids.length := by unfold kst; rw [List.length_map, List.length_range]
theorem kst_at {n j : Nat} {u : Tr} (h : j < u.kids.length) : (kst n u)[j]? = some (n + 1 + Tr.sizeF (u.kids.take j)) := by
  unfold kst
  rw [List.getElem?_map, List.getElem?_range h]
  rfl
theorem kids_num {S : List Sg} {u : Tr} (hK : KidsOk S) (hO : OkT S u) : ∃ r, S[u.root]? = some r ∧ r.2 = (u.kids.length : Int) := by
  have hrt : u.root < S.length := hO.root
  have hSr : S[u.root]? = some (S[u.root]'hrt) := List.getElem?_eq_getElem hrt
  refine ⟨_, hSr, ?_⟩
  have h1 := hO.ark
  rw [ks_of hSr] at h1
  have := hK _ (List.mem_of_getElem? hSr)
  omega
theorem okT_suf {S : List Sg} {t u : Tr} {us : List Tr} {n : Nat} (hO : OkT S t) (h : Tr.suf n [t] = u :: us) : OkT S u :=
  Tr.okF_suf n (ts := [t]) (fun x hx => by rw [List.mem_singleton.mp hx]; exact hO) u (by rw [h]; exact List.mem_cons_self)
def spKidSt (K : PySem.W.Frag) (C : Addr) : Sp := fun vs H Q _ => ∃ (p : Addr) (v z : V) (S : List Sg) (t u : Tr) (us : List Tr) (n : Nat), vs = [.ref p, v, z, .int (n : Int)] ∧ BookAt C MF H p S ∧ KidsOk S ∧ Dt K MF H v (rowD t) ∧ Dt K MF H z (intsD t.sizes) ∧ OkT S t ∧ Tr.suf n [t] = u :: us ∧
  ∀ l H', H l = none → Ex H H' → H' l = some (.lst (nums (kst n u))) → Q (.ref l) H'
section
variable {P : Program} {w : World} {K : PySem.W.Frag} {mg : Str → Option Value} {base : Heap} {C : Addr}
abbrev nKidSt : List Str := ["book", "row", "sizes", "start", "starts", "behind", "_"]
theorem scKidSt : FnScope nKidSt ["book", "row", "sizes", "start"] (defScope sKidSt) := ⟨rfl, rfl, rfl, by decide +kernel, rfl, by decide +kernel, by decide +kernel⟩
theorem ok_kidst {f : Addr} {fd : FuncData} (F : Fun K "kid_starts" "kid_starts" sKidSt f fd) (G : Glob mg) (B : BookK P w K mg base C) : FnOk P w K mg base CX0 2 f fd ["book", "row", "sizes", "start"] (spKidSt K C) := by
  obtain ⟨T, _, ⟨f2, d2, m2, g2, b2⟩⟩ := B
  refine F.ok scKidSt (fun vs H Q E h => ?_) (fun cdv A outer s H vs Q E hr h => ?_)
  · obtain ⟨p, v, z, S, t, u, us, n, rfl, _⟩ := h
    rfl
  · obtain ⟨p, v, z, S, t, u, us, n, rfl, hB, hK, hv, hzs, hO, hsu, q⟩ := h
    refine ⟨_, pss_cons (ps_set (i := 4) scKidSt.nd rfl (.inl rfl) (pe_lst pa_nil))
      (pss_cons (ps_set (i := 5) scKidSt.nd rfl (.inl rfl) (pe_op op_add (pv 3) pe_int))
      (pss_cons (ps_for PassesOwn.never rfl (pi_range1 rfl G.range (pa_cons (pe_meth (pv 0) T.cl m2 g2 hr b2 .nil pass0 (pa_cons (pe_ix ix_tup (pv 1) (pv 3) (fun _ _ => rfl)) pa_nil)) pa_nil)) (pg_name (i := 6) scKidSt.nd rfl (.inl rfl))
        (pss_cons (ps_expr (pe_bm PySem.F.plainAttrs_list PySem.F.slot_list_append PySem.F.type_list_append mt_append (pv 4) (pa_cons (pv 5) pa_nil)))
        (pss_one (ps_set (i := 5) scKidSt.nd rfl (.inl rfl) (pe_op op_add (pv 5) (pe_ix ix_list (pv 2) (pv 5) (fun _ _ => rfl)))))))
      (pss_one (ps_ret (pv 4))))), ?_⟩
    refine ⟨by decide, fun l hl => ?_⟩
    have e1 : Ex H (upd H l (.lst [])) := Ex.new hl
    have hl1 : (upd H l (.lst [])) l = some (.lst []) := upd_same
    generalize upd H l (.lst []) = H1 at e1 hl1
    have hOu := okT_suf hO hsu
    obtain ⟨r, hr1, hr2⟩ := kids_num hK hOu
    have hk2 := Tr.kids_le u
    refine q_asgP (K := K) (M := MF) (evd_add (evd_var rfl (.int (n : Int))) evd_int) fun v5 d5 H2 e2 dv5 pd5 => ?_
    subst pd5
    cases dv5
    have hl2 := e2 _ _ hl1
    have e12 := e1.trans e2
    refine q_forR1 (ea_cons (ev_ofI (K := K) (M := MF) (evd_kids (j := u.root) rfl (hB.ex e12) (evd_ixT (j := n) (ds := (ofN t.row).map PyData.int) (evd_var (d := rowD t) rfl (hv.ex e12)) (evd_var rfl (.int _)) rfl (by rw [List.getElem?_map, ofN_at (Tr.row_at hsu)]; rfl)) rfl hr1)) ea_nil) (by omega)
      (fun j σ' H' => Ex H H' ∧ ∃ u6, σ' = [some (.ref p), some v, some z, some (.int (n : Int)), some (.ref l), some (.int ((n + 1 + Tr.sizeF (u.kids.take j) : Nat) : Int)), u6] ∧ H' l = some (.lst (nums ((kst n u).take j))))
      (fun H3 e3 => ⟨e12.trans e3, none, rfl, e3 _ _ hl2⟩) ?_ ?_
    · rintro j σ' H3 hj ⟨e3, u6, rfl, hl3⟩
      rw [hr2] at hj
      have hjn : j < u.kids.length := by omega
      have hk : u.kids[j]? = some (u.kids[j]'hjn) := List.getElem?_eq_getElem _
      have hjz := Tr.sizes_at (Tr.suf_kid hsu hk)
      refine q_appP (K := K) (M := MF) (P := (· = .int _)) hl3 rfl (evd_var rfl (.int ((n + 1 + Tr.sizeF (u.kids.take j) : Nat) : Int))) (by rw [nums_len, List.length_take, kst_len]; exact Nat.lt_of_le_of_lt (Nat.le_trans (Nat.min_le_right _ _) hk2) (by decide)) fun va da H4 e4 dva pa => ?_
      subst pa
      cases dva
      have e34 : Ex H (upd H4 l (.lst (nums ((kst n u).take j) ++ [V.int ((n + 1 + Tr.sizeF (u.kids.take j) : Nat) : Int)]))) := Ex.mut (e3.trans e4) hl
      have hz4 : Dt K (more MF l) (upd H4 l (.lst (nums ((kst n u).take j) ++ [V.int ((n + 1 + Tr.sizeF (u.kids.take j) : Nat) : Int)]))) z (intsD t.sizes) := ((hzs.more hl).ex (e3.trans e4)).upd (e4 _ _ hl3) (.inr rfl)
      refine s_asgP (K := K) (M := more MF l) (evd_add (evd_var rfl (.int _)) (evd_ixL (j := n + 1 + Tr.sizeF (u.kids.take j)) (ds := (ofN t.sizes).map PyData.int) (evd_var (d := intsD t.sizes) rfl hz4) (evd_var rfl (.int _)) rfl (by rw [List.getElem?_map, ofN_at hjz]; rfl))) fun vb db H5 e5 dvb pb => ?_
      subst pb
      cases dvb
      refine ⟨e34.trans e5, some (.int (j : Int)), ?_, ?_⟩
      · rw [Tr.sizeF_take hk]
        have hc : ((n + 1 + Tr.sizeF (u.kids.take j) : Nat) : Int) + ((u.kids[j]'hjn).size : Int) = ((n + 1 + (Tr.sizeF (u.kids.take j) + (u.kids[j]'hjn).size) : Nat) : Int) := by omega
        exact congrArg (fun x => [some (.ref p), some v, some z, some (.int (n : Int)), some (.ref l), some (V.int x), some (.int (j : Int))]) hc
      · rw [e5 _ _ upd_same, Tr.take_snoc (kst_at hjn), nums_app]
        rfl
    · rintro σ' H3 ⟨e3, u6, rfl, hl3⟩
      rw [hr2, Int.toNat_natCast, ← kst_len n u, List.take_length] at hl3
      exact ⟨_, rfl, q l H3 hl e3 hl3⟩
end
/-! ### the kids' rows, by the law -/
def spLKids (K : PySem.W.Frag) : Sp := fun vs H Q _ => ∃ (M : Addr → Prop) (v z : V) (S : List Sg) (u : Tr), vs = [v, z] ∧ Ok M H ∧ Dt K M H v (.list (S.map sgD)) ∧ KidsOk S ∧ Dt K MF H z (rowD u) ∧ OkT S u ∧
  ∀ l xs H', H l = none → Ex H H' → H' l = some (.lst xs) → Dts K MF H' xs (u.kids.map rowD) → Q (.ref l) H'
theorem rowD_cut {t u : Tr} {us : List Tr} {n : Nat} (h : Tr.suf n [t] = u :: us) : PyData.tuple (cutG ((ofN t.row).map PyData.int) (some (n : Int)) (some ((n + u.size : Nat) : Int))) = rowD u := by
  obtain ⟨h1, h2, _⟩ := Tr.suf_row h
  rw [Tr.row_one] at h1
  rw [Tr.size_one] at h2
  rw [cutG_nat _ _ _ (by omega) (by rw [List.length_map, ofN_len]; exact h2), Nat.add_sub_cancel_left]
  unfold rowD tupI ofN
  rw [← h1]
  simp only [List.map_drop, List.map_take]
section
variable {P : Program} {w : World} {K : PySem.W.Frag} {mg : Str → Option Value} {base : Heap} {C : Addr}
abbrev nLKids : List Str := ["_law_signs_here", "_law_row_here", "_law_found", "_law_begin", "_law_turn", "_law_stop", "_law_wanted"]
theorem scLKids : FnScope nLKids ["_law_signs_here", "_law_row_here"] (defScope sLKids) := ⟨rfl, rfl, rfl, by decide +kernel, rfl, by decide +kernel, by decide +kernel⟩
theorem ok_lkids {f : Addr} {fd : FuncData} (F : Fun K "_law_kids" "_law_kids" sLKids f fd) (G : Glob mg) : FnOk P w K mg base CX0 1 f fd ["_law_signs_here", "_law_row_here"] (spLKids K) := by
  refine F.ok scLKids (fun vs H Q E h => ?_) (fun cdv A outer s H vs Q E hr h => ?_)
  · obtain ⟨M, v, z, S, u, rfl, _⟩ := h
    rfl
  · obtain ⟨M, v, z, S, u, rfl, ok, hv, hK, hz, hO, q⟩ := h
    refine ⟨_, pss_cons (ps_par (by rfl) scLKids.nd (i := 2) (j := 3) rfl rfl (by decide) rfl rfl (pa_cons (pe_lst pa_nil) (pa_cons pe_int pa_nil)) (by rfl))
      (pss_cons (ps_for PassesOwn.never rfl (pi_range1 rfl G.range (pa_cons (pe_ix ix_tup (pe_ix ix_list (pv 0) (pe_ix ix_tup (pv 1) pe_int (fun _ _ => rfl)) (fun _ _ => rfl)) pe_int (fun _ _ => rfl)) pa_nil)) (pg_name (i := 4) scLKids.nd rfl (.inl rfl))
        (pss_cons (ps_par (by rfl) scLKids.nd (i := 5) (j := 6) rfl rfl (by decide) rfl rfl (pa_cons (pv 3) (pa_cons pe_int pa_nil)) (by rfl))
        (pss_cons (ps_while PassesOwn.never (pt_cmpR op_gt (pv 6) pe_int (nomark _))
          (pss_cons (ps_set (i := 6) scLKids.nd rfl (.inl rfl) (pe_op op_add (pe_op op_sub (pv 6) pe_int) (pe_ix ix_tup (pe_ix ix_list (pv 0) (pe_ix ix_tup (pv 1) (pv 5) (fun _ _ => rfl)) (fun _ _ => rfl)) pe_int (fun _ _ => rfl))))
          (pss_one (ps_set (i := 5) scLKids.nd rfl (.inl rfl) (pe_op op_add (pv 5) pe_int)))))
        (pss_cons (ps_expr (pe_bm PySem.F.plainAttrs_list PySem.F.slot_list_append PySem.F.type_list_append mt_append (pv 2) (pa_cons (pe_slice sl_tupA (pv 1) (po_some (pv 3)) (po_some (pv 5))) pa_nil)))
        (pss_one (ps_set (i := 3) scLKids.nd rfl (.inl rfl) (pv 5)))))))
      (pss_one (ps_ret (pv 2)))), ?_⟩
    refine ⟨by decide, fun l hl => ⟨_, _, rfl, ?_⟩⟩
    have e1 : Ex H (upd H l (.lst [])) := Ex.new hl
    have hl1 : (upd H l (.lst [])) l = some (.lst []) := upd_same
    generalize upd H l (.lst []) = H1 at e1 hl1
    obtain ⟨r, hr1, hr2⟩ := kids_num hK hO
    have hk2 := Tr.kids_le u
    have s0 : Tr.suf 0 [u] = u :: [] := rfl
    -- how many kids the sign at a place has
    have arE : ∀ {M' : Addr → Prop} {i n : Nat} {x : Tr} {xs : List Tr} {te : TE} {H' : Hp} {σ2 : L2.St}, Dt K M' H' v (.list (S.map sgD)) → Dt K M' H' z (rowD u) → Tr.suf n [u] = x :: xs → σ2[0]? = some (some v) → σ2[1]? = some (some z) → EvD K M' te σ2 H' (.int (n : Int)) →
        EvD K M' (tOp (rIxT K) (tOp (rIxL K) (tVar 0) (tOp (rIxT K) (tVar 1) te)) (tC (.int 1))) σ2 H' (.int (x.kids.length : Int)) := fun {M' i n x xs te H' σ2} hv hz hs h0 h1 ht => by
      obtain ⟨r, hr1, hr2⟩ := kids_num hK (okT_suf hO hs)
      have h := evd_ar (k := 0) (K := K) (M := M') (σ := σ2) (te := tOp (rIxT K) (tVar 1) te) h0 hv (evd_ixT (j := n) (ds := (ofN u.row).map PyData.int) (evd_var (d := rowD u) h1 hz) ht rfl (by rw [List.getElem?_map, ofN_at (Tr.row_at hs)]; rfl)) rfl hr1
      rw [hr2] at h
      exact h
    have hv0 : Dt K (more M l) H v (.list (S.map sgD)) := hv.more hl
    have hz0 : Dt K (more M l) H z (rowD u) := dt_any hz
    refine q_forR1 (ea_cons (ev_ofI (K := K) (M := more M l) (arE (i := 0) (hv0.ex e1) (hz0.ex e1) s0 rfl rfl evd_int)) ea_nil) (by omega)
      (fun j σ' H' => Ex H H' ∧ ∃ xs u4 u5 u6, σ' = [some v, some z, some (.ref l), some (.int ((1 + Tr.sizeF (u.kids.take j) : Nat) : Int)), u4, u5, u6] ∧ H' l = some (.lst xs) ∧ Dts K MF H' xs ((u.kids.take j).map rowD))
      (fun H3 e3 => ⟨e1.trans e3, [], none, none, none, rfl, e3 _ _ hl1, .nil⟩) ?_ ?_
    · rintro j σ' H3 hj ⟨e3, xs, u4, u5, u6, rfl, hl3, dxs⟩
      have hjn : j < u.kids.length := by omega
      have hk : u.kids[j]? = some (u.kids[j]'hjn) := List.getElem?_eq_getElem _
      generalize u.kids[j]'hjn = k at hk
      have hsk := Tr.suf_kid s0 hk
      rw [Nat.zero_add] at hsk
      generalize hB : 1 + Tr.sizeF (u.kids.take j) = n at hsk
      refine ⟨_, rfl, _, _, rfl, ?_⟩
      refine q_while (fun m σ' H' => Ex H3 H' ∧ ∃ i : Nat, σ' = [some v, some z, some (.ref l), some (.int (n : Int)), some (.int (j : Int)), some (.int ((n + i : Nat) : Int)), some (.int ((Tr.suf i [k]).length : Int))] ∧ i ≤ k.size ∧ m = k.size - i)
        k.size ⟨Ex.refl _, 0, rfl, Nat.zero_le _, rfl⟩ ?_
      rintro m σ' H4 ⟨e4, i, rfl, hi, rfl⟩
      have hv4 := hv0.ex (e3.trans e4)
      have hz4 := hz0.ex (e3.trans e4)
      refine ⟨decide (0 < ((Tr.suf i [k]).length : Int)), evt_test (K := K) (M := MF) (evd_cmp (g := fun i j => decide (j < i)) (evd_var rfl (.int _)) evd_int), fun hd H5 e5 => ?_, fun hd H5 e5 => ?_⟩
      · have hd := of_decide_eq_true hd
        have hlt : i < Tr.sizeF [k] := by
          rw [← Nat.not_le]
          intro h
          rw [Tr.suf_nil.mpr h] at hd
          exact absurd hd (by decide)
        obtain ⟨x, xs', hx, _⟩ := Tr.suf_cons hlt
        refine ⟨fun σ' H' => Ex H3 H' ∧ σ' = [some v, some z, some (.ref l), some (.int (n : Int)), some (.int (j : Int)), some (.int ((n + (i + 1) : Nat) : Int)), some (.int ((Tr.suf (i + 1) [k]).length : Int))],
          fun σ2 H6 ⟨e6, h⟩ => ⟨k.size - (i + 1), by rw [Tr.size_one] at hlt; omega, e6, i + 1, h, by rw [Tr.size_one] at hlt; omega, rfl⟩, ?_⟩
        have hxu : Tr.suf (n + i) [u] = x :: (xs' ++ (u.kids.drop (j + 1) ++ [])) := by
          rw [Tr.suf_add, hsk, show k :: (u.kids.drop (j + 1) ++ []) = [k] ++ (u.kids.drop (j + 1) ++ []) from rfl, Tr.suf_in _ _ _ (Nat.le_of_lt hlt), hx]
          rfl
        refine q_asgP (K := K) (M := more M l) (evd_add (evd_sub (evd_var rfl (.int _)) evd_int) (arE (i := 0) (hv4.ex e5) (hz4.ex e5) hxu rfl rfl (evd_var rfl (.int _)))) fun v6 d6 H6 e6 dv6 pd6 => ?_
        subst pd6
        cases dv6
        refine s_asgP (K := K) (M := MF) (evd_add (evd_var rfl (.int _)) evd_int) fun v7 d7 H7 e7 dv7 pd7 => ?_
        subst pd7
        cases dv7
        refine ⟨((e4.trans e5).trans e6).trans e7, ?_⟩
        have hc1 : ((n + i : Nat) : Int) + 1 = ((n + (i + 1) : Nat) : Int) := by omega
        have hc2 : ((Tr.suf i [k]).length : Int) - 1 + (x.kids.length : Int) = ((Tr.suf (i + 1) [k]).length : Int) := by
          rw [Tr.suf_succ, hx]
          show (((x :: xs').length : Nat) : Int) - 1 + _ = ((x.kids ++ xs').length : Int)
          rw [List.length_append, List.length_cons]
          omega
        rw [← hc1, ← hc2]
        rfl
      · have hd := of_decide_eq_false hd
        have hle : Tr.sizeF [k] ≤ i := by
          refine Tr.suf_nil.mp ?_
          cases h : Tr.suf i [k] with
          | nil => rfl
          | cons x xs =>
            rw [h, List.length_cons] at hd
            omega
        have hik : i = k.size := by rw [Tr.size_one] at hle; omega
        subst hik
        have e35 := e4.trans e5
        have hl5 := e35 _ _ hl3
        refine q_appP (K := K) (M := MF) (P := (· = rowD k)) hl5 rfl ((evd_slT (ds := (ofN u.row).map PyData.int) (evd_var (d := rowD u) rfl (dt_any (hz4.ex e5))) (evo_some (evd_var rfl (.int _))) (evo_some (evd_var rfl (.int _)))).mono fun d h => h.trans (rowD_cut hsk))
          (by rw [dxs.length, List.length_map, List.length_take]; exact Nat.lt_of_le_of_lt (Nat.le_trans (Nat.min_le_right _ _) hk2) (by decide)) fun va da H6 e6 dva pa => ?_
        subst pa
        have hl6 := e6 _ _ hl5
        refine ⟨_, rfl, Ex.mut ((e3.trans e35).trans e6) hl, xs ++ [va], some (.int (j : Int)), some (.int ((n + k.size : Nat) : Int)), some (.int ((Tr.suf k.size [k]).length : Int)), ?_, upd_same, ?_⟩
        · rw [Tr.sizeF_take hk, ← Nat.add_assoc, hB]
          rfl
        · rw [Tr.take_snoc hk, List.map_append]
          have hnl : ∀ {d : PyData} {x : V} {ns : List Int}, Dt K MF H6 x (tupI ns) → Dt K MF (upd H6 l (.lst (xs ++ [va]))) x (tupI ns) := fun {d x ns} h => by
            obtain ⟨a, rfl, h1⟩ := dt_tupS h
            exact dt_of_tup (by rw [upd_ne (ne_of h1 hl6 (by intro z; cases z))]; exact h1)
          have key : ∀ {ys : List V} {ts : List Tr}, Dts K MF H6 ys (ts.map rowD) → Dts K MF (upd H6 l (.lst (xs ++ [va]))) ys (ts.map rowD) := by
            intro ys ts h
            induction ts generalizing ys with
            | nil => cases h; exact .nil
            | cons t ts ih =>
              cases h with
              | cons h1 h2 => exact .cons (hnl (d := .none) h1) (ih h2)
          exact (key (dxs.ex (e35.trans e6))).append (.one (hnl (d := .none) dva))
    · rintro σ' H3 ⟨e3, xs, u4, u5, u6, rfl, hl3, dxs⟩
      rw [Int.toNat_natCast, List.take_length] at dxs
      exact ⟨_, rfl, q l xs H3 hl e3 hl3 dxs⟩
end
end TH
set_option maxRecDepth 100000
set_option maxHeartbeats 4000000
namespace TH
open PySem L2 Evl
abbrev sStart : Stmt := top 24
abbrev sAt : Stmt := top 25
abbrev sPut : Stmt := top 26
/-- what stands at a place, and where it begins -/
def walkP : List Int → Nat × Tr → Option (Nat × Tr)
  | [], a => some a
  | z :: zs, a => if 0 ≤ z ∧ z < (a.2.kids.length : Int) then
      match a.2.kids[z.toNat]? with
      | some k => walkP zs (a.1 + 1 + Tr.sizeF (a.2.kids.take z.toNat), k)
      | none => none
    else none
def findP (t : Tr) (place : List Int) : Option (Nat × Tr) := walkP place (0, t)
theorem walkP_suf {t : Tr} : ∀ (place : List Int) {n m : Nat} {u k : Tr} {us : List Tr}, Tr.suf n [t] = u :: us → walkP place (n, u) = some (m, k) → ∃ ks, Tr.suf m [t] = k :: ks
  | [], n, m, u, k, us, h, e => by
    rw [walkP] at e
    cases e
    exact ⟨us, h⟩
  | z :: zs, n, m, u, k, us, h, e => by
    rw [walkP] at e
    split at e
    · split at e
      · rename_i k' hk
        exact walkP_suf zs (Tr.suf_kid h hk) e
      · cases e
    · cases e
theorem findP_suf {t k : Tr} {place : List Int} {m : Nat} (h : findP t place = some (m, k)) : ∃ ks, Tr.suf m [t] = k :: ks := walkP_suf (us := []) place rfl h
theorem walkP_snoc : ∀ (place : List Int) (z : Int) (a : Nat × Tr), walkP (place ++ [z]) a = (walkP place a).bind fun b => walkP [z] b
  | [], z, a => rfl
  | y :: ys, z, a => by
    rw [List.cons_append, walkP, walkP]
    split
    · split
      · exact walkP_snoc ys z _
      · rfl
    · rfl
def spStart (K : PySem.W.Frag) (C CP : Addr) : Sp := fun vs H Q E => ∃ (p : Addr) (v z w : V) (S : List Sg) (t : Tr) (ns : List Int), vs = [.ref p, v, z, w] ∧ BookAt C MF H p S ∧ KidsOk S ∧ Dt K MF H v (rowD t) ∧ Dt K MF H z (intsD t.sizes) ∧ Dt K MF H w (tupI ns) ∧ OkT S t ∧
  (∀ n u, findP t ns = some (n, u) → ∀ H', Ex H H' → Q (.int (n : Int)) H') ∧ (findP t ns = none → ∀ H', Ex H H' → E (.ref CP) none H')
def spAt (K : PySem.W.Frag) (C CT CP : Addr) : Sp := fun vs H Q E => ∃ (p : Addr) (v w : V) (S : List Sg) (rs ns : List Int), vs = [.ref p, v, w] ∧ BookAt C MF H p S ∧ KidsOk S ∧ Dt K MF H v (tupI rs) ∧ Dt K MF H w (tupI ns) ∧
  (treeB S rs = false → ∀ H', Ex H H' → E (.ref CT) none H') ∧
  (treeB S rs = true → ∃ t, OkT S t ∧ rs = ofN t.row ∧ t.size ≤ 40 ∧ (∀ n u, findP t ns = some (n, u) → ∀ x H', Ex H H' → Dt K MF H' x (rowD u) → Q x H') ∧ (findP t ns = none → ∀ H', Ex H H' → E (.ref CP) none H'))
def spPut (K : PySem.W.Frag) (C CT CP : Addr) : Sp := fun vs H Q E => ∃ (p : Addr) (v w y : V) (S : List Sg) (rs ns os : List Int), vs = [.ref p, v, w, y] ∧ BookAt C MF H p S ∧ KidsOk S ∧ Dt K MF H v (tupI rs) ∧ Dt K MF H w (tupI ns) ∧ Dt K MF H y (tupI os) ∧
  (treeB S rs = false → ∀ H', Ex H H' → E (.ref CT) none H') ∧
  (treeB S rs = true → ∃ t, OkT S t ∧ rs = ofN t.row ∧ t.size ≤ 40 ∧
    (∀ n u, findP t ns = some (n, u) → (treeB S os = false → ∀ H', Ex H H' → E (.ref CT) none H') ∧ (treeB S os = true → ∃ o, OkT S o ∧ os = ofN o.row ∧ o.size ≤ 40 ∧ ∀ x H', Ex H H' → Dt K MF H' x (tupI (ofN (t.row.take n ++ o.row ++ t.row.drop (n + u.size)))) → Q x H')) ∧
    (findP t ns = none → ∀ H', Ex H H' → E (.ref CP) none H'))
theorem treeB_tree {S : List Sg} (hk : KidsOk S) {ns : List Int} (h : treeB S ns = true) : ∃ t, OkT S t ∧ ns = ofN t.row ∧ t.size ≤ 40 := by
  unfold treeB at h
  rw [Bool.and_eq_true, decide_eq_true_eq] at h
  obtain ⟨t, ht, rfl⟩ := runB_tree hk h.2
  rw [ofN_len] at h
  exact ⟨t, ht, rfl, by unfold Tr.size; omega⟩
section
variable {P : Program} {w : World} {K : PySem.W.Frag} {mg : Str → Option Value} {base : Heap} {C : Addr}
abbrev nStart : List Str := ["book", "row", "sizes", "place", "start", "number", "starts"]
theorem scStart : FnScope nStart ["book", "row", "sizes", "place"] (defScope sStart) := ⟨rfl, rfl, rfl, by decide +kernel, rfl, by decide +kernel, by decide +kernel⟩
theorem ok_start {f CP : Addr} {fd : FuncData} (F : Fun K "start_at" "start_at" sStart f fd) (G : Glob mg) (TN : ExcT K mg "NoPlace" CP) (B : OneF P w K mg base "kid_starts" 2 ["book", "row", "sizes", "start"] (spKidSt K C)) :
    FnOk P w K mg base (L2.CX P w) 3 f fd ["book", "row", "sizes", "place"] (spStart K C CP) := by
  obtain ⟨f1, d1, m1, k1, g1, b1⟩ := B
  refine F.okX scStart (fun vs H Q E h => ?_) (fun cdv A outer s H vs Q E hr h => ?_)
  · obtain ⟨p, v, z, w, S, t, ns, rfl, _⟩ := h
    rfl
  · obtain ⟨p, v, z, w, S, t, ns, rfl, hB, hK, hv, hz, hw, hO, qy, qn⟩ := h
    refine ⟨_, pss_cons (ps_set (i := 4) scStart.nd rfl (.inl rfl) pe_int)
      (pss_cons (ps_for (passes_of rfl) rfl (pi_tup (pv 3)) (pg_name (i := 5) scStart.nd rfl (.inl rfl))
        (pss_cons (ps_set (i := 6) scStart.nd rfl (.inl rfl) (pe_call g1 hr rfl m1 k1 b1 .nil pass0 (pa_cons (pv 0) (pa_cons (pv 1) (pa_cons (pv 2) (pa_cons (pv 4) pa_nil))))))
        (pss_cons (ps_if (pt_not (pt_chain op_le op_lt pe_int (pv 5) (pe_callB call_len_seq (by rfl) G.len PySem.boot_len (pa_cons (pv 6) pa_nil)))) (pss_one (ps_raise rfl (takes_of rfl rfl rfl rfl) (pmk_own PySem.F.excBase_ValueError TN.x TN.g TN.k (raises_own TN.b TN.t) rfl))) pss_nil)
        (pss_one (ps_set (i := 4) scStart.nd rfl (.inl rfl) (pe_ix ix_list (pv 6) (pv 5) (fun _ _ => rfl)))))))
      (pss_one (ps_ret (pv 4)))), ?_⟩
    obtain ⟨a, rfl, hS⟩ := dt_tup hw
    refine ⟨_, rfl, a, rfl, ⟨_, hS⟩, for_tup (K := K) (a := a) (xs := ns.map V.int) (fun i σ' H' => Ex H H' ∧ ∃ (n : Nat) (u : Tr) (us : List Tr) (u5 u6 : Option V), σ' = [some (.ref p), some v, some z, some (.ref a), some (.int (n : Int)), u5, u6] ∧ Tr.suf n [t] = u :: us ∧ findP t ns = walkP (ns.drop i) (n, u))
      ⟨Ex.refl H, 0, t, [], none, none, rfl, rfl, rfl⟩ (fun i σ' H' _ z => ex_t z.1 hS) ?_ ?_⟩
    · rintro i x σ' H1 hx ⟨e, n, u, us, u5, u6, rfl, hsu, hf⟩
      rw [List.getElem?_map] at hx
      cases hy : ns[i]? with
      | none =>
        rw [hy] at hx
        cases hx
      | some y =>
      rw [hy] at hx
      cases hx
      obtain ⟨hlt, ey⟩ := List.getElem?_eq_some_iff.mp hy
      have ed : ns.drop i = y :: ns.drop (i + 1) := by rw [List.drop_eq_getElem_cons hlt, ey]
      rw [ed, walkP] at hf
      dsimp only at hf
      refine ⟨_, rfl, _, rfl, _, rfl, _, rfl, p, v, z, S, t, u, us, n, rfl, hB.ex e, hK, hv.ex e, hz.ex e, hO, hsu, fun l H2 hl e2 hl2 => ?_⟩
      have dl : ∀ {H'}, Ex H2 H' → Dt K MF H' (.ref l) (intsD (kst n u)) := fun e => .lst (e _ _ hl2) (fun h => h) (nums_dts _)
      dsimp only
      refine q_when (evt_not (evt_test (K := K) (M := MF) (evd_chainI (g := fun i j => decide (i ≤ j)) (g' := fun i j => decide (i < j)) evd_int (evd_var rfl (.int y)) (evd_lenL (es := (ofN (kst n u)).map PyData.int) (eva_cons (evd_var rfl (dl (Ex.refl _))) eva_nil))))) (fun hb H3 e3 => ?_) (fun hb H3 e3 => ?_)
      · rw [Bool.not_eq_true', List.length_map, ofN_len, kst_len, Bool.and_eq_false_iff, decide_eq_false_iff_not, decide_eq_false_iff_not] at hb
        rw [if_neg (by omega)] at hf
        exact qn hf H3 ((e.trans e2).trans e3)
      · rw [Bool.not_eq_false', List.length_map, ofN_len, kst_len, Bool.and_eq_true, decide_eq_true_eq, decide_eq_true_eq] at hb
        rw [if_pos hb] at hf
        obtain ⟨j, rfl⟩ := Int.eq_ofNat_of_zero_le hb.1
        have hjn : j < u.kids.length := by omega
        have hk : u.kids[j]? = some (u.kids[j]'hjn) := List.getElem?_eq_getElem _
        rw [Int.toNat_natCast, hk] at hf
        refine s_asgP (K := K) (M := MF) (evd_ixL (j := j) (ds := (ofN (kst n u)).map PyData.int) (d := .int ((n + 1 + Tr.sizeF (u.kids.take j) : Nat) : Int)) (evd_var rfl (dl e3)) (evd_var rfl (.int _)) rfl (by rw [List.getElem?_map, ofN_at (kst_at hjn)]; rfl)) fun v4 d4 H4 e4 dv4 pd4 => ?_
        subst pd4
        cases dv4
        exact ⟨((e.trans e2).trans e3).trans e4, _, _, _, some (.int (j : Int)), some (.ref l), rfl, Tr.suf_kid hsu hk, hf⟩
    · rintro σ' H1 ⟨e, n, u, us, u5, u6, rfl, hsu, hf⟩
      rw [List.length_map, List.drop_length, walkP] at hf
      exact ⟨_, rfl, qy n u hf H1 e⟩
theorem scAt : FnScope ["book", "tree", "place", "sizes", "start"] ["book", "tree", "place"] (defScope sAt) := ⟨rfl, rfl, rfl, by decide +kernel, rfl, by decide +kernel, by decide +kernel⟩
abbrev nPut : List Str := ["book", "tree", "place", "other", "sizes", "start"]
theorem scPut : FnScope nPut ["book", "tree", "place", "other"] (defScope sPut) := ⟨rfl, rfl, rfl, by decide +kernel, rfl, by decide +kernel, by decide +kernel⟩
/-- a def that may raise -/
def OneX (P : Program) (w : World) (K : PySem.W.Frag) (mg : Str → Option Value) (base : Heap) (x : Str) (k : Nat) (ps : List Str) (sp : Sp) : Prop :=
  ∃ (f : Addr) (fd : FuncData), mg x = some (.ref f) ∧ PySem.W.keepIn K (.ref f) = true ∧ FnOk P w K mg base (L2.CX P w) k f fd ps sp ∧ Binds K fd ps []
theorem ok_at {f CT CP : Addr} {fd : FuncData} (F : Fun K "at" "at" sAt f fd) (B1 : OneX P w K mg base "check_tree" 4 ["book", "tree"] (spCheck K C CT)) (B2 : OneF P w K mg base "sizes_of" 2 ["book", "row"] (spSizes K C))
    (B3 : OneX P w K mg base "start_at" 3 ["book", "row", "sizes", "place"] (spStart K C CP)) : FnOk P w K mg base (L2.CX P w) 5 f fd ["book", "tree", "place"] (spAt K C CT CP) := by
  obtain ⟨f1, d1, m1, k1, g1, b1⟩ := B1
  obtain ⟨f2, d2, m2, k2, g2, b2⟩ := B2
  obtain ⟨f3, d3, m3, k3, g3, b3⟩ := B3
  refine F.okX scAt (fun vs H Q E h => ?_) (fun cdv A outer s H vs Q E hr h => ?_)
  · obtain ⟨p, v, w, S, rs, ns, rfl, _⟩ := h
    rfl
  · obtain ⟨p, v, w, S, rs, ns, rfl, hB, hK, hv, hw, qn, qt⟩ := h
    have hr2 : Room 2 _ := hr.mono (show 2 ≤ 4 by decide)
    have hr3 : Room 3 _ := hr.mono (show 3 ≤ 4 by decide)
    refine ⟨_, pss_cons (ps_expr (pe_call (E := E) g1 hr rfl m1 k1 b1 .nil (passes_call (takes_of rfl rfl rfl rfl) fun _ _ _ _ h => h) (pa_cons (pv 0) (pa_cons (pv 1) pa_nil))))
      (pss_cons (ps_set (i := 3) scAt.nd rfl (.inl rfl) (pe_call g2 hr2 rfl m2 k2 b2 .nil pass0 (pa_cons (pv 0) (pa_cons (pv 1) pa_nil))))
      (pss_cons (ps_set (i := 4) scAt.nd rfl (.inl rfl) (pe_call (E := E) g3 hr3 rfl m3 k3 b3 .nil (passes_call (takes_of rfl rfl rfl rfl) fun _ _ _ _ h => h) (pa_cons (pv 0) (pa_cons (pv 1) (pa_cons (pv 3) (pa_cons (pv 2) pa_nil))))))
      (pss_one (ps_ret (pe_slice sl_tupA (pv 1) (po_some (pv 4)) (po_some (pe_op op_add (pv 4) (pe_ix ix_list (pv 3) (pv 4) (fun _ _ => rfl))))))))), ?_⟩
    refine ⟨_, rfl, _, rfl, p, v, S, rs, rfl, hB, hK, hv, fun ht H1 e1 => ?_, qn⟩
    obtain ⟨t, hO, rfl, h40, qy, qx⟩ := qt ht
    have hv1 : Dt K MF H1 v (rowD t) := hv.ex e1
    refine ⟨_, rfl, _, rfl, p, v, S, t, rfl, hB.ex e1, hK, hv1, hO, by omega, fun l H2 hl e2 hl2 => ?_⟩
    have dl : ∀ {H'}, Ex H2 H' → Dt K MF H' (.ref l) (intsD t.sizes) := fun e => .lst (e _ _ hl2) (fun h => h) (nums_dts _)
    have e12 := e1.trans e2
    refine ⟨_, rfl, _, rfl, _, rfl, _, rfl, p, v, .ref l, w, S, t, ns, rfl, hB.ex e12, hK, hv.ex e12, dl (Ex.refl _), hw.ex e12, hO, fun n u hf H3 e3 => ?_, fun hf H3 e3 => qx hf H3 (e12.trans e3)⟩
    obtain ⟨us, hsu⟩ := findP_suf hf
    refine s_retP (K := K) (M := MF) ((evd_slT (ds := (ofN t.row).map PyData.int) (evd_var (d := rowD t) rfl (hv.ex (e12.trans e3))) (evo_some (evd_var rfl (.int (n : Int)))) (evo_some (i := ((n + u.size : Nat) : Int)) ((evd_add (evd_var rfl (.int (n : Int))) (evd_ixL (j := n) (d := .int (u.size : Int)) (ds := (ofN t.sizes).map PyData.int) (evd_var rfl (dl e3)) (evd_var rfl (.int (n : Int))) rfl (by rw [List.getElem?_map, ofN_at (Tr.sizes_at hsu)]; rfl))).mono fun d h => h))).mono fun d h => h.trans (rowD_cut hsu)) fun x d H4 e4 dx pd => ?_
    subst pd
    exact qy n u hf x H4 ((e12.trans e3).trans e4) dx
theorem ok_put {f CT CP : Addr} {fd : FuncData} (F : Fun K "put" "put" sPut f fd) (B1 : OneX P w K mg base "check_tree" 4 ["book", "tree"] (spCheck K C CT)) (B2 : OneF P w K mg base "sizes_of" 2 ["book", "row"] (spSizes K C))
    (B3 : OneX P w K mg base "start_at" 3 ["book", "row", "sizes", "place"] (spStart K C CP)) : FnOk P w K mg base (L2.CX P w) 5 f fd ["book", "tree", "place", "other"] (spPut K C CT CP) := by
  obtain ⟨f1, d1, m1, k1, g1, b1⟩ := B1
  obtain ⟨f2, d2, m2, k2, g2, b2⟩ := B2
  obtain ⟨f3, d3, m3, k3, g3, b3⟩ := B3
  refine F.okX scPut (fun vs H Q E h => ?_) (fun cdv A outer s H vs Q E hr h => ?_)
  · obtain ⟨p, v, w, y, S, rs, ns, os, rfl, _⟩ := h
    rfl
  · obtain ⟨p, v, w, y, S, rs, ns, os, rfl, hB, hK, hv, hw, hy, qn, qt⟩ := h
    have hr2 : Room 2 _ := hr.mono (show 2 ≤ 4 by decide)
    have hr3 : Room 3 _ := hr.mono (show 3 ≤ 4 by decide)
    refine ⟨_, pss_cons (ps_expr (pe_call (E := E) g1 hr rfl m1 k1 b1 .nil (passes_call (takes_of rfl rfl rfl rfl) fun _ _ _ _ h => h) (pa_cons (pv 0) (pa_cons (pv 1) pa_nil))))
      (pss_cons (ps_set (i := 4) scPut.nd rfl (.inl rfl) (pe_call g2 hr2 rfl m2 k2 b2 .nil pass0 (pa_cons (pv 0) (pa_cons (pv 1) pa_nil))))
      (pss_cons (ps_set (i := 5) scPut.nd rfl (.inl rfl) (pe_call (E := E) g3 hr3 rfl m3 k3 b3 .nil (passes_call (takes_of rfl rfl rfl rfl) fun _ _ _ _ h => h) (pa_cons (pv 0) (pa_cons (pv 1) (pa_cons (pv 4) (pa_cons (pv 2) pa_nil))))))
      (pss_cons (ps_expr (pe_call (E := E) g1 hr rfl m1 k1 b1 .nil (passes_call (takes_of rfl rfl rfl rfl) fun _ _ _ _ h => h) (pa_cons (pv 0) (pa_cons (pv 3) pa_nil))))
      (pss_one (ps_ret (pe_op op_catA (pe_op op_catA (pe_slice sl_tupA (pv 1) po_none (po_some (pv 5))) (pv 3)) (pe_slice sl_tupA (pv 1) (po_some (pe_op op_add (pv 5) (pe_ix ix_list (pv 4) (pv 5) (fun _ _ => rfl)))) po_none))))))), ?_⟩
    refine ⟨_, rfl, _, rfl, p, v, S, rs, rfl, hB, hK, hv, fun ht H1 e1 => ?_, qn⟩
    obtain ⟨t, hO, rfl, h40, qy, qx⟩ := qt ht
    have hv1 : Dt K MF H1 v (rowD t) := hv.ex e1
    refine ⟨_, rfl, _, rfl, p, v, S, t, rfl, hB.ex e1, hK, hv1, hO, by omega, fun l H2 hl e2 hl2 => ?_⟩
    have dl : ∀ {H'}, Ex H2 H' → Dt K MF H' (.ref l) (intsD t.sizes) := fun e => .lst (e _ _ hl2) (fun h => h) (nums_dts _)
    have e12 := e1.trans e2
    refine ⟨_, rfl, _, rfl, _, rfl, _, rfl, p, v, .ref l, w, S, t, ns, rfl, hB.ex e12, hK, hv.ex e12, dl (Ex.refl _), hw.ex e12, hO, fun n u hf H3 e3 => ?_, fun hf H3 e3 => qx hf H3 (e12.trans e3)⟩
    obtain ⟨us, hsu⟩ := findP_suf hf
    obtain ⟨qo, qg⟩ := qy n u hf
    have e13 := e12.trans e3
    refine ⟨_, rfl, _, rfl, p, y, S, os, rfl, hB.ex e13, hK, hy.ex e13, fun ho H4 e4 => ?_, fun ho H4 e4 => qo ho H4 (e13.trans e4)⟩
    obtain ⟨o, hOo, rfl, ho40, qg⟩ := qg ho
    have e14 := e13.trans e4
    obtain ⟨_, h2, _⟩ := Tr.suf_row hsu
    rw [Tr.size_one] at h2
    have hl1 : ((ofN t.row).map PyData.int).length = t.size := by rw [List.length_map, ofN_len]; rfl
    have hl2' : ((ofN o.row).map PyData.int).length = o.size := by rw [List.length_map, ofN_len]; rfl
    refine s_retP (K := K) (M := MF) (evd_catA (evd_catA (evd_slT (ds := (ofN t.row).map PyData.int) (evd_var (d := rowD t) rfl (hv.ex e14)) evo_none (evo_some (evd_var rfl (.int (n : Int)))))
        (evd_var (d := .tuple ((ofN o.row).map PyData.int)) rfl (hy.ex e14)) ?_)
      (evd_slT (ds := (ofN t.row).map PyData.int) (evd_var (d := rowD t) rfl (hv.ex e14)) (evo_some (i := ((n + u.size : Nat) : Int)) ((evd_add (evd_var rfl (.int (n : Int))) (evd_ixL (j := n) (d := .int (u.size : Int)) (ds := (ofN t.sizes).map PyData.int) (evd_var rfl (dl (e3.trans e4))) (evd_var rfl (.int (n : Int))) rfl (by rw [List.getElem?_map, ofN_at (Tr.sizes_at hsu)]; rfl))).mono fun d h => h)) evo_none) ?_) fun x d H5 e5 dx pd => ?_
    · rw [cutG_to _ n (by rw [hl1]; omega), List.length_take, hl1, hl2']
      omega
    · rw [cutG_to _ n (by rw [hl1]; omega), cutG_from _ _ (by rw [hl1]; exact h2), List.length_append, List.length_take, List.length_drop, hl1, hl2']
      omega
    · rw [cutG_to _ n (by rw [hl1]; omega), cutG_from _ _ (by rw [hl1]; exact h2)] at pd
      subst pd
      refine qg x H5 (e14.trans e5) ?_
      unfold tupI ofN
      simp only [List.map_append, List.map_take, List.map_drop]
      unfold ofN at dx
      exact dx
end
end TH
set_option maxRecDepth 100000
set_option maxHeartbeats 4000000
namespace TH
open PySem PySem.Spec PyProof.Rows L2 Evl
/-! ### dict(pairs) whose keys are tuples -/
def mergeT (acc : List (List Key × V)) (kvs : List (List Key × Addr × V)) : List (List Key × V) := kvs.foldl (fun a q => putK a q.1 q.2.2) acc
def rDictT (K : PySem.W.Frag) : List V → Hp → VK → Prop := fun xs H Q => ∃ (a : Addr) (ps : List Addr) (kvs : List (List Key × Addr × V)), xs = [.ref a] ∧ SqL K H a (ps.map V.ref) ∧
  Paired (fun p q => H p = some (.tup [.ref q.2.1, q.2.2]) ∧ H q.2.1 = some (.tup (q.1.map kV))) ps kvs ∧ ∀ p, H p = none → Q (.ref p) (upd H p (.dT (mergeT [] kvs)))
abbrev KR : List (List Key × Addr × V) → List (List Key × Addr × Value) → Prop := Paired fun q r => q.1 = r.1 ∧ q.2.1 = r.2.1 ∧ RelV q.2.2 r.2.2
theorem kt_merge {H : Hp} : ∀ {kvs : List (List Key × Addr × V)} {prs : List (List Key × Addr × Value)} {acc : List (List Key × V)} {xs : List (List Key × Addr × Value)}, KR kvs prs → (∀ q ∈ kvs, H q.2.1 = some (.tup (q.1.map kV))) → KT H acc xs → KT H (mergeT acc kvs) (storedAllH xs prs)
  | _, _, _, _, .nil, _, r => r
  | q :: kvs, p :: prs, acc, xs, .cons h t, hk, r => by
    show KT H (mergeT (putK acc q.1 q.2.2) kvs) (storedAllH (storedH xs p.1 p.2.1 p.2.2) prs)
    refine kt_merge t (fun y hy => hk y (List.mem_cons_of_mem _ hy)) ?_
    rw [← h.1, ← h.2.1]
    exact r.put q.1 (hk q List.mem_cons_self) h.2.2
theorem mergeT_length (kvs : List (List Key × Addr × V)) : ∀ acc : List (List Key × V), (mergeT acc kvs).length ≤ acc.length + kvs.length := by
  induction kvs with
  | nil => exact fun acc => Nat.le_refl _
  | cons q kvs ih =>
    intro acc
    have h1 := ih (putK acc q.1 q.2.2)
    have h2 := length_putK acc q.1 q.2.2
    rw [List.length_cons]
    show (mergeT (putK acc q.1 q.2.2) kvs).length ≤ _
    omega
section
variable {X : Cx}
theorem prs_of {pins : List (Addr × Obj)} {σ : L2.St} {H : Hp} {s : Shared} (I : Inv X pins σ H s) : ∀ {ps : List Addr} {kvs : List (List Key × Addr × V)}, Paired (fun p q => H p = some (.tup [.ref q.2.1, q.2.2]) ∧ H q.2.1 = some (.tup (q.1.map kV))) ps kvs →
    ∃ prs : List (List Key × Addr × Value), KR kvs prs ∧ prs.length = ps.length ∧ (∀ r ∈ prs, (tupleKind (mixKind X.prog X.w)).is s.heap r.1 r.2.1) ∧ ∀ (j : Nat) (r : List Key × Addr × Value), prs[j]? = some r → ∃ b : Addr, ps[j]? = some b ∧ IsTup s.heap b #[.ref r.2.1, r.2.2]
  | _, _, .nil => ⟨[], .nil, rfl, fun r hr => (nomatch hr), fun j r e => by simp at e⟩
  | _, _, .cons (a := p) (b := q) h t => by
    obtain ⟨prs, r, hl, hk, hp⟩ := prs_of I t
    obtain ⟨its, rv, ht, _⟩ := I.tuple (SqT.of (K := X.K) h.1)
    obtain ⟨u, y, ei, ru, ry⟩ := vals2 rv
    subst ei
    cases (show u = Value.ref q.2.1 from ru)
    refine ⟨(q.1, q.2.1, y) :: prs, .cons ⟨rfl, rfl, ry⟩ r, by rw [List.length_cons, List.length_cons, hl], fun r hr => ?_, fun j r e => ?_⟩
    · rcases List.mem_cons.mp hr with rfl | hr
      · exact key_of I.hok h.2
      · exact hk r hr
    · cases j with
      | zero =>
        have e' : (q.1, q.2.1, y) = r := Option.some.inj e
        subst e'
        exact ⟨p, rfl, ht⟩
      | succ j =>
        obtain ⟨b, e1, e2⟩ := hp j r (by simpa using e)
        exact ⟨b, by simpa using e1, e2⟩
theorem call_dictT (hcalm : X.calm = true) (hu : X.A.units + 64 < cLine) : CallR X (.type "dict") (rDictT X.K) := by
  intro pins s σ H xs us Q I r q
  obtain ⟨a, ps, kvs, ex, hq, hp, q⟩ := q
  subst ex
  obtain ⟨u, eu, rx⟩ := vals1 r
  subst eu
  cases rx
  obtain ⟨its, rv, pl, hz⟩ := I.list hq
  have ei := refs_at rv
  subst ei
  rw [List.length_map] at hz
  obtain ⟨prs, rel, hl, hk, hpr⟩ := prs_of I hp
  obtain ⟨o, n, ho, hc, hd, hdat⟩ := pl
  refine call_dict_pairsH (knd := tupleKind (mixKind X.prog X.w)) (ps := prs) (PairArg.list a (ps.map Value.ref).toArray (fun j => ps.getD j 0) (prs.map fun r => (Value.ref r.2.1, r.2.2))) (I.ok.hd hcalm) (show X.A.in1.in1.units < cLine from ?_) ⟨?_, ?_⟩ ⟨?_, ?_⟩ ?_ ?_ fun h' tk hd' k => ?_
  · show X.A.units + 1 + 1 < cLine
    omega
  · exact ⟨o, n, ho, hc, hd, hdat⟩
  · refine ⟨by simp [hl], fun j kk v e => ?_⟩
    rw [List.getElem?_map] at e
    cases hj : prs[j]? with
    | none =>
      rw [hj] at e
      cases e
    | some rr =>
      rw [hj] at e
      cases e
      obtain ⟨b, e1, e2⟩ := hpr j rr hj
      have hb : ps.getD j 0 = b := by rw [List.getD_eq_getElem?_getD, e1]; rfl
      refine ⟨?_, .inl ?_⟩
      · show (ps.map Value.ref).toArray[j]? = some (.ref (ps.getD j 0))
        rw [hb]
        simp [e1]
      · show s.heap.IsTuple (ps.getD j 0) _
        rw [hb]
        exact e2
  · exact (List.length_map _).symm
  · intro i key v hr
    have hr : (prs.map fun r => (Value.ref r.2.1, r.2.2))[i]? = some (key, v) := hr
    rw [List.getElem?_map] at hr
    cases hj : prs[i]? with
    | none =>
      rw [hj] at hr
      cases hr
    | some rr =>
      rw [hj] at hr
      cases hr
      exact ⟨rr.1, rr.2.1, rfl, rfl⟩
  · intro h' kk x hx
    obtain ⟨o, items, n, ho, r⟩ := hk x hx
    exact ⟨o, items, n, kk _ _ (Nat.ne_of_lt (Heap.lt_size ho)) (fun hm => nomatch hm) ho, r⟩
  · rw [List.length_map, hl]
    exact hz
  · have hm : (s.heap.objs.size == sysModules) = false := beq_eq_false_iff_ne.mpr (Nat.ne_of_gt I.big)
    have hlen : (mergeT [] kvs).length ≤ sizeLine := by
      refine Nat.le_trans (mergeT_length kvs []) ?_
      rw [List.length_nil, Nat.zero_add, Paired.length rel, hl]
      exact hz
    have hmem : ∀ {ps : List Addr} {kvs : List (List Key × Addr × V)}, Paired (fun p q => H p = some (.tup [.ref q.2.1, q.2.2]) ∧ H q.2.1 = some (.tup (q.1.map kV))) ps kvs → ∀ q ∈ kvs, H q.2.1 = some (.tup (q.1.map kV)) := by
      intro ps kvs h
      induction h with
      | nil => exact fun q hq => nomatch hq
      | cons h t ih =>
        intro q hq
        rcases List.mem_cons.mp hq with rfl | hq
        · exact h.2
        · exact ih q hq
    have hfree := I.hok.fresh (Nat.le_refl s.heap.objs.size)
    have kt : KT (upd H s.heap.objs.size (.dT (mergeT [] kvs))) (mergeT [] kvs) (storedAllH [] prs) := (kt_merge rel (hmem hp) .nil).keeps fun b ys e => by
      rw [upd_ne (ne_of_none e hfree)]
      exact e
    obtain ⟨o', es, ep, g1, g2, g3, g4, _, g5⟩ := hd'
    exact ⟨.ref s.heap.objs.size, upd H s.heap.objs.size (.dT (mergeT [] kvs)), I.laid (t' := tk) (fun b o e => k b o (fun hm => nomatch hm) e) (Nat.le_refl _) (show ObjOk X.prog X.w _ _ _ (.dT (mergeT [] kvs)) from ⟨hlen, hm, storedAllH [] prs, kt, o', es, ep, g1, g2, g3, g4, g5⟩), rfl, q _ hfree⟩
end
end TH
set_option maxRecDepth 100000
set_option maxHeartbeats 4000000
namespace TH
open PySem L2 Evl
abbrev sLines : Stmt := top 43
/-! ### each place with where its part begins and ends -/
abbrev Line := List Int × Nat × Tr
def lineD (e : Line) : PyData := .tuple [tupI e.1, .int (e.2.1 : Int), .int ((e.2.1 + e.2.2.size : Nat) : Int)]
def kidLine (e : Line) (j : Nat) (k : Tr) : Line := (e.1 ++ [(j : Int)], e.2.1 + 1 + Tr.sizeF (e.2.2.kids.take j), k)
def kidLines (e : Line) (m : Nat) : List Line := (List.range m).map fun j => kidLine e j (e.2.2.kids.getD j e.2.2)
theorem kidLines_succ (e : Line) {j : Nat} {k : Tr} (h : e.2.2.kids[j]? = some k) : kidLines e (j + 1) = kidLines e j ++ [kidLine e j k] := by
  unfold kidLines
  rw [List.range_succ, List.map_append, List.map_singleton, List.getD_eq_getElem?_getD, h]
  rfl
theorem kidLines_trees (e : Line) : ∀ m, m ≤ e.2.2.kids.length → (kidLines e m).map (·.2.2) = e.2.2.kids.take m
  | 0, _ => rfl
  | m + 1, h => by
    have hk : e.2.2.kids[m]? = some (e.2.2.kids[m]'(by omega)) := List.getElem?_eq_getElem _
    rw [kidLines_succ e hk, List.map_append, kidLines_trees e m (by omega), Tr.take_snoc hk]
    rfl
theorem mem_kidLines {e x : Line} {m : Nat} (hm : m ≤ e.2.2.kids.length) (h : x ∈ kidLines e m) : ∃ j k, e.2.2.kids[j]? = some k ∧ x = kidLine e j k := by
  obtain ⟨j, hj, rfl⟩ := List.mem_map.mp h
  have hj := List.mem_range.mp hj
  have hk : e.2.2.kids[j]? = some (e.2.2.kids[j]'(by omega)) := List.getElem?_eq_getElem _
  refine ⟨j, _, hk, ?_⟩
  rw [List.getD_eq_getElem?_getD, hk]
  rfl
theorem kidLine_mem {e : Line} {j : Nat} {k : Tr} (h : e.2.2.kids[j]? = some k) : kidLine e j k ∈ kidLines e e.2.2.kids.length := by
  refine List.mem_map.mpr ⟨j, List.mem_range.mpr (List.getElem?_eq_some_iff.mp h).1, ?_⟩
  rw [List.getD_eq_getElem?_getD, h]
  rfl
theorem walkP_one {n j : Nat} {u k : Tr} (h : u.kids[j]? = some k) : walkP [(j : Int)] (n, u) = some (n + 1 + Tr.sizeF (u.kids.take j), k) := by
  have hj := (List.getElem?_eq_some_iff.mp h).1
  rw [walkP, if_pos ⟨by omega, by show (j : Int) < (u.kids.length : Int); omega⟩, Int.toNat_natCast]
  show (match u.kids[j]? with | some k => walkP [] (n + 1 + Tr.sizeF (u.kids.take j), k) | none => none) = _
  rw [h]
  rfl
theorem findP_kid {t : Tr} {e : Line} {j : Nat} {k : Tr} (h : findP t e.1 = some (e.2.1, e.2.2)) (hk : e.2.2.kids[j]? = some k) : findP t (kidLine e j k).1 = some ((kidLine e j k).2.1, (kidLine e j k).2.2) := by
  show walkP (e.1 ++ [(j : Int)]) (0, t) = some (e.2.1 + 1 + Tr.sizeF (e.2.2.kids.take j), k)
  rw [walkP_snoc]
  have h : walkP e.1 (0, t) = some (e.2.1, e.2.2) := h
  rw [h]
  exact walkP_one hk
theorem walkP_depth : ∀ (zs : List Int) {n m : Nat} {u k : Tr}, walkP zs (n, u) = some (m, k) → zs.length + k.size ≤ u.size
  | [], n, m, u, k, h => by
    rw [walkP] at h
    cases h
    exact Nat.le_of_eq (Nat.zero_add _)
  | z :: zs, n, m, u, k, h => by
    rw [walkP] at h
    split at h
    · split at h
      · rename_i k' hk
        have h1 := walkP_depth zs h
        have hk : u.kids[z.toNat]? = some k' := hk
        have h2 : k'.size ≤ Tr.sizeF u.kids := by
          generalize u.kids = ts at hk
          generalize z.toNat = j at hk
          induction ts generalizing j with
          | nil => cases hk
          | cons t ts ih =>
            rw [Tr.sizeF_cons]
            cases j with
            | zero =>
              cases hk
              omega
            | succ j =>
              have := ih j hk
              omega
        rw [Tr.size_eq u, List.length_cons]
        omega
      · cases h
    · cases h
theorem findP_depth {t u : Tr} {pl : List Int} {n : Nat} (h : findP t pl = some (n, u)) : pl.length + u.size ≤ t.size := walkP_depth pl h
structure LInv (t : Tr) (i : Nat) (L : List Line) : Prop where
  le : i ≤ L.length
  root : (([], 0, t) : Line) ∈ L
  ok : ∀ e ∈ L, findP t e.1 = some (e.2.1, e.2.2)
  sz : i + Tr.sizeF ((L.drop i).map (·.2.2)) = t.size
  closed : ∀ (a : Nat) (e : Line), a < i → L[a]? = some e → ∀ (j : Nat) (k : Tr), e.2.2.kids[j]? = some k → kidLine e j k ∈ L
theorem LInv.start (t : Tr) : LInv t 0 [([], 0, t)] where
  le := Nat.zero_le _
  root := List.mem_singleton.mpr rfl
  ok := fun e he => by
    rw [List.mem_singleton.mp he]
    rfl
  sz := by
    show 0 + Tr.sizeF [t] = t.size
    rw [Tr.size_one, Nat.zero_add]
  closed := fun a e h => absurd h (Nat.not_lt_zero _)
theorem LInv.step {t : Tr} {i : Nat} {L : List Line} {e : Line} (h : LInv t i L) (he : L[i]? = some e) : LInv t (i + 1) (L ++ kidLines e e.2.2.kids.length) := by
  obtain ⟨hlt, ee⟩ := List.getElem?_eq_some_iff.mp he
  have hd : L.drop i = e :: L.drop (i + 1) := by rw [List.drop_eq_getElem_cons hlt, ee]
  refine ⟨by rw [List.length_append]; omega, List.mem_append_left _ h.root, fun x hx => ?_, ?_, fun a x ha hx j k hk => ?_⟩
  · rcases List.mem_append.mp hx with hx | hx
    · exact h.ok x hx
    · obtain ⟨j, k, hk, rfl⟩ := mem_kidLines (Nat.le_refl _) hx
      exact findP_kid (h.ok e (List.mem_of_getElem? he)) hk
  · have hs := h.sz
    rw [hd, List.map_cons, Tr.sizeF_cons, Tr.size_eq] at hs
    rw [List.drop_append_of_le_length (by omega), List.map_append, kidLines_trees e _ (Nat.le_refl _), List.take_length, Tr.sizeF_app]
    omega
  · by_cases hai : a < i
    · rw [List.getElem?_append_left (by omega)] at hx
      exact List.mem_append_left _ (h.closed a x hai hx j k hk)
    · have : a = i := by omega
      subst this
      rw [List.getElem?_append_left hlt, he] at hx
      cases hx
      exact List.mem_append_right _ (kidLine_mem hk)
/-- all places, each with its part -/
structure Full (t : Tr) (L : List Line) : Prop where
  ok : ∀ e ∈ L, findP t e.1 = some (e.2.1, e.2.2)
  all : ∀ (pl : List Int) (n : Nat) (u : Tr), findP t pl = some (n, u) → ((pl, n, u) : Line) ∈ L
  len : L.length = t.size
theorem LInv.full {t : Tr} {L : List Line} (h : LInv t L.length L) : Full t L := by
  refine ⟨h.ok, fun pl n u hf => ?_, ?_⟩
  · have key : ∀ (zs : List Int) (e : Line), e ∈ L → walkP zs (e.2.1, e.2.2) = some (n, u) → ((e.1 ++ zs, n, u) : Line) ∈ L := by
      intro zs
      induction zs with
      | nil =>
        intro e he hw
        rw [walkP] at hw
        have hw := Option.some.inj hw
        rw [List.append_nil]
        have h1 : e.2.1 = n := congrArg Prod.fst hw
        have h2 : e.2.2 = u := congrArg Prod.snd hw
        rw [← h1, ← h2]
        exact he
      | cons z zs ih =>
        intro e he hw
        rw [walkP] at hw
        split at hw
        · rename_i hz
          have hz1 : 0 ≤ z := hz.1
          split at hw
          · rename_i k hk
            have hk : e.2.2.kids[z.toNat]? = some k := hk
            obtain ⟨a, ha⟩ := List.mem_iff_getElem?.mp he
            have hm := h.closed a e (List.getElem?_eq_some_iff.mp ha).1 ha z.toNat k hk
            have := ih (kidLine e z.toNat k) hm hw
            have e1 : (kidLine e z.toNat k).1 ++ zs = e.1 ++ z :: zs := by
              show e.1 ++ [(z.toNat : Int)] ++ zs = _
              rw [Int.toNat_of_nonneg hz1, List.append_assoc]
              rfl
            rw [e1] at this
            exact this
          · cases hw
        · cases hw
    exact key pl ([], 0, t) h.root hf
  · have := h.sz
    rw [List.drop_length] at this
    exact this
/-- what a for over J asks -/
def ForR (g : TG) (tb : TS) (D : Ends) (σ : L2.St) (J : It) (H1 : Hp) : Prop := ∃ W : Nat → Nat → L2.St → Hp → Prop, (∃ m, W 0 m σ H1) ∧ ∀ i m σ H, W i m σ H →
  (J.stop i H ∧ D.nx σ H) ∨ (J.go i H ∧ ∃ N : L2.St → Hp → Prop, (∀ σ' H', N σ' H' → ∃ m', m' < m ∧ W (i + 1) m' σ' H') ∧ ∀ x H', J.yld i H x H' → g x σ H' fun σ2 H2 => tb { D with nx := N, ct := N, bk := D.nx } σ2 H2)
theorem s_forEnumCall {K : PySem.W.Frag} {M : Addr → Prop} {t : TA} {σ : L2.St} {H : Hp} {PL : List PyData → Prop} {sp : Sp} {dvs : List V} {E : XK} {g : TG} {tb : TS} {D : Ends} (h : EvPA K M t σ H PL)
    (k : ∀ vs ds H1, Ex H H1 → Dts K M H1 vs ds → PL ds → sp (vs ++ dvs) H1 (fun v H2 => ∃ a xs, [v] = [V.ref a] ∧ SqL K H2 a xs ∧ ForR g tb D σ (Ite K a) H2) E) : tFor (iEnum K (tCons (tCall sp dvs E t) tNil)) g tb D σ H :=
  h H (Ex.refl H) _ k
def spLines (K : PySem.W.Frag) : Sp := fun vs H Q _ => ∃ (M : Addr → Prop) (v z : V) (S : List Sg) (t : Tr), vs = [v, z] ∧ Ok M H ∧ Dt K M H v (.list (S.map sgD)) ∧ KidsOk S ∧ Dt K MF H z (rowD t) ∧ OkT S t ∧ t.size ≤ 1000 ∧
  ∀ l xs L H', Full t L → H l = none → Ex H H' → H' l = some (.lst xs) → Dts K MT H' xs (L.map lineD) → Q (.ref l) H'
section
variable {P : Program} {w : World} {K : PySem.W.Frag} {mg : Str → Option Value} {base : Heap} {C : Addr}
abbrev nLines : List Str := ["_law_signs_here", "_law_row_here", "_law_found", "_law_spot", "_law_place", "_law_begin", "_law_stop", "_law_number", "_law_kid"]
theorem scLines : FnScope nLines ["_law_signs_here", "_law_row_here"] (defScope sLines) := ⟨rfl, rfl, rfl, by decide +kernel, rfl, by decide +kernel, by decide +kernel⟩
theorem ok_lines {f : Addr} {fd : FuncData} (F : Fun K "_law_lines" "_law_lines" sLines f fd) (G : Glob mg) (GS : GlobS mg) (B : OneF P w K mg base "_law_kids" 1 ["_law_signs_here", "_law_row_here"] (spLKids K)) :
    FnOk P w K mg base CX0 2 f fd ["_law_signs_here", "_law_row_here"] (spLines K) := by
  obtain ⟨f1, d1, m1, k1, g1, b1⟩ := B
  refine F.ok scLines (fun vs H Q E h => ?_) (fun cdv A outer s H vs Q E hr h => ?_)
  · obtain ⟨M, v, z, S, t, rfl, _⟩ := h
    rfl
  · obtain ⟨M, v, z, S, t, rfl, ok, hv, hK, hz, hO, hN, q⟩ := h
    refine ⟨_, pss_cons (ps_par (by rfl) scLines.nd (i := 2) (j := 3) rfl rfl (by decide) rfl rfl (pa_cons (pe_lst (pa_cons (pe_tup (pa_cons (pe_tup pa_nil) (pa_cons pe_int (pa_cons (pe_callB call_len_seq (by rfl) G.len PySem.boot_len (pa_cons (pv 1) pa_nil)) pa_nil)))) pa_nil)) (pa_cons pe_int pa_nil)) (by rfl))
      (pss_cons (ps_while PassesOwn.never (pt_cmpR op_lt (pv 3) (pe_callB call_len_seq (by rfl) G.len PySem.boot_len (pa_cons (pv 2) pa_nil)) (nomark _))
        (pss_cons (ps_asg (pe_ix ix_list (pv 2) (pv 3) (fun _ _ => rfl)) (pg_tup rfl (pgs_cons (pg_name (i := 4) scLines.nd rfl (.inl rfl)) (pgs_cons (pg_name (i := 5) scLines.nd rfl (.inl rfl)) (pgs_cons (pg_name (i := 6) scLines.nd rfl (.inl rfl)) pgs_nil)))))
        (pss_cons (ps_par (by rfl) scLines.nd (i := 3) (j := 5) rfl rfl (by decide) rfl rfl (pa_cons (pe_op op_add (pv 3) pe_int) (pa_cons (pe_op op_add (pv 5) pe_int) pa_nil)) (by rfl))
        (pss_one (ps_for PassesOwn.never rfl (pi_enum (by rfl) GS.enumerate (pa_cons (pe_call g1 hr rfl m1 k1 b1 .nil pass0 (pa_cons (pv 0) (pa_cons (pe_slice sl_tupA (pv 1) (po_some (pe_op op_sub (pv 5) pe_int)) (po_some (pv 6))) pa_nil))) pa_nil))
            (pg_tup rfl (pgs_cons (pg_name (i := 7) scLines.nd rfl (.inl rfl)) (pgs_cons (pg_name (i := 8) scLines.nd rfl (.inl rfl)) pgs_nil)))
          (pss_cons (ps_expr (pe_bm PySem.F.plainAttrs_list PySem.F.slot_list_append PySem.F.type_list_append mt_append (pv 2)
              (pa_cons (pe_tup (pa_cons (pe_op op_catA (pv 4) (pe_tup (pa_cons (pv 7) pa_nil))) (pa_cons (pv 5) (pa_cons (pe_op op_add (pv 5) (pe_callB call_len_seq (by rfl) G.len PySem.boot_len (pa_cons (pv 8) pa_nil))) pa_nil)))) pa_nil)))
          (pss_one (ps_set (i := 5) scLines.nd rfl (.inl rfl) (pe_op op_add (pv 5) (pe_callB call_len_seq (by rfl) G.len PySem.boot_len (pa_cons (pv 8) pa_nil)))))))))))
      (pss_one (ps_ret (pv 2)))), ?_⟩
    obtain ⟨a, rfl, hS⟩ := dt_tup hz
    have hlen : ((ofN t.row).map V.int).length = t.size := by rw [List.length_map, ofN_len]; rfl
    refine ⟨by decide, fun t0 h0 => ⟨_, rfl, a, _, rfl, .inr (ex_t (Ex.new h0) hS), by show 3 ≤ sizeLine; decide, fun t1 h1 => ⟨by show 1 ≤ sizeLine; decide, fun l hl => ⟨_, _, rfl, ?_⟩⟩⟩⟩
    rw [hlen] at hl ⊢
    have e01 : Ex H (upd (upd H t0 (.tup [])) t1 (.tup [.ref t0, .int 0, .int (t.size : Int)])) := (Ex.new h0).trans (Ex.new h1)
    have hlH : H l = none := fresh_back e01 hl
    have e1 : Ex H (upd (upd (upd H t0 (.tup [])) t1 (.tup [.ref t0, .int 0, .int (t.size : Int)])) l (.lst [.ref t1])) := e01.trans (Ex.new hl)
    have hl1 : (upd (upd (upd H t0 (.tup [])) t1 (.tup [.ref t0, .int 0, .int (t.size : Int)])) l (.lst [.ref t1])) l = some (.lst [.ref t1]) := upd_same
    have d1 : Dts K MT (upd (upd (upd H t0 (.tup [])) t1 (.tup [.ref t0, .int 0, .int (t.size : Int)])) l (.lst [.ref t1])) [.ref t1] ([(([], 0, t) : Line)].map lineD) := by
      refine .one (.tup (xs := [.ref t0, .int 0, .int (t.size : Int)]) ?_ (.cons (.tup (xs := []) ?_ .nil) (.cons (.int 0) (.cons ?_ .nil))))
      · rw [upd_ne (ne_of_none upd_same hl)]
        exact upd_same
      · rw [upd_ne (ne_of_none (by rw [upd_ne (ne_of_none upd_same h1)]; exact upd_same) hl), upd_ne (ne_of_none upd_same h1)]
        exact upd_same
      · show Dt K MT _ (.int (t.size : Int)) (.int ((0 + t.size : Nat) : Int))
        rw [Nat.zero_add]
        exact .int _
    generalize upd (upd (upd H t0 (.tup [])) t1 (.tup [.ref t0, .int 0, .int (t.size : Int)])) l (.lst [.ref t1]) = H1 at e1 hl1 d1
    have hv0 : Dt K (more M l) H v (.list (S.map sgD)) := hv.more hlH
    have ok0 : ∀ {H'}, Ex H H' → H' l ≠ none → Ok (more M l) H' := fun {H'} e n x m => by
      rcases m with m | rfl
      · exact (ok.ex e) x m
      · exact n
    refine q_while (fun k σ' H' => Ex H H' ∧ ∃ (i : Nat) (L : List Line) (xs : List V) (u4 u5 u6 u7 u8 : Option V), σ' = [some v, some (.ref a), some (.ref l), some (.int (i : Int)), u4, u5, u6, u7, u8] ∧ H' l = some (.lst xs) ∧ Dts K MT H' xs (L.map lineD) ∧ LInv t i L ∧ k = t.size - i)
      t.size ⟨e1, 0, [([], 0, t)], _, none, none, none, none, none, rfl, hl1, d1, LInv.start t, rfl⟩ ?_
    rintro k σ' H2 ⟨e2, i, L, xs, u4, u5, u6, u7, u8, rfl, hl2, d2, inv, rfl⟩
    have hxl : xs.length = L.length := by rw [d2.length, List.length_map]
    refine ⟨decide ((i : Int) < (L.length : Int)), evt_test (K := K) (M := MF) ((evd_cmp (g := fun i j => decide (i < j)) (evd_var rfl (.int (i : Int))) (evd_lenL (es := L.map lineD) (eva_cons (evd_var rfl (.lst hl2 (fun h => h) d2.flat)) eva_nil))).mono fun d h => by rw [h, List.length_map]), fun hd H3 e3 => ?_, fun hd H3 e3 => ?_⟩
    · have hi : i < L.length := by have := of_decide_eq_true hd; omega
      obtain ⟨e, he⟩ : ∃ e, L[i]? = some e := ⟨_, List.getElem?_eq_getElem hi⟩
      obtain ⟨pl, n, u⟩ := e
      have hf : findP t pl = some (n, u) := inv.ok _ (List.mem_of_getElem? he)
      obtain ⟨us, hsu⟩ := findP_suf hf
      obtain ⟨hr1, hr2, _⟩ := Tr.suf_row hsu
      rw [Tr.size_one] at hr2
      have inv' := inv.step he
      have hle : i + 1 ≤ t.size := by
        have := inv'.sz
        omega
      have hLl : L.length ≤ t.size := by
        have h1 := inv.sz
        have h2 : ∀ ts : List Tr, ts.length ≤ Tr.sizeF ts := by
          intro ts
          induction ts with
          | nil => exact Nat.le_refl _
          | cons x ts ih =>
            rw [Tr.sizeF_cons, List.length_cons]
            have := Tr.size_pos x
            omega
        have h3 := h2 ((L.drop i).map (·.2.2))
        rw [List.length_map, List.length_drop] at h3
        omega
      refine ⟨fun σ' H' => Ex H H' ∧ ∃ (L : List Line) (xs : List V) (u4 u5 u6 u7 u8 : Option V), σ' = [some v, some (.ref a), some (.ref l), some (.int ((i + 1 : Nat) : Int)), u4, u5, u6, u7, u8] ∧ H' l = some (.lst xs) ∧ Dts K MT H' xs (L.map lineD) ∧ LInv t (i + 1) L,
        fun σ2 H4 ⟨e4, L, xs, u4, u5, u6, u7, u8, h1, h2, h3, h4⟩ => ⟨t.size - (i + 1), by omega, e4, i + 1, L, xs, u4, u5, u6, u7, u8, h1, h2, h3, h4, rfl⟩, ?_⟩
      have hl3 := e3 _ _ hl2
      have d3 := d2.ex e3
      have e03 := e2.trans e3
      obtain ⟨x, hx, dx⟩ := d3.at (i := i) (d := lineD (pl, n, u)) (by rw [List.getElem?_map, he]; rfl)
      have pdx := dx
      cases pdx with
      | tup g1 g2 =>
      cases g2 with
      | cons r1 g2 =>
      cases g2 with
      | cons r2 g2 =>
      cases g2 with
      | cons r3 g2 =>
      cases g2
      cases r2
      cases r3
      rename_i vp
      refine ⟨_, rfl, _, rfl, l, xs, _, _, rfl, rfl, sq_of hl3, atI_nat hx, _, _, rfl, SqT.of g1, rfl, _, _, rfl, _, _, rfl, _, _, rfl, rfl, ?_⟩
      refine ⟨_, rfl, _, _, rfl, rfl, _, rfl, _, _, rfl, rfl, _, _, rfl, ?_⟩
      -- for number, kid in enumerate(kids(signs, row[begin - 1:stop]))
      have hv3 := hv0.ex e03
      dsimp only
      refine s_forEnumCall (K := K) (M := more M l) (PL := fun ds => ds = [.list (S.map sgD), rowD u]) (eva_cons (evd_var rfl hv3) (eva_cons (by
          refine EvP.mono (evd_slT (ds := (ofN t.row).map PyData.int) (lo := some (n : Int)) (hi := some ((n + u.size : Nat) : Int)) (evd_var (d := rowD t) rfl (dt_any (hz.ex e03))) (evo_some (EvP.mono (evd_sub (i := (n : Int) + 1) (j := 1) (evd_var rfl (.int _)) evd_int) fun d h => by rw [h, Int.add_sub_cancel])) (evo_some (evd_var rfl (.int _)))) fun d h => h.trans (rowD_cut hsu)) eva_nil)) fun vs ds H4 e4 dvs pds => ?_
      subst pds
      cases dvs with
      | cons q1 dvs =>
      cases dvs with
      | cons q2 dvs =>
      cases dvs
      have hl4 := e4 _ _ hl3
      have e04 := e03.trans e4
      refine ⟨more M l, _, _, S, u, rfl, ok0 e04 (by rw [hl4]; simp), q1, hK, dt_any q2, okT_suf hO hsu, fun lk ys H5 hlk e5 hlk5 dys => ⟨lk, ys, rfl, sq_of hlk5, ?_⟩⟩
      have hl5 := e5 _ _ hl4
      have hyl : ys.length = u.kids.length := by rw [dys.length, List.length_map]
      have hk2 := Tr.kids_le u
      have hne : lk ≠ l := (ne_of_none hl4 hlk).symm
      refine for_it walk_enum (fun j σ' H' => Ex H H' ∧ SqL K H' lk ys ∧ Dts K MF H' ys (u.kids.map rowD) ∧ Dt K MF H' vp (tupI pl) ∧ ∃ (xs : List V) (u7 u8 : Option V), σ' = [some v, some (.ref a), some (.ref l), some (.int ((i : Int) + 1)), some vp, some (.int ((n + 1 + Tr.sizeF (u.kids.take j) : Nat) : Int)), some (.int ((n + u.size : Nat) : Int)), u7, u8] ∧ H' l = some (.lst xs) ∧ Dts K MT H' xs ((L ++ kidLines (pl, n, u) j).map lineD))
        ⟨e04.trans e5, sq_of hlk5, dys, (dt_any r1).ex (e4.trans e5), xs, u7, u8, ?_, hl5, ?_⟩ (fun j σ' H' _ z => z.2.1) ?_ ?_
      · have hc : ((n + 1 + Tr.sizeF (u.kids.take 0) : Nat) : Int) = (n : Int) + 1 := by
          show ((n + 1 + 0 : Nat) : Int) = _
          omega
        rw [hc]
        rfl
      · rw [show kidLines (pl, n, u) 0 = [] from rfl, List.append_nil]
        exact d3.ex (e4.trans e5)
      · rintro j y σ' H6 H6' hj ⟨e6, hlk6, dys6, dp6, xs6, u7, u8, rfl, hl6, d6⟩ ⟨tt, c, d, rfl, ht, rfl, hc, hd⟩
        cases hc
        have hd : ys[j]? = some d := hd
        have hjn : j < u.kids.length := by rw [← hyl]; exact hj
        have hk : u.kids[j]? = some (u.kids[j]'hjn) := List.getElem?_eq_getElem _
        generalize u.kids[j]'hjn = k at hk
        obtain ⟨dd, hdd, dt⟩ := dys6.get hd
        rw [List.getElem?_map, hk] at hdd
        cases hdd
        have e7 : Ex H6 (upd H6 tt (.tup [.int (j : Int), d])) := Ex.new ht
        have hl7 := e7 _ _ hl6
        have d7 := d6.ex e7
        have dt7 := dt.ex e7
        have dp7 := dp6.ex e7
        refine ⟨tt, _, rfl, SqT.of upd_same, rfl, _, _, rfl, _, _, rfl, rfl, ?_⟩
        generalize hG : upd H6 tt (.tup [.int (j : Int), d]) = H7 at e7 hl7 d7 dt7 dp7
        have kl : ((ofN k.row).map PyData.int).length = k.size := by rw [List.length_map, ofN_len]; rfl
        have elen : ∀ {H' : Hp} {σ2 : L2.St}, σ2[8]? = some (some d) → Dt K MF H' d (rowD k) → EvD K MT (tCB (fun xs H Q => ∃ p ys, xs = [.ref p] ∧ (SqL K H p ys ∨ SqT K H p ys) ∧ Q (.int ys.length) H) (tCons (tVar 8) tNil)) σ2 H' (.int (k.size : Int)) := fun {H' σ2} hs e => by
          have h := evd_lenT (K := K) (M := MT) (σ := σ2) (ta := tCons (tVar 8) tNil) (eva_cons (evd_var (d := rowD k) hs (dt_any e)) eva_nil)
          rw [kl] at h
          exact h
        have hpl : pl.length ≤ 1000 := by
          have := findP_depth hf
          omega
        refine q_appP (K := K) (M := MT) (P := (· = lineD (kidLine (pl, n, u) j k))) hl7 rfl ?_ ?_ fun va da H8 e8 dva pa => ?_
        · refine (evd_tup (eva_cons (evd_catA (ds := pl.map PyData.int) (es := [.int (j : Int)]) (evd_var (d := tupI pl) rfl (dt_any dp7)) (evd_tup (eva_cons (evd_var rfl (.int (j : Int))) eva_nil) (by show 1 ≤ sizeLine; decide)) (by rw [List.length_map]; show pl.length + 1 ≤ _; omega))
            (eva_cons (evd_var rfl (.int _)) (eva_cons (evd_add (evd_var rfl (.int _)) (elen rfl dt7)) eva_nil))) (by show 3 ≤ sizeLine; decide)).mono fun d h => h.trans ?_
          show PyData.tuple _ = PyData.tuple [.tuple ((pl ++ [(j : Int)]).map PyData.int), .int ((n + 1 + Tr.sizeF (u.kids.take j) : Nat) : Int), .int ((n + 1 + Tr.sizeF (u.kids.take j) + k.size : Nat) : Int)]
          rw [List.map_append, Int.natCast_add (n + 1 + Tr.sizeF (u.kids.take j)) k.size]
          rfl
        · rw [d6.length, List.length_map, List.length_append]
          unfold kidLines
          rw [List.length_map, List.length_range]
          exact Nat.lt_of_le_of_lt (show L.length + j ≤ 1002 by omega) (by decide)
        · subst pa
          have hl8 := e8 _ _ hl7
          have e68 := e7.trans e8
          have hdl : ∀ {M' : Addr → Prop} {w : V} {ns : List Int}, Dt K M' H8 w (tupI ns) → Dt K M' (upd H8 l (.lst (xs6 ++ [va]))) w (tupI ns) := fun {M' w ns} h => by
            obtain ⟨b, rfl, h1⟩ := dt_tupS h
            exact dt_of_tup (by rw [upd_ne (ne_of h1 hl8 (by intro z; cases z))]; exact h1)
          have hdls : ∀ {zs : List V} {ts : List Tr}, Dts K MF H8 zs (ts.map rowD) → Dts K MF (upd H8 l (.lst (xs6 ++ [va]))) zs (ts.map rowD) := by
            intro zs ts h
            induction ts generalizing zs with
            | nil => cases h; exact .nil
            | cons t ts ih =>
              cases h with
              | cons h1 h2 => exact .cons (hdl h1) (ih h2)
          have hltt : SqL K (upd H8 l (.lst (xs6 ++ [va]))) lk ys := by
            rcases ex_l e68 hlk6 with (h | ⟨o, h⟩) | h
            · exact .inl (.inl (by rw [upd_ne hne]; exact h))
            · exact .inl (.inr ⟨o, by rw [upd_ne hne]; exact h⟩)
            · exact .inr h
          refine s_asgP (K := K) (M := MT) (evd_add (evd_var rfl (.int _)) (elen rfl (hdl (dt7.ex e8)))) fun vb db H9 e9 dvb pb => ?_
          subst pb
          cases dvb
          refine ⟨(Ex.mut ((e6.trans e68)) hlH).trans e9, ex_l e9 hltt, (hdls (dys6.ex e68)).ex e9, (hdl (dp7.ex e8)).ex e9, xs6 ++ [va], some (.int (j : Int)), some d, ?_, e9 _ _ upd_same, ?_⟩
          · rw [Tr.sizeF_take hk]
            have hc : ((n + 1 + Tr.sizeF (u.kids.take j) : Nat) : Int) + (k.size : Int) = ((n + 1 + (Tr.sizeF (u.kids.take j) + k.size) : Nat) : Int) := by omega
            rw [← hc]
            rfl
          · rw [kidLines_succ (pl, n, u) hk, ← List.append_assoc, List.map_append]
            exact (((d7.ex e8).append (.one dva)).upd hl8 trivial).ex e9
      · rintro σ' H6 ⟨e6, _, _, _, xs6, u7, u8, rfl, hl6, d6⟩
        rw [hyl] at d6
        exact ⟨e6, _, xs6, some vp, _, some (.int ((n + u.size : Nat) : Int)), u7, u8, rfl, hl6, d6, inv'⟩
    · have hi : i = L.length := by
        have := of_decide_eq_false hd
        have := inv.le
        omega
      subst hi
      have hl3 := e3 _ _ hl2
      exact ⟨_, rfl, q l xs L H3 inv.full hlH (e2.trans e3) hl3 (d2.ex e3)⟩
end
end TH
set_option maxRecDepth 100000
set_option maxHeartbeats 4000000
namespace TH
open PySem L2 Evl
abbrev sBentP : Stmt := top 44
/-- what gives a new list -/
def EvNew (K : PySem.W.Frag) (M : Addr → Prop) (te : TE) (σ : L2.St) (H : Hp) (P : List PyData → Prop) : Prop :=
  ∀ H1, Ex H H1 → ∀ Q : VK, (∀ l xs ds H2, H1 l = none → Ex H1 H2 → H2 l = some (.lst xs) → Dts K M H2 xs ds → P ds → Q (.ref l) H2) → te σ H1 Q
section
variable {K : PySem.W.Frag} {M M' : Addr → Prop} {H H1 H' : Hp} {σ : L2.St} {ta tb te tl : TE} {tt : TT} {g : TG} {vs : List Nat} {D : Ends} {tz : TS}
theorem evn_lcL {ds : List PyData} (f : PyData → Bool) (F : PyData → PyData) (ok : Ok M H) (hl : EvD K M tl σ H (.list ds)) (hz : ds.length < sizeLine)
    (hs : ∀ (M' : Addr → Prop) (d : PyData) (x : V) (H' : Hp), (∀ v d, Dt K M H v d → Dt K M' H' v d) → Ok M' H' → d ∈ ds → Ex H H' → Dt K M' H' x d →
      ∀ Qg : L2.St → Hp → Prop, (∀ σ2 H2, Ex H' H2 → Turned K M' σ vs tt te (f d) (· = F d) σ2 H2 → Qg σ2 H2) → g x (wipe σ vs) H' Qg) :
    EvNew K M (tLc (iList K tl) g tt te vs) σ H (· = (ds.filter f).map F) := fun H0 e Q q =>
  hl H0 e _ fun v d H1 e1 dv pd => by
    subst pd
    cases dv with
    | lst h1 h2 h3 =>
      rename_i a xs
      refine ⟨a, rfl, ⟨xs, sq_of h1⟩, fun D hD => ?_⟩
      have hw : Walk (Itl K a) ds.length (fun H => SqL K H a xs) (YAt xs) := by
        rw [← h3.length]
        exact walk_list
      refine lc_data (K := K) (σ := σ) (vs := vs) ds hw ((ok.ex (e.trans e1))) hD hz f (fun d e => e = F d) (fun H e => sq_of (e _ _ h1)) (fun M' i d x H2 H' hm ok' hd e2 y Qg qg => ?_) (fun H2 es e2 dd pr => ?_)
      · obtain ⟨rfl, hx⟩ := y
        obtain ⟨d', hd', dx⟩ := h3.get hx
        rw [hd] at hd'
        cases hd'
        exact hs M' d x _ (fun v d h => (hm v d (h.ex (e.trans e1))).ex e2) ok' (List.mem_of_getElem? hd) ((e.trans e1).trans e2) ((hm _ _ dx).ex e2) Qg qg
      · cases dd with
        | lst w1 w2 w3 => exact q D _ es H2 (fresh_back e1 hD) (e1.trans e2) w1 w3 (paired_map pr)
theorem q_asgN {i : Nat} {P : List PyData → Prop} (h : EvNew K M te σ H P) (k : ∀ l xs ds H1, H l = none → Ex H H1 → H1 l = some (.lst xs) → Dts K M H1 xs ds → P ds → tz D (σ.set i (some (.ref l))) H1) : tSeq (tAsg te (gName i)) tz D σ H := h H (Ex.refl H) _ k
theorem q_par {ta tb : TE} {i j : Nat} {PA PB : PyData → Prop} (ha : EvP K M ta σ H PA) (hb : EvP K M tb σ H PB)
    (k : ∀ v d v' d' H1, Ex H H1 → Dt K M H1 v d → PA d → Dt K M H1 v' d' → PB d' → tz D ((σ.set i (some v)).set j (some v')) H1) : tSeq (tPar i j (tCons ta (tCons tb tNil))) tz D σ H :=
  ha.use fun v d H1 e1 dv pd => (hb.ex e1).use fun v' d' H2 e2 dv' pd' => ⟨v, v', rfl, k v d v' d' H2 (e1.trans e2) (dv.ex e2) pd dv' pd'⟩
/-- for z in a list of ints, while a list of ours may change -/
theorem q_forLI {tl : TE} {j : Nat} {zs : List Int} {tu : TS} (hl : EvD K M tl σ H (.list (zs.map PyData.int))) (Pv : Hp → Nat → L2.St → Hp → Prop) (h0 : ∀ H1, Ex H H1 → Pv H1 0 σ H1)
    (hk : ∀ H1 i σ' H', Ex H H1 → Pv H1 i σ' H' → ∀ a o, H1 a = some o → ¬ M a → H' a = some o)
    (hs : ∀ H1 i z σ' H', Ex H H1 → zs[i]? = some z → Pv H1 i σ' H' → tu { D with nx := Pv H1 (i + 1), ct := Pv H1 (i + 1), bk := tz D } (σ'.set j (some (.int z))) H') (hd : ∀ H1 σ' H', Ex H H1 → Pv H1 zs.length σ' H' → tz D σ' H') :
    tSeq (tFor (iList K tl) (gName j) tu) tz D σ H := by
  refine hl.use fun v d H1 e1 dv hd' => ?_
  subst hd'
  cases dv with
  | lst a1 a2 a3 =>
  rename_i a xs
  have ex := a3.ints
  subst ex
  refine ⟨a, rfl, ⟨_, sq_of a1⟩, for_list (K := K) (a := a) (xs := zs.map V.int) (Pv H1) (h0 H1 e1) (fun i σ' H' _ p => sq_of (hk H1 i σ' H' e1 p a _ a1 a2)) (fun i x σ' H' hx p => ?_) fun σ' H' p => hd H1 σ' H' e1 (by rw [List.length_map] at p; exact p)⟩
  rw [List.getElem?_map] at hx
  cases hz : zs[i]? with
  | none =>
    rw [hz] at hx
    cases hx
  | some z =>
    rw [hz] at hx
    cases hx
    exact hs H1 i z σ' H' e1 hz p
theorem op_catAK {X : Cx} (h : X.K = K) : OpR X (binaryOp .Add) (rCatA K) := by
  subst h
  exact op_catA
theorem call_len_seqK {X : Cx} (h : X.K = K) : CallR X (.builtin "len") (fun xs H Q => ∃ p ys, xs = [.ref p] ∧ (SqL K H p ys ∨ SqT K H p ys) ∧ Q (.int ys.length) H) := by
  subst h
  exact call_len_seq
theorem evd_pow {i j : Int} (ha : EvD K M ta σ H (.int i)) (hb : EvD K M tb σ H (.int j)) (h : 0 ≤ j ∧ j ≤ 1000000 ∧ i.natAbs < 2 ^ 64) : EvD K M (tOp (rI (fun i j => 0 ≤ j ∧ j ≤ 1000000 ∧ i.natAbs < 2 ^ 64) fun i j => .int (i ^ j.toNat)) ta tb) σ H (.int (i ^ j.toNat)) :=
  evp_I ha hb fun a b pa pb => ⟨i, j, pa, pb, h, _, rfl, fun _ => .int _⟩
theorem evd_neg {ta : TE} {i : Int} (ha : EvD K M ta σ H (.int i)) : EvD K M (tUn (rU fun i => .int (-i)) ta) σ H (.int (-i)) := fun H1 e Q q =>
  ha H1 e _ fun v d H2 e2 dv pd => by
    subst pd
    cases dv
    exact ⟨i, rfl, q _ _ H2 e2 (.int _) rfl⟩
theorem evd_repT {ds : List PyData} {k : Int} (ha : EvD K M ta σ H (.tuple ds)) (hb : EvD K M tb σ H (.int k)) (h0 : ds ≠ []) (h1 : 2 ≤ k) (h2 : k ≤ 1000) (h3 : ds.length ≤ 1000) : EvD K M (tOp (rRepT K) ta tb) σ H (.tuple (List.replicate k.toNat ds).flatten) :=
  evp_op ha hb fun x y a b H1 e dx dy px py Q q => by
    subst px py
    cases dy
    cases dx with
    | tup g1 g2 =>
      rename_i a xs
      refine ⟨_, _, xs, rfl, rfl, SqT.of g1, fun z => ?_, h1, h2, by rw [g2.length]; exact h3, fun p hp => q _ _ _ (Ex.new hp) (.tup upd_same ?_) rfl⟩
      · rw [z] at g2
        cases g2
        exact h0 rfl
      · have key : ∀ n, Dts K M (upd H1 p (.tup (List.replicate k.toNat xs).flatten)) (List.replicate n xs).flatten (List.replicate n ds).flatten := by
          intro n
          induction n with
          | zero => exact .nil
          | succ n ih =>
            rw [List.replicate_succ, List.replicate_succ, List.flatten_cons, List.flatten_cons]
            exact (g2.ex (Ex.new hp)).append ih
        exact key _
theorem dts_any : ∀ {ls : List (List Int)} {xs : List V}, Dts K M H xs (ls.map tupI) → Dts K M' H xs (ls.map tupI)
  | [], _, .nil => .nil
  | l :: ls, _, .cons h t => .cons (dt_any h) (dts_any t)
end
def spBentP (K : PySem.W.Frag) : Sp := fun vs H Q _ => ∃ (M : Addr → Prop) (b : Addr) (v : V) (pl : List Int), vs = [.ref b, v] ∧ Ok M H ∧ H b = some (Box b) ∧ Dt K MF H v (tupI pl) ∧ pl.length ≤ 1000 ∧
  ∀ (u : V) (ls : List (List Int)) (H' : Hp), Ex H H' → Dt K M H' u (.list (ls.map tupI)) → ls.length = 13 → Q u H'
def plus (pl : List Int) : PyData → PyData
  | .int z => tupI (pl ++ [z])
  | _ => .none
section
variable {P : Program} {w : World} {K : PySem.W.Frag} {mg : Str → Option Value} {base : Heap} {C : Addr}
abbrev nBentP : List Str := ["_law_box_here", "_law_place", "_law_far", "_law_spot", "_law_found", "_law_number"]
theorem scBentP : FnScope nBentP ["_law_box_here", "_law_place"] (defScope sBentP) := ⟨rfl, rfl, rfl, by decide +kernel, rfl, by decide +kernel, by decide +kernel⟩
theorem ok_bentP {f fT : Addr} {fd fdT : FuncData} (F : Fun K "_law_bent" "_law_bent" sBentP f fd) (G : Glob mg)
    (GT : FnOk P w K mg base CX0 2 fT fdT ["_law_box_here", "_law_count"] spTake) (FT : PySem.W.keepIn K (.ref fT) = true) (mT : mg "_law_take" = some (.ref fT)) (bT : Binds K fdT ["_law_box_here", "_law_count"] []) :
    FnOk P w K mg base CX0 3 f fd ["_law_box_here", "_law_place"] (spBentP K) := by
  refine F.ok scBentP (fun vs H Q E h => ?_) (fun cdv A outer s H vs Q E hr h => ?_)
  · obtain ⟨M, b, v, pl, rfl, _⟩ := h
    rfl
  · obtain ⟨M, b, v, pl, rfl, ok, hb, hv, hpl, q⟩ := h
    refine ⟨_, pss_cons (ps_par (by rfl) scBentP.nd (i := 2) (j := 3) rfl rfl (by decide) rfl rfl (pa_cons (pe_call GT hr rfl mT FT bT .nil pass0 (pa_cons (pv 0) (pa_cons (pe_op op_pow pe_int pe_int) pa_nil)))
          (pa_cons (pe_call GT hr rfl mT FT bT .nil pass0 (pa_cons (pv 0) (pa_cons (pe_op op_add (pe_callB call_len_seq (by rfl) G.len PySem.boot_len (pa_cons (pv 1) pa_nil)) pe_int) pa_nil))) pa_nil)) (by rfl))
      (pss_cons (ps_setLc (i := 4) (own := [("_law_number", 5)]) (g := gName 5) (by rfl) scBentP.nd rfl rfl (sw_true rfl rfl rfl (by decide +kernel))
          (pi_list (pe_lst (pa_cons pe_int (pa_cons pe_int (pa_cons pe_int (pa_cons (pe_un un_neg pe_int) (pa_cons (pe_op op_add pe_int (pv 2)) (pa_cons (pe_op op_sub (pe_un un_neg pe_int) (pv 2)) pa_nil))))))))
          (blkOk_by (N := nBentP) (sc := defScope sBentP) (by decide +kernel)) (fun _ _ _ _ _ => pg_name (i := 5) scBentP.nd rfl (.inl rfl)) (fun _ _ _ _ _ => pts_nil)
          (fun _ _ _ _ _ => pe_op (op_catAK (K := K) rfl) (pv 1) (pe_tup (pa_cons (pv 5) pa_nil))))
      (pss_cons (ps_for PassesOwn.never rfl (pi_list (pe_lst (pa_cons pe_int (pa_cons pe_int (pa_cons pe_int (pa_cons (pe_un un_neg pe_int) (pa_cons (pe_op op_add pe_int (pv 2)) (pa_cons (pe_op op_sub (pe_un un_neg pe_int) (pv 2)) pa_nil))))))))
          (pg_name (i := 5) scBentP.nd rfl (.inl rfl))
        (pss_one (ps_expr (pe_bm PySem.F.plainAttrs_list PySem.F.slot_list_append PySem.F.type_list_append mt_append (pv 4)
          (pa_cons (pe_op op_catA (pe_op op_catA (pe_slice sl_tupA (pv 1) po_none (po_some (pv 3))) (pe_tup (pa_cons (pv 5) pa_nil))) (pe_slice sl_tupA (pv 1) (po_some (pe_op op_add (pv 3) pe_int)) po_none)) pa_nil)))))
      (pss_one (ps_ret (pe_op op_cat (pv 4) (pe_lst (pa_cons (pe_op op_catA (pe_slice sl_tupA (pv 1) po_none (po_some (pv 3))) (pe_op op_repT (pe_tup (pa_cons pe_int pa_nil)) pe_int)) pa_nil))))))), ?_⟩
    -- far, spot
    refine q_par (K := K) (M := M) (PA := fun d => ∃ k : Int, d = .int k ∧ 0 ≤ k ∧ k < 10 ^ 28) (PB := fun d => ∃ k : Int, d = .int k ∧ 0 ≤ k ∧ k < (pl.length : Int) + 1) ?_ ?_ fun v1 d1 v2 d2 H1 e1 dv1 p1 dv2 p2 => ?_
    · exact evp_take (n := 10 ^ 28) (ev_var rfl) hb ((evd_pow evd_int evd_int (by decide)).mono fun d h => h) (by decide) (by decide)
    · refine evp_take (n := (pl.length : Int) + 1) (ev_var rfl) hb (evd_add ((evd_lenT (es := pl.map PyData.int) (eva_cons (evd_var (d := tupI pl) rfl (dt_any hv)) eva_nil)).mono fun d h => by rw [h, List.length_map]) evd_int) (by omega) (Nat.lt_of_le_of_lt (show ((pl.length : Int) + 1).natAbs ≤ 1001 by omega) (by decide))
    obtain ⟨far, rfl, f0, f1⟩ := p1
    obtain ⟨sp, rfl, s0, s1⟩ := p2
    cases dv1
    cases dv2
    obtain ⟨spot, rfl⟩ := Int.eq_ofNat_of_zero_le s0
    have hsp : spot ≤ pl.length := by omega
    have ok1 := ok.ex e1
    have six : ∀ {M' : Addr → Prop} {H' : Hp} {u4 u5 : Option V}, Ok M' H' → EvD K M' (tLst (tCons (tC (.int 0)) (tCons (tC (.int 1)) (tCons (tC (.int 2)) (tCons (tUn (rU fun i => .int (-i)) (tC (.int 1))) (tCons (tOp (rI0 fun i j => .int (i + j)) (tC (.int 3)) (tVar 2)) (tCons (tOp (rI0 fun i j => .int (i - j)) (tUn (rU fun i => .int (-i)) (tC (.int 2))) (tVar 2)) tNil)))))))
        [some (.ref b), some v, some (.int far), some (.int (spot : Int)), u4, u5] H' (.list (([0, 1, 2, -1, 3 + far, -2 - far] : List Int).map PyData.int)) := fun ok' =>
      evd_lst ok' (eva_cons evd_int (eva_cons evd_int (eva_cons evd_int (eva_cons (evd_neg evd_int) (eva_cons (evd_add evd_int (evd_var rfl (.int far))) (eva_cons (evd_sub (evd_neg evd_int) (evd_var rfl (.int far))) eva_nil)))))) (by show 6 ≤ sizeLine; decide)
    refine q_asgN (K := K) (M := M) (evn_lcL (fun _ => true) (plus pl) ok1 (six ok1) (by show 6 < sizeLine; decide) fun M' d x H' hm ok' hd e dx Qg qg => ?_) fun l xs ds H2 hl e2 hl2 dxs pds => ?_
    · obtain ⟨z, _, rfl⟩ := List.mem_map.mp hd
      cases dx
      refine qg _ H' (Ex.refl _) ⟨rfl, evt_yes, fun _ => EvP.mono (evd_catA (ds := pl.map PyData.int) (es := [.int z]) (evd_var (d := tupI pl) rfl (dt_any (hv.ex (e1.trans e)))) (evd_tup (eva_cons (evd_var rfl (.int z)) eva_nil) (by show 1 ≤ sizeLine; decide)) (by rw [List.length_map]; show pl.length + 1 ≤ _; omega)) fun d h => h.trans ?_⟩
      show PyData.tuple _ = PyData.tuple ((pl ++ [z]).map PyData.int)
      rw [List.map_append]
      rfl
    have hds : ds = (([0, 1, 2, -1, 3 + far, -2 - far] : List Int).map fun z => pl ++ [z]).map tupI := by
      rw [pds, filter_yes]
      rfl
    subst hds
    have hlH : H l = none := fresh_back e1 hl
    have e02 := e1.trans e2
    have ok2 : Ok (more M l) H2 := fun a m => by
      rcases m with m | rfl
      · exact ok.ex e02 a m
      · rw [hl2]
        simp
    -- for number in [..]: found.append(..)
    refine q_forLI (K := K) (M := more M l) (six ok2) (fun H3 i σ' H' => Ex H H' ∧ (∀ a o, H3 a = some o → a ≠ l → H' a = some o) ∧ ∃ (u5 : Option V) (xs : List V) (ls : List (List Int)), σ' = [some (.ref b), some v, some (.int far), some (.int (spot : Int)), some (.ref l), u5] ∧ H' l = some (.lst xs) ∧ Dts K MT H' xs (ls.map tupI) ∧ ls.length = 6 + i)
      (fun H3 e3 => ⟨e02.trans e3, fun a o h _ => h, none, xs, _, rfl, e3 _ _ hl2, (dts_any dxs).ex e3, rfl⟩) (fun H3 i σ' H' e3 p a o h m => p.2.1 a o h fun z => m (.inr z)) ?_ ?_
    · rintro H3 i z σ' H4 e3 hz ⟨e4, k4, u5, xs4, ls, rfl, hl4, d4, l4⟩
      have hi : i < 6 := (List.getElem?_eq_some_iff.mp hz).1
      have hv4 : Dt K MT H4 v (tupI pl) := dt_any (hv.ex e4)
      have hpll : (pl.map PyData.int).length = pl.length := List.length_map _
      refine s_appP (K := K) (M := MT) (P := (· = tupI (pl.take spot ++ [z] ++ pl.drop (spot + 1)))) hl4 rfl ?_ (by rw [d4.length, List.length_map, l4]; exact Nat.lt_of_le_of_lt (show 6 + i ≤ 12 by omega) (by decide)) fun va da H5 e5 dva pa => ?_
      · refine EvP.mono (evd_catA (evd_catA (evd_slT (ds := pl.map PyData.int) (evd_var (d := tupI pl) rfl hv4) evo_none (evo_some (evd_var rfl (.int (spot : Int))))) (evd_tup (ds := [.int z]) (eva_cons (evd_var rfl (.int z)) eva_nil) (by show 1 ≤ sizeLine; decide)) ?_)
          (evd_slT (ds := pl.map PyData.int) (evd_var (d := tupI pl) rfl hv4) (evo_some (i := (spot : Int) + 1) (evd_add (evd_var rfl (.int (spot : Int))) evd_int)) evo_none) ?_) fun d h => h.trans ?_
        · rw [cutG_to _ spot (by rw [hpll]; exact hsp), List.length_take, hpll]
          show _ + 1 ≤ _
          omega
        · rw [List.length_append, cutG_to _ spot (by rw [hpll]; exact hsp), List.length_take, hpll]
          have : (cutG (pl.map PyData.int) (some ((spot : Int) + 1)) none).length ≤ pl.length := by
            unfold cutG
            rw [List.length_take, List.length_drop, hpll]
            omega
          show _ + 1 + _ ≤ _
          omega
        · rw [cutG_to _ spot (by rw [hpll]; exact hsp)]
          have ecut : cutG (pl.map PyData.int) (some ((spot : Int) + 1)) none = (pl.map PyData.int).drop (spot + 1) := by
            unfold cutG
            rw [show (spot : Int) + 1 = ((spot + 1 : Nat) : Int) by omega, HT.sIx_nat, HT.sIx_none, hpll]
            by_cases h : spot + 1 ≤ pl.length
            · rw [Nat.min_eq_left h, List.take_of_length_le (by rw [List.length_drop, hpll]; exact Nat.le_refl _)]
            · rw [Nat.min_eq_right (by omega), Nat.sub_self, List.take_zero, List.drop_eq_nil_of_le (by rw [hpll]; omega)]
          rw [ecut]
          unfold tupI
          rw [List.map_append, List.map_append, List.map_take, List.map_drop]
          rfl
      · subst pa
        refine ⟨Ex.mut (e4.trans e5) hlH, fun a o h m => ?_, some (.int z), xs4 ++ [va], ls ++ [pl.take spot ++ [z] ++ pl.drop (spot + 1)], rfl, upd_same, ?_, ?_⟩
        · rw [upd_ne m]
          exact e5 _ _ (k4 a o h m)
        · rw [List.map_append]
          exact ((d4.ex e5).append (.one dva)).upd (e5 _ _ hl4) trivial
        · rw [List.length_append, l4]
          rfl
    · rintro H3 σ' H4 e3 ⟨e4, k4, u5, xs4, ls, rfl, hl4, d4, l4⟩
      have l4 : ls.length = 12 := l4
      have ok4 := ok.ex e4
      have hv4 : Dt K M H4 v (tupI pl) := dt_any (hv.ex e4)
      have hpll : (pl.map PyData.int).length = pl.length := List.length_map _
      have hll : Dt K M H4 (.ref l) (.list (ls.map tupI)) := .lst hl4 (fun m => ok l m hlH) (dts_any d4)
      refine s_retP (K := K) (M := M) (evd_cat ok4 (evd_var rfl hll) (evd_lst ok4 (eva_cons (evd_catA (evd_slT (ds := pl.map PyData.int) (evd_var (d := tupI pl) rfl hv4) evo_none (evo_some (evd_var rfl (.int (spot : Int)))))
          (evd_repT (ds := [.int 0]) (k := 50) (evd_tup (eva_cons evd_int eva_nil) (by show 1 ≤ sizeLine; decide)) evd_int (by simp) (by decide) (by decide) (by show 1 ≤ 1000; decide)) ?_) eva_nil) (by show 1 ≤ sizeLine; decide)) ?_) fun u d H5 e5 du pd => ?_
      · rw [cutG_to _ spot (by rw [hpll]; exact hsp), List.length_take, hpll]
        show _ + 50 ≤ _
        omega
      · rw [List.length_map, l4]
        show 12 + 1 ≤ sizeLine
        decide
      · subst pd
        refine q u (ls ++ [pl.take spot ++ (List.replicate 50 (0 : Int))]) H5 (e4.trans e5) ?_ (by rw [List.length_append, l4]; rfl)
        have e0 : PyData.tuple (cutG (pl.map PyData.int) none (some (spot : Int)) ++ (List.replicate (50 : Int).toNat [PyData.int 0]).flatten) = tupI (pl.take spot ++ List.replicate 50 (0 : Int)) := by
          rw [cutG_to _ spot (by rw [hpll]; exact hsp)]
          unfold tupI
          rw [List.map_append, List.map_take]
          rfl
        rw [e0] at du
        rw [List.map_append]
        exact du
end
end TH
set_option maxRecDepth 100000
set_option maxHeartbeats 4000000
namespace TH
open PySem L2 Evl LamX
section
variable {K : PySem.W.Frag} {M M' : Addr → Prop} {H H1 H' : Hp} {σ : L2.St} {ta tb te tc td tv tm : TE} {D : Ends} {tz : TS} {E : XK} {S : List Sg} {C CT CP p b : Addr}
theorem evp_lrow {mx : Nat} (ok : Ok M H) (hb : Ev tb σ H (.ref b)) (hx : H b = some (Box b)) (hv : EvD K M tv σ H (.list (S.map sgD))) (g : Good S) (hm : EvP K M tm σ H (fun d => ∃ m : Nat, d = .int (m : Int) ∧ 1 ≤ m ∧ m ≤ mx)) (hmx : mx ≤ 1000) :
    EvP K M (tCall (spLRow K) [] E (tCons tb (tCons tv (tCons tm tNil)))) σ H (fun d => ∃ t, d = rowD t ∧ OkT S t ∧ t.size ≤ mx) := fun H1 e Q q =>
  hb H1 e _ fun H2 e2 => hv H2 (e.trans e2) _ fun v d H3 e3 dv pd => hm H3 ((e.trans e2).trans e3) _ fun vm dm H4 e4 dvm pm => by
    subst pd
    obtain ⟨m, rfl, m1, m2⟩ := pm
    cases dvm
    have e04 := ((e.trans e2).trans e3).trans e4
    exact ⟨M, b, v, S, m, rfl, ok.ex e04, e04 _ _ hx, dv.ex e4, g, m1, by omega, fun u t H5 e5 hO hs du => q u _ H5 (((e2.trans e3).trans e4).trans e5) (dt_any du) ⟨t, rfl, hO, by omega⟩⟩
theorem evd_at {t u : Tr} {ns : List Int} {n : Nat} (ha : Ev ta σ H (.ref p)) (hB : BookAt C MF H p S) (hK : KidsOk S) (hb : EvD K MF tb σ H (rowD t)) (hc : EvD K MF tc σ H (tupI ns)) (hO : OkT S t) (h40 : t.size ≤ 40) (hf : findP t ns = some (n, u)) :
    EvD K MF (tCall (spAt K C CT CP) [] E (tCons ta (tCons tb (tCons tc tNil)))) σ H (rowD u) := fun H1 e Q q =>
  ha H1 e _ fun H2 e2 => hb H2 (e.trans e2) _ fun v d H3 e3 dv pd => hc H3 ((e.trans e2).trans e3) _ fun vm dm H4 e4 dvm pm => by
    subst pd pm
    have e04 := ((e.trans e2).trans e3).trans e4
    refine ⟨p, v, vm, S, _, ns, rfl, hB.ex e04, hK, dv.ex e4, dvm, fun h => ?_, fun _ => ⟨t, hO, rfl, h40, fun n' u' h x H5 e5 dx => ?_, fun h => ?_⟩⟩
    · rw [treeB_row hO h40] at h
      cases h
    · rw [hf] at h
      cases h
      exact q x _ H5 (((e2.trans e3).trans e4).trans e5) dx rfl
    · rw [hf] at h
      cases h
theorem evd_put {t u o : Tr} {ns : List Int} {n : Nat} (ha : Ev ta σ H (.ref p)) (hB : BookAt C MF H p S) (hK : KidsOk S) (hb : EvD K MF tb σ H (rowD t)) (hc : EvD K MF tc σ H (tupI ns)) (hd : EvD K MF td σ H (rowD o)) (hO : OkT S t) (h40 : t.size ≤ 40) (hOo : OkT S o) (ho40 : o.size ≤ 40) (hf : findP t ns = some (n, u)) :
    EvD K MF (tCall (spPut K C CT CP) [] E (tCons ta (tCons tb (tCons tc (tCons td tNil))))) σ H (tupI (ofN (t.row.take n ++ o.row ++ t.row.drop (n + u.size)))) := fun H1 e Q q =>
  ha H1 e _ fun H2 e2 => hb H2 (e.trans e2) _ fun v d H3 e3 dv pd => hc H3 ((e.trans e2).trans e3) _ fun vm dm H4 e4 dvm pm => hd H4 (((e.trans e2).trans e3).trans e4) _ fun vo do' H5 e5 dvo po => by
    subst pd pm po
    have e05 := (((e.trans e2).trans e3).trans e4).trans e5
    refine ⟨p, v, vm, vo, S, _, ns, _, rfl, hB.ex e05, hK, dv.ex (e4.trans e5), dvm.ex e5, dvo, fun h => ?_, fun _ => ⟨t, hO, rfl, h40, fun n' u' h => ⟨fun h' => ?_, fun _ => ⟨o, hOo, rfl, ho40, fun x H6 e6 dx => ?_⟩⟩, fun h => ?_⟩⟩
    · rw [treeB_row hO h40] at h
      cases h
    · rw [treeB_row hOo ho40] at h'
      cases h'
    · rw [hf] at h
      cases h
      exact q x _ H6 ((((e2.trans e3).trans e4).trans e5).trans e6) dx rfl
    · rw [hf] at h
      cases h
/-- lists of places -/
def placesP (n : Nat) : PyData → Prop := fun d => ∃ ls : List (List Int), d = .list (ls.map tupI) ∧ ls.length ≤ n
theorem evp_catL {n m k : Nat} (ok : Ok M H) (ha : EvP K M ta σ H (placesP n)) (hb : EvP K M tb σ H (placesP m)) (hk : n + m ≤ k) (hk2 : k ≤ 1000) : EvP K M (tOp rCat ta tb) σ H (placesP k) :=
  evp_op ha hb fun x y a b H1 e dx dy px py Q q => by
    obtain ⟨ls, rfl, hl⟩ := px
    obtain ⟨ms, rfl, hm⟩ := py
    cases dx with
    | lst h1 h2 h3 =>
      cases dy with
      | lst k1 k2 k3 =>
        refine ⟨_, _, _, _, rfl, rfl, h1, k1, by rw [h3.length, k3.length, List.length_map, List.length_map]; exact Nat.le_trans (show _ ≤ 1000 by omega) (by decide), fun p hp => q _ _ _ (Ex.new hp) (.lst upd_same ((ok.ex e).new hp) ((h3.append k3).ex (Ex.new hp))) ⟨ls ++ ms, ?_, ?_⟩⟩
        · rw [List.map_append]
        · rw [List.length_append]
          omega
theorem evp_bentP (ok : Ok M H) (hb : Ev tb σ H (.ref b)) (hx : H b = some (Box b)) (hv : EvP K M tv σ H (fun d => ∃ pl : List Int, d = tupI pl ∧ pl.length ≤ 1000)) :
    EvP K M (tCall (spBentP K) [] E (tCons tb (tCons tv tNil))) σ H (placesP 13) := fun H1 e Q q =>
  hb H1 e _ fun H2 e2 => hv H2 (e.trans e2) _ fun v d H3 e3 dv pd => by
    obtain ⟨pl, rfl, hpl⟩ := pd
    have e03 := (e.trans e2).trans e3
    exact ⟨M, b, v, pl, rfl, ok.ex e03, e03 _ _ hx, dt_any dv, hpl, fun u ls H4 e4 du hl => q u _ H4 ((e2.trans e3).trans e4) du ⟨ls, rfl, Nat.le_of_eq hl⟩⟩
theorem evd_revL {ds : List PyData} (ok : Ok M H) (ha : EvD K M ta σ H (.list ds)) : EvD K M (tRevL K ta) σ H (.list ds.reverse) := fun H1 e Q q =>
  ha H1 e _ fun v d H2 e2 dv pd => by
    subst pd
    cases dv with
    | lst h1 h2 h3 => exact ⟨_, _, rfl, sq_of h1, fun p hp => q _ _ _ (e2.trans (Ex.new hp)) (.lst upd_same ((ok.ex (e.trans e2)).new hp) (h3.reverse.ex (Ex.new hp))) rfl⟩
end
theorem s_forLT {K : PySem.W.Frag} {H : Hp} {σ : L2.St} {D : Ends} {tl : TE} {j : Nat} {ls : List (List Int)} {tu : TS} (hl : EvD K MF tl σ H (.list (ls.map tupI))) (Pv : Hp → Nat → L2.St → Hp → Prop) (h0 : ∀ H1, Ex H H1 → Pv H1 0 σ H1)
    (hk : ∀ H1 i σ' H', Ex H H1 → Pv H1 i σ' H' → ExtN H1 H')
    (hs : ∀ H1 i pl y σ' H', Ex H H1 → ls[i]? = some pl → Pv H1 i σ' H' → Dt K MF H' y (tupI pl) → tu { D with nx := Pv H1 (i + 1), ct := Pv H1 (i + 1), bk := D.nx } (σ'.set j (some y)) H') (hd : ∀ H1 σ' H', Ex H H1 → Pv H1 ls.length σ' H' → D.nx σ' H') :
    tFor (iList K tl) (gName j) tu D σ H := by
  refine hl.use fun v d H1 e1 dv hd' => ?_
  subst hd'
  cases dv with
  | lst a1 a2 a3 =>
  rename_i a xs
  have hlen : xs.length = ls.length := by rw [a3.length, List.length_map]
  refine ⟨a, rfl, ⟨_, sq_of a1⟩, for_list (K := K) (a := a) (xs := xs) (Pv H1) (h0 H1 e1) (fun i σ' H' _ p => extn_sql (hk H1 i σ' H' e1 p) (sq_of a1)) (fun i x σ' H' hx p => ?_) fun σ' H' p => hd H1 σ' H' e1 (by rw [hlen] at p; exact p)⟩
  obtain ⟨d, hd1, dx⟩ := a3.get hx
  rw [List.getElem?_map] at hd1
  cases hz : ls[i]? with
  | none =>
    rw [hz] at hd1
    cases hd1
  | some pl =>
    rw [hz] at hd1
    cases hd1
    exact hs H1 i pl x σ' H' e1 hz p (dt_extn dx (hk H1 i σ' H' e1 p))
theorem put_row {t o : Tr} {n m : Nat} (h : n + m ≤ t.size) : PyData.tuple (cutG ((ofN t.row).map PyData.int) none (some (n : Int)) ++ (ofN o.row).map PyData.int ++ cutG ((ofN t.row).map PyData.int) (some ((n + m : Nat) : Int)) none) = tupI (ofN (t.row.take n ++ o.row ++ t.row.drop (n + m))) := by
  have hl1 : ((ofN t.row).map PyData.int).length = t.size := by rw [List.length_map, ofN_len]; rfl
  rw [cutG_to _ n (by rw [hl1]; omega), cutG_from _ _ (by rw [hl1]; exact h)]
  unfold tupI ofN
  simp only [List.map_append, List.map_take, List.map_drop]
/-! ### the dict of the places -/
def pairD (e : Line) : PyData := .tuple [tupI e.1, .tuple [.int (e.2.1 : Int), .int ((e.2.1 + e.2.2.size : Nat) : Int)]]
/-- an entry of the dict for a line -/
def EntOf (H : Hp) (q : List Key × Addr × V) (e : Line) : Prop := q.1 = e.1.map Sum.inl ∧ ∃ p : Addr, q.2.2 = .ref p ∧ H p = some (.tup [.int (e.2.1 : Int), .int ((e.2.1 + e.2.2.size : Nat) : Int)])
theorem kV_ints (pl : List Int) : ((pl.map Sum.inl : List Key)).map kV = pl.map V.int := by
  rw [List.map_map]
  rfl
theorem pairs_of_dts {K : PySem.W.Frag} {M : Addr → Prop} {H : Hp} : ∀ {L : List Line} {xs : List V}, Dts K M H xs (L.map pairD) →
    ∃ (ps : List Addr) (kvs : List (List Key × Addr × V)), xs = ps.map V.ref ∧ Paired (fun p q => H p = some (.tup [.ref q.2.1, q.2.2]) ∧ H q.2.1 = some (.tup (q.1.map kV))) ps kvs ∧ Paired (EntOf H) kvs L
  | [], _, .nil => ⟨[], [], rfl, .nil, .nil⟩
  | e :: L, _, .cons h t => by
    obtain ⟨ps, kvs, rfl, h1, h2⟩ := pairs_of_dts t
    cases h with
    | tup g1 g2 =>
    rename_i a xs0
    cases g2 with
    | cons r1 g2 =>
    cases g2 with
    | cons r2 g2 =>
    cases g2
    obtain ⟨kb, rfl, hkb⟩ := dt_tupS r1
    cases r2 with
    | tup w1 w2 =>
    rename_i p zs
    cases w2 with
    | cons s1 w2 =>
    cases w2 with
    | cons s2 w2 =>
    cases w2
    cases s1
    cases s2
    exact ⟨a :: ps, (e.1.map Sum.inl, kb, .ref p) :: kvs, rfl, .cons ⟨g1, by rw [kV_ints]; exact hkb⟩ h1, .cons ⟨rfl, p, rfl, w1⟩ h2⟩
theorem EvNew.mono {K : PySem.W.Frag} {M : Addr → Prop} {te : TE} {σ : L2.St} {H : Hp} {P P' : List PyData → Prop} (h : EvNew K M te σ H P) (k : ∀ ds, P ds → P' ds) : EvNew K M te σ H P' := fun H1 e Q q => h H1 e Q fun l xs ds H2 h1 h2 h3 h4 h5 => q l xs ds H2 h1 h2 h3 h4 (k ds h5)
theorem ent_ex {H H' : Hp} (e : Ex H H') : ∀ {kvs : List (List Key × Addr × V)} {L : List Line}, Paired (EntOf H) kvs L → Paired (EntOf H') kvs L
  | _, _, .nil => .nil
  | _, _, .cons h t => by
    obtain ⟨h1, p, h2, h3⟩ := h
    exact .cons ⟨h1, p, h2, e _ _ h3⟩ (ent_ex e t)
theorem ent_extn {H H' : Hp} (e : ExtN H H') : ∀ {kvs : List (List Key × Addr × V)} {L : List Line}, Paired (EntOf H) kvs L → Paired (EntOf H') kvs L
  | _, _, .nil => .nil
  | _, _, .cons h t => by
    obtain ⟨h1, p, h2, h3⟩ := h
    exact .cons ⟨h1, p, h2, e _ _ h3 fun ps z => by cases z⟩ (ent_extn e t)
theorem q_asgDict {K : PySem.W.Frag} {M : Addr → Prop} {te : TE} {σ : L2.St} {H : Hp} {D : Ends} {tz : TS} {i : Nat} {L : List Line} (h : EvNew K M te σ H (· = L.map pairD))
    (k : ∀ kd kvs H1, Ex H H1 → H1 kd = some (.dT (mergeT [] kvs)) → Paired (EntOf H1) kvs L → tz D (σ.set i (some (.ref kd))) H1) : tSeq (tAsg (tCB (rDictT K) (tCons te tNil)) (gName i)) tz D σ H :=
  h H (Ex.refl H) _ fun l xs ds H2 hl e2 hl2 dxs pds => by
    subst pds
    obtain ⟨ps, kvs, rfl, h1, h2⟩ := pairs_of_dts dxs
    exact ⟨l, ps, kvs, rfl, sq_of hl2, h1, fun p hp => k p kvs _ (e2.trans (Ex.new hp)) upd_same (ent_ex (Ex.new hp) h2)⟩
theorem mergeT_some {k : List Key} {v : V} : ∀ {kvs : List (List Key × Addr × V)} {acc : List (List Key × V)}, valV (mergeT acc kvs) k = some v → (∃ q ∈ kvs, q.1 = k ∧ q.2.2 = v) ∨ valV acc k = some v
  | [], acc, h => .inr h
  | q :: kvs, acc, h => by
    have h : valV (mergeT (putK acc q.1 q.2.2) kvs) k = some v := h
    rcases mergeT_some h with ⟨r, hr, e⟩ | h
    · exact .inl ⟨r, List.mem_cons_of_mem _ hr, e⟩
    · rw [valV_put] at h
      split at h
      · rename_i e
        exact .inl ⟨q, List.mem_cons_self, e.symm, Option.some.inj h⟩
      · exact .inr h
theorem mergeT_mem {k : List Key} : ∀ {kvs : List (List Key × Addr × V)} {acc : List (List Key × V)}, (valV acc k ≠ none ∨ ∃ q ∈ kvs, q.1 = k) → valV (mergeT acc kvs) k ≠ none
  | [], acc, h => by
    rcases h with h | ⟨q, hq, _⟩
    · exact h
    · cases hq
  | q :: kvs, acc, h => by
    show valV (mergeT (putK acc q.1 q.2.2) kvs) k ≠ none
    refine mergeT_mem ?_
    by_cases e : k = q.1
    · refine .inl ?_
      rw [valV_put, if_pos e]
      simp
    · rcases h with h | ⟨r, hr, er⟩
      · refine .inl ?_
        rw [valV_put, if_neg e]
        exact h
      · rcases List.mem_cons.mp hr with rfl | hr
        · exact absurd er.symm e
        · exact .inr ⟨r, hr, er⟩
theorem paired_left {α β : Type} {R : α → β → Prop} : ∀ {as : List α} {bs : List β}, Paired R as bs → ∀ a ∈ as, ∃ b ∈ bs, R a b
  | _, _, .nil, a, h => by cases h
  | _, _, .cons h t, a, ha => by
    rcases List.mem_cons.mp ha with rfl | ha
    · exact ⟨_, List.mem_cons_self, h⟩
    · obtain ⟨b, hb, r⟩ := paired_left t a ha
      exact ⟨b, List.mem_cons_of_mem _ hb, r⟩
theorem paired_right {α β : Type} {R : α → β → Prop} : ∀ {as : List α} {bs : List β}, Paired R as bs → ∀ b ∈ bs, ∃ a ∈ as, R a b
  | _, _, .nil, b, h => by cases h
  | _, _, .cons h t, b, hb => by
    rcases List.mem_cons.mp hb with rfl | hb
    · exact ⟨_, List.mem_cons_self, h⟩
    · obtain ⟨a, ha, r⟩ := paired_right t b hb
      exact ⟨a, List.mem_cons_of_mem _ ha, r⟩
/-- what the dict tells of a place -/
theorem dict_some {H : Hp} {t : Tr} {L : List Line} {kvs : List (List Key × Addr × V)} {pl : List Int} {v : V} (full : Full t L) (hp : Paired (EntOf H) kvs L) (h : valV (mergeT [] kvs) (pl.map Sum.inl) = some v) :
    ∃ (n : Nat) (u : Tr) (p : Addr), findP t pl = some (n, u) ∧ v = .ref p ∧ H p = some (.tup [.int (n : Int), .int ((n + u.size : Nat) : Int)]) := by
  rcases mergeT_some h with ⟨q, hq, e1, e2⟩ | h
  · obtain ⟨e, he, r1, p, r2, r3⟩ := paired_left hp q hq
    have e3 : pl = e.1 := by
      rw [r1] at e1
      have hinj : ∀ xs ys : List Int, (xs.map Sum.inl : List Key) = ys.map Sum.inl → xs = ys := by
        intro xs
        induction xs with
        | nil =>
          intro ys h
          cases ys with
          | nil => rfl
          | cons y ys => cases h
        | cons x xs ih =>
          intro ys h
          cases ys with
          | nil => cases h
          | cons y ys =>
            rw [List.map_cons, List.map_cons] at h
            injection h with h1 h2
            injection h1 with h1
            rw [h1, ih ys h2]
      exact (hinj _ _ e1).symm
    refine ⟨e.2.1, e.2.2, p, ?_, by rw [← e2]; exact r2, r3⟩
    rw [e3]
    exact full.ok e he
  · cases h
theorem dict_none {H : Hp} {t : Tr} {L : List Line} {kvs : List (List Key × Addr × V)} {pl : List Int} (full : Full t L) (hp : Paired (EntOf H) kvs L) (h : valV (mergeT [] kvs) (pl.map Sum.inl) = none) : findP t pl = none := by
  cases hf : findP t pl with
  | none => rfl
  | some r =>
    obtain ⟨n, u⟩ := r
    obtain ⟨q, hq, r1, _⟩ := paired_right hp _ (full.all pl n u hf)
    exact absurd h (mergeT_mem (.inr ⟨q, hq, r1⟩))
end TH
set_option maxRecDepth 100000
set_option maxHeartbeats 4000000
namespace TH
open PySem L2 Evl LamX
abbrev sLaw : Stmt := top 45
/-- the lambdas' name -/
def qLam : Str := (PyProof.Rows.envOfC "law" (defScope sLaw) 0 0 .none).qual ++ "<lambda>"
/-- a list of at most 63 ints is handed in, True comes out -/
def spLaw (K : PySem.W.Frag) (Pt : Addr) : Sp := fun vs H Q _ => ∃ (a : Addr) (ns : List Int), vs = [.ref a] ∧ SqL K H a (ns.map V.int) ∧ ns.length ≤ 63 ∧ H Pt = some (.tbl #[]) ∧ ∀ H', Q (.bl true) H'
structure GlobW (mg : Str → Option Value) : Prop extends GlobL mg where
  max : mg "max" = none
  dict : mg "dict" = none
section
variable {P : Program} {w : World} {K : PySem.W.Frag} {mg : Str → Option Value} {base : Heap}
abbrev nLaw : List Str := ["_law_script", "_law_k", "_law_box_here", "_law_signs_here", "_law_book", "_law_row_here", "_law_other", "_law_lines_here", "_law_known", "_law_some", "_law_place", "_law_begin", "_law_stop", "_law_turn"]
theorem scLaw : FnScope nLaw ["_law_script"] (defScope sLaw) := ⟨rfl, rfl, rfl, by decide +kernel, rfl, by decide +kernel, by decide +kernel⟩
theorem ok_law {f cL Pt C CN CT CP CH : Addr} {Cs : Nat → Addr} {oc : Value} {od an : Option Addr} {osl : Array (Option Value)} {kV doc pm ct : Value}
    (lk : K.lookup f = some ⟨oc, od, .func (PySem.W.fnOf "law" "law" (defArgs sLaw) (defBody sLaw) (defScope sLaw) .none kV doc pm an (.ref cL) ct), osl⟩) (hcd : PySem.W.codeIn K (.ref cL) "law" = true)
    (G : GlobW mg) (TB : TabB base mg cL Pt)
    (GX : OneF P w K mg base "_law_box" 1 ["_law_script", "_law_k"] (spBox K)) (GT : OneF P w K mg base "_law_take" 2 ["_law_box_here", "_law_count"] spTake) (GS : OneF P w K mg base "_law_signs" 3 ["_law_box_here"] (spSigns K))
    (GR : OneF P w K mg base "_law_row" 3 ["_law_box_here", "_law_signs_here", "_law_most"] (spLRow K)) (GL : OneF P w K mg base "_law_lines" 2 ["_law_signs_here", "_law_row_here"] (spLines K))
    (GB : OneF P w K mg base "_law_bent" 3 ["_law_box_here", "_law_place"] (spBentP K))
    (GA : OneX P w K mg base "at" 5 ["book", "tree", "place"] (spAt K C CT CP)) (GP : OneX P w K mg base "put" 5 ["book", "tree", "place", "other"] (spPut K C CT CP)) (T : BookT K mg C)
    {fI : Addr} {fdI : FuncData} (mk : Mk K C fI) (GI : FnOk P w K mg base (L2.CX P w) 4 fI fdI ["self", "signs"] (spInit K C CN)) (bI : Binds K fdI ["self", "signs"] [])
    (KG : KindG mg CH Cs) (KT : KindT K CH Cs CP 2)
    {fK : Addr} {ocK : Value} {odK anK : Option Addr} {oslK : Array (Option Value)} {kVK docK pmK cdK ctK : Value}
    (mK : mg "_law_kind" = some (.ref fK)) (kK : PySem.W.keepIn K (.ref fK) = true)
    (lkK : K.lookup fK = some ⟨ocK, odK, .func (PySem.W.fnOf "_law_kind" "_law_kind" (defArgs sKind) (defBody sKind) (defScope sKind) .none kVK docK pmK anK cdK ctK), oslK⟩) (hcK : PySem.W.codeIn K cdK "_law_kind" = true) :
    FnOk P w K mg base CX0 8 f (PySem.W.fnOf "law" "law" (defArgs sLaw) (defBody sLaw) (defScope sLaw) .none kV doc pm an (.ref cL) ct) ["_law_script"] (spLaw K Pt) := by
  obtain ⟨fX, dX, mX, kX, gX, bX⟩ := GX
  obtain ⟨fT, dT, mT, kT, gT, bT⟩ := GT
  obtain ⟨fS, dS, mS, kS, gS, bS⟩ := GS
  obtain ⟨fR, dR, mR, kR, gR, bR⟩ := GR
  obtain ⟨fL, dL, mL, kL, gL, bL⟩ := GL
  obtain ⟨fB, dB, mB, kB, gB, bB⟩ := GB
  obtain ⟨fA, dA, mA, kA, gA, bA⟩ := GA
  obtain ⟨fP, dP, mP, kP, gP, bP⟩ := GP
  have bK : Binds K (PySem.W.fnOf "_law_kind" "_law_kind" (defArgs sKind) (defBody sKind) (defScope sKind) .none kVK docK pmK anK cdK ctK) ["_law_call"] [] :=
    (fun_mk (st := sKind) lkK hcK kK).binds (ps := ["_law_call"]) fun _ _ _ _ _ _ us hl => match us, hl with | [_], _ => rfl
  refine fn_of lk hcd scLaw (fun vs H Q E h => ?_) fun A outer s H vs Q E hr h => ?_
  · obtain ⟨a, ns, rfl, _⟩ := h
    rfl
  · obtain ⟨a, ns, rfl, hS, hlen, hP, q⟩ := h
    have hr1 : Room 1 _ := hr.mono (show 1 ≤ 7 by decide)
    have hr2 : Room 2 _ := hr.mono (show 2 ≤ 7 by decide)
    have hr3 : Room 3 _ := hr.mono (show 3 ≤ 7 by decide)
    have hr5 : Room 5 _ := hr.mono (show 5 ≤ 7 by decide)
    have hu := hu64 hr
    have hu1 := hu_of hr
    have fin : ∀ {t}, PSs (cxOf CX0 P w K mg base nLaw "law" (defScope sLaw) f (.ref cL) A outer s H E).nox (defBody sLaw) t → t { nx := fun _ H' => Q .non H', rt := Q } (start nLaw [.ref a]) H →
        ∃ t, PSs (cxOf CX0 P w K mg base nLaw "law" (defScope sLaw) f (.ref cL) A outer s H E) (defBody sLaw) t ∧ t { nx := fun _ H' => Q .non H', rt := Q } (start nLaw [.ref a]) H := fun h1 h2 => ⟨_, h1.nox, h2⟩
    refine fin (pss_cons (ps_for PassesOwn.never rfl (pi_range1 rfl G.range (pa_cons (pe_callB (call_max2 rfl) (by rfl) G.max (by decide +kernel) (pa_cons pe_int (pa_cons (pe_callB (call_min2 rfl) (by rfl) G.min (by decide +kernel) (pa_cons (pe_callB call_len_seq (by rfl) G.len PySem.boot_len (pa_cons (pv 0) pa_nil)) (pa_cons pe_int pa_nil))) pa_nil))) pa_nil)) (pg_name (i := 1) scLaw.nd rfl (.inl rfl))
      (pss_cons (ps_set (i := 2) scLaw.nd rfl (.inr rfl) (pe_call gX hr1 rfl mX kX bX .nil pass0 (pa_cons (pv 0) (pa_cons (pv 1) pa_nil))))
      (pss_cons (ps_set (i := 3) scLaw.nd rfl (.inl rfl) (pe_call gS hr3 rfl mS kS bS .nil pass0 (pa_cons (pv 2) pa_nil)))
      (pss_cons (ps_set (i := 4) scLaw.nd rfl (.inr rfl) (pe_make mk GI hr5 rfl T.g bI .nil passL (pa_cons (pv 3) pa_nil)))
      (pss_cons (ps_set (i := 5) scLaw.nd rfl (.inr rfl) (pe_call gR hr3 rfl mR kR bR .nil pass0 (pa_cons (pv 2) (pa_cons (pv 3) (pa_cons (pe_ix ix_list (pe_lst (pa_cons pe_int (pa_cons pe_int (pa_cons pe_int pa_nil)))) (pe_call gT hr2 rfl mT kT bT .nil pass0 (pa_cons (pv 2) (pa_cons pe_int pa_nil))) (fun _ _ => rfl)) pa_nil)))))
      (pss_cons (ps_set (i := 6) scLaw.nd rfl (.inr rfl) (pe_call gR hr3 rfl mR kR bR .nil pass0 (pa_cons (pv 2) (pa_cons (pv 3) (pa_cons (pe_ix ix_list (pe_lst (pa_cons pe_int (pa_cons pe_int (pa_cons pe_int pa_nil)))) (pe_call gT hr2 rfl mT kT bT .nil pass0 (pa_cons (pv 2) (pa_cons pe_int pa_nil))) (fun _ _ => rfl)) pa_nil)))))
      (pss_cons (ps_set (i := 7) scLaw.nd rfl (.inr rfl) (pe_call gL hr2 rfl mL kL bL .nil pass0 (pa_cons (pv 3) (pa_cons (pv 5) pa_nil))))
      (pss_cons (ps_set (i := 8) scLaw.nd rfl (.inl rfl) (pe_callTy (call_dictT rfl hu) (by rfl) G.dict (by decide +kernel) (pa_cons (pe_lc (own := [("_law_place", 10), ("_law_begin", 11), ("_law_stop", 12)]) (tt := tYes) rfl scLaw.nd (pi_list (pv 7))
            (blkOk_by (N := nLaw) (sc := defScope sLaw) (by decide +kernel)) (fun _ _ _ _ _ => pg_tupK (K := K) (n := 3) rfl rfl (pgs_cons (pg_name (i := 10) scLaw.nd rfl (.inl rfl)) (pgs_cons (pg_name (i := 11) scLaw.nd rfl (.inl rfl)) (pgs_cons (pg_name (i := 12) scLaw.nd rfl (.inl rfl)) pgs_nil)))) (fun _ _ _ _ _ => pts_nil)
            (fun _ _ _ _ _ => pe_tup (pa_cons (pv 10) (pa_cons (pe_tup (pa_cons (pv 11) (pa_cons (pv 12) pa_nil))) pa_nil)))) pa_nil)))
      (pss_cons (ps_setLc (i := 9) (own := [("_law_turn", 13)]) (g := gName 13) (by rfl) scLaw.nd rfl rfl (sw_true rfl rfl rfl (by decide +kernel)) (pi_range1 rfl G.range (pa_cons pe_int pa_nil))
            (blkOk_by (N := nLaw) (sc := defScope sLaw) (by decide +kernel)) (fun _ _ _ _ _ => pg_name (i := 13) scLaw.nd rfl (.inl rfl)) (fun _ _ _ _ _ => pts_nil)
            (fun _ _ _ _ _ => pe_ix (ix_tupK (K := K) rfl) (pe_ix (ix_listK (K := K) rfl) (pv 7) (pe_call gT hr2 rfl mT kT bT .nil pass0 (pa_cons (pv 2) (pa_cons (pe_callB (call_len_seqK (K := K) rfl) (by rfl) G.len PySem.boot_len (pa_cons (pv 7) pa_nil)) pa_nil))) (fun _ _ => rfl)) pe_int (fun _ _ => rfl)))
      (pss_cons (ps_set (i := 9) scLaw.nd rfl (.inl rfl) (pe_op op_cat (pe_op op_cat (pe_op op_cat (pe_lst (pa_cons (pe_tup pa_nil) pa_nil)) (pv 9)) (pe_call gB hr3 rfl mB kB bB .nil pass0 (pa_cons (pv 2) (pa_cons (pe_ix ix_list (pv 9) pe_int (fun _ _ => rfl)) pa_nil))))
            (pe_call gB hr3 rfl mB kB bB .nil pass0 (pa_cons (pv 2) (pa_cons (pe_ix ix_list (pv 9) pe_int (fun _ _ => rfl)) pa_nil)))))
      (pss_one (ps_for PassesOwn.never rfl (pi_list (pe_op op_cat (pv 9) (pe_revL (pv 9)))) (pg_name (i := 10) scLaw.nd rfl (.inr rfl))
          (pss_one (ps_if (pt_cmp (pc_din hu1 (pv 10) (pv 8)))
            (pss_cons (ps_asg (pe_dget hu1 (pv 8) (pv 10) (fun _ _ => rfl)) (pg_tup rfl (pgs_cons (pg_name (i := 11) scLaw.nd rfl (.inl rfl)) (pgs_cons (pg_name (i := 12) scLaw.nd rfl (.inl rfl)) pgs_nil))))
            (pss_cons (ps_if (pt_cmpR (op_neD hu) (pe_call gA hr5 rfl mA kA bA .nil passL (pa_cons (pv 4) (pa_cons (pv 5) (pa_cons (pv 10) pa_nil)))) (pe_slice sl_tupA (pv 5) (po_some (pv 11)) (po_some (pv 12))) (nomark _)) (pss_one (ps_ret pe_bl)) pss_nil)
            (pss_one (ps_if (pt_cmpR (op_neD hu) (pe_call gP hr5 rfl mP kP bP .nil passL (pa_cons (pv 4) (pa_cons (pv 5) (pa_cons (pv 10) (pa_cons (pv 6) pa_nil)))))
                (pe_op op_catA (pe_op op_catA (pe_slice sl_tupA (pv 5) po_none (po_some (pv 11))) (pv 6)) (pe_slice sl_tupA (pv 5) (po_some (pv 12)) po_none)) (nomark _)) (pss_one (ps_ret pe_bl)) pss_nil))))
            (pss_one (ps_if (pt_cmpR op_ne (pe_lamcall (k := 5) (T := [(Pt, qLam)]) (TT := TKind K CH Cs) (t := fun E => tCall (spAt K C CT CP) [] E (tCons (tVar 4) (tCons (tVar 5) (tCons (tVar 10) tNil)))) rfl mK kK lkK hcK bK scKind rfl (.inl rfl) (kind_gives KG) TB rfl (by exact List.mem_singleton.mpr rfl) (fun p hp _ => by rw [List.mem_singleton.mp hp]; rfl) hr
                (by exact lamS_by (sc := defScope sLaw) (by decide +kernel)) rfl (fun _ _ _ _ _ => rfl)
                (fun A outer s H E f c' hr2 => pe_call gA hr2 rfl mA kA bA .nil (passes_call (takes_of rfl rfl rfl rfl) (fun _ _ _ _ h => h)) (pa_cons (pv 4) (pa_cons (pv 5) (pa_cons (pv 10) pa_nil))))) pe_str (nomark _)) (pss_one (ps_ret pe_bl))
              (pss_one (ps_if (pt_cmpR op_ne (pe_lamcall (k := 5) (T := [(Pt, qLam)]) (TT := TKind K CH Cs) (t := fun E => tCall (spPut K C CT CP) [] E (tCons (tVar 4) (tCons (tVar 5) (tCons (tVar 10) (tCons (tVar 6) tNil))))) rfl mK kK lkK hcK bK scKind rfl (.inl rfl) (kind_gives KG) TB rfl (by exact List.mem_singleton.mpr rfl) (fun p hp _ => by rw [List.mem_singleton.mp hp]; rfl) hr
                  (by exact lamS_by (sc := defScope sLaw) (by decide +kernel)) rfl (fun _ _ _ _ _ => rfl)
                  (fun A outer s H E f c' hr2 => pe_call gP hr2 rfl mP kP bP .nil (passes_call (takes_of rfl rfl rfl rfl) (fun _ _ _ _ h => h)) (pa_cons (pv 4) (pa_cons (pv 5) (pa_cons (pv 10) (pa_cons (pv 6) pa_nil)))))) pe_str (nomark _)) (pss_one (ps_ret pe_bl)) pss_nil))))))))))))))))))
    (pss_one (ps_ret pe_bl))) ?_
    have hl63 : (ns.map V.int).length ≤ 63 := by rw [List.length_map]; exact hlen
    refine ⟨_, rfl, _, _, rfl, .inl hS, _, _, rfl, _, _, rfl, _, rfl, ?_, ?_, ?_⟩
    · split <;> split <;> omega
    · split <;> split <;> omega
    have hnt : ∀ z : Int, z = (if (if (3 : Int) < ((ns.map V.int).length : Int) then 3 else ((ns.map V.int).length : Int)) > 1 then (if (3 : Int) < ((ns.map V.int).length : Int) then 3 else ((ns.map V.int).length : Int)) else 1) → z ≤ 3 := by
      intro z hz
      rw [hz]
      split <;> split <;> omega
    have hnt := hnt _ rfl
    generalize (if (if (3 : Int) < ((ns.map V.int).length : Int) then 3 else ((ns.map V.int).length : Int)) > 1 then (if (3 : Int) < ((ns.map V.int).length : Int) then 3 else ((ns.map V.int).length : Int)) else 1) = nt at hnt ⊢
    refine for_range (lo := 0) (n := nt.toNat) (fun i σ' H' => ExtN H H' ∧ Tabs [(Pt, qLam)] H' ∧ ∃ u1 u2 u3 u4 u5 u6 u7 u8 u9 u10 u11 u12 u13, σ' = [some (.ref a), u1, u2, u3, u4, u5, u6, u7, u8, u9, u10, u11, u12, u13])
      ⟨ExtN.refl H, fun p hp => by rw [List.mem_singleton.mp hp]; exact TabS.nil hP, _, _, _, _, _, _, _, _, _, _, _, _, _, rfl⟩ ?_ (fun σ' H' ⟨_, _, u1, u2, u3, u4, u5, u6, u7, u8, u9, u10, u11, u12, u13, e⟩ => q H')
    rintro i σ' Hi hi ⟨eN, tB, u1, u2, u3, u4, u5, u6, u7, u8, u9, u10, u11, u12, u13, rfl⟩
    -- the box, the signs, the book
    refine q_asgR ⟨_, rfl, _, rfl, a, ns, _, rfl, extn_sql eN hS, by omega, by omega, fun b H1 hb e1 hbox => ?_⟩
    refine q_asgR ⟨_, rfl, b, rfl, hbox, fun l xs S H2 gS e2 hl hxs dS => ?_⟩
    have sS := gS.toGood0.sane
    have hsg : Dt K MF H2 (.ref l) (.list (S.map sgD)) := .lst hxs (fun z => z) dS.flat
    refine q_asgR (make_book (M := MF) okF (evd_var rfl hsg) (valid_good gS) sS.len (fun q hq => Nat.le_trans (sS.name q hq) (by decide)) fun x H3 e3 hB => ?_)
    have e23 := e2.trans e3
    have hbox3 := e23 _ _ hbox
    have hsg3 := hsg.ex e3
    have sizes : ∀ {σ : L2.St} {H' : Hp}, σ[2]? = some (some (.ref b)) → H' b = some (Box b) → EvP K MF (tOp (rIxL K) (tLst (tCons (tC (.int 1)) (tCons (tC (.int 5)) (tCons (tC (.int 40)) tNil)))) (tCall spTake [] E0 (tCons (tVar 2) (tCons (tC (.int 3)) tNil)))) σ H' (fun d => ∃ m : Nat, d = .int (m : Int) ∧ 1 ≤ m ∧ m ≤ 40) := fun {σ H'} hs hb => by
      refine evp_op (evd_lst okF (eva_cons evd_int (eva_cons evd_int (eva_cons evd_int eva_nil))) (by show 3 ≤ sizeLine; decide)) (evp_take (ev_var hs) hb evd_int (by decide) (by decide)) fun x y a dd H7 e7 dx dy px py Q q => ?_
      obtain ⟨k, rfl, k0, k1⟩ := py
      subst px
      cases dy
      cases dx with
      | lst w1 w2 w3 =>
      have ew := Dts.ints [1, 5, 40] w3
      subst ew
      obtain ⟨n, rfl⟩ := Int.eq_ofNat_of_zero_le k0
      have hn : n = 0 ∨ n = 1 ∨ n = 2 := by omega
      rcases hn with rfl | rfl | rfl
      · exact ⟨_, _, _, _, rfl, rfl, sq_of w1, atI_nat (j := 0) rfl, q _ _ H7 (Ex.refl _) (.int _) ⟨1, rfl, by decide, by decide⟩⟩
      · exact ⟨_, _, _, _, rfl, rfl, sq_of w1, atI_nat (j := 1) rfl, q _ _ H7 (Ex.refl _) (.int _) ⟨5, rfl, by decide, by decide⟩⟩
      · exact ⟨_, _, _, _, rfl, rfl, sq_of w1, atI_nat (j := 2) rfl, q _ _ H7 (Ex.refl _) (.int _) ⟨40, rfl, by decide, by decide⟩⟩
    -- the two trees
    refine q_asgP (K := K) (M := MF) (evp_lrow okF (ev_var rfl) hbox3 (evd_var rfl hsg3) gS (sizes rfl hbox3) (by decide)) fun vr dr H4 e4 dvr pr => ?_
    obtain ⟨t, rfl, hO, h40⟩ := pr
    refine q_asgP (K := K) (M := MF) (evp_lrow okF (ev_var rfl) (e4 _ _ hbox3) (evd_var rfl (hsg3.ex e4)) gS (sizes rfl (e4 _ _ hbox3)) (by decide)) fun vo do' H5 e5 dvo po => ?_
    obtain ⟨o, rfl, hOo, ho40⟩ := po
    -- its places
    refine q_asgR ⟨_, rfl, _, rfl, MF, _, _, S, t, rfl, okF, hsg3.ex (e4.trans e5), gS.kidsOk, dvr.ex e5, hO, by omega, fun lk ys L H6 full hlk e6 hlk6 d6 => ?_⟩
    have hlin : Dt K MF H6 (.ref lk) (.list (L.map lineD)) := .lst hlk6 (fun z => z) d6.flat
    have hL1 : 1 ≤ L.length := by
      rw [full.len]
      exact Tr.size_pos t
    have hL2 : L.length ≤ 40 := by rw [full.len]; exact h40
    -- known
    have e36 := (e4.trans e5).trans e6
    refine q_asgDict (K := K) (M := MF) (L := L) ((evn_lcL (K := K) (M := MF) (fun _ => true) (fun d => match d with | .tuple [pl, n, m] => .tuple [pl, .tuple [n, m]] | _ => .none) okF (evd_var rfl hlin) (by rw [List.length_map]; exact Nat.lt_of_le_of_lt hL2 (by decide)) (fun M' d x' H' hm ok' hd e dx Qg qg => ?_)).mono fun ds h => ?_) fun kd kvs H7 e7 hkd hent => ?_
    · obtain ⟨ln, hln, rfl⟩ := List.mem_map.mp hd
      cases dx with
      | tup g1 g2 =>
      cases g2 with
      | cons r1 g2 =>
      cases g2 with
      | cons r2 g2 =>
      cases g2 with
      | cons r3 g2 =>
      cases g2
      cases r2
      cases r3
      refine ⟨_, _, rfl, SqT.of g1, rfl, _, _, rfl, _, _, rfl, _, _, rfl, rfl, qg _ H' (Ex.refl _) ⟨rfl, evt_yes, fun _ => ?_⟩⟩
      exact evd_tup (eva_cons (evd_var rfl r1) (eva_cons (evd_tup (eva_cons (evd_var rfl (.int _)) (eva_cons (evd_var rfl (.int _)) eva_nil)) (by show 2 ≤ sizeLine; decide)) eva_nil)) (by show 2 ≤ sizeLine; decide)
    · rw [h, filter_yes, List.map_map]
      rfl
    have e37 := e36.trans e7
    have hbox7 := e37 _ _ hbox3
    have hlin7 := hlin.ex e7
    -- some places
    refine q_asgP (K := K) (M := MF) (P := fun d => ∃ ls : List (List Int), d = .list (ls.map tupI) ∧ ls.length = 8 ∧ ∀ pl ∈ ls, pl.length ≤ 1000) ?_ fun vs ds H8 e8 dvs ps => ?_
    · refine (evp_lcR (K := K) (M := MF) (PN := fun n => n = 8) (fun _ => true) (fun _ d => ∃ pl : List Int, d = tupI pl ∧ pl.length ≤ 1000) okF ((eva_cons evd_int eva_nil).mono fun ds h => ⟨8, h, rfl⟩) (fun n hn => by omega) fun M' n j H' hm ok' pn hj e Qg qg => ?_).mono ?_
      · have hlin' : Dt K M' H' (.ref lk) (.list (L.map lineD)) := hm _ _ hlin7
        refine qg _ H' (Ex.refl _) ⟨rfl, evt_yes, fun _ => evp_op (PA := fun d => ∃ ln ∈ L, d = lineD ln) (evp_op (evd_var rfl hlin') (evp_take (n := (L.length : Int)) (ev_var rfl) (e _ _ hbox7) ((evd_lenL (es := L.map lineD) (eva_cons (evd_var rfl hlin') eva_nil)).mono fun d h => by rw [h, List.length_map]) (by omega) (Nat.lt_of_le_of_lt (show ((L.length : Nat) : Int).natAbs ≤ 40 by omega) (by decide))) fun x y a' dd H9 e9 dx dy px py Q q => ?_) evd_int fun x y a' dd H9 e9 dx dy px py Q q => ?_⟩
        · obtain ⟨k, rfl, k0, k1⟩ := py
          subst px
          cases dy
          cases dx with
          | lst w1 w2 w3 =>
          obtain ⟨n', rfl⟩ := Int.eq_ofNat_of_zero_le k0
          have hn : L[n']? = some (L[n']'(by omega)) := List.getElem?_eq_getElem _
          obtain ⟨vv, hvv, dvv⟩ := w3.at (i := n') (d := lineD (L[n']'(by omega))) (by rw [List.getElem?_map, hn]; rfl)
          exact ⟨_, _, _, vv, rfl, rfl, sq_of w1, atI_nat hvv, q vv _ H9 (Ex.refl _) dvv ⟨_, List.mem_of_getElem? hn, rfl⟩⟩
        · obtain ⟨ln, hln, rfl⟩ := px
          subst py
          cases dy
          cases dx with
          | tup g1 g2 =>
          cases g2 with
          | cons r1 g2 =>
          refine ⟨_, _, _, _, rfl, rfl, SqT.of g1, atI_nat (j := 0) rfl, q _ _ H9 (Ex.refl _) r1 ⟨ln.1, rfl, ?_⟩⟩
          have := findP_depth (full.ok ln hln)
          omega
      · rintro d ⟨n, es, rfl, rfl, pr⟩
        rw [filter_yes] at pr
        have hlen := paired_len pr
        rw [List.length_range] at hlen
        have hlen : es.length = 8 := hlen
        have hm := paired_mem pr
        have key : ∀ es : List PyData, (∀ d ∈ es, ∃ pl : List Int, d = tupI pl ∧ pl.length ≤ 1000) → ∃ ls : List (List Int), es = ls.map tupI ∧ ∀ pl ∈ ls, pl.length ≤ 1000 := by
          intro es
          induction es with
          | nil => exact fun _ => ⟨[], rfl, fun pl h => nomatch h⟩
          | cons d es ih =>
            intro h
            obtain ⟨pl, rfl, hp⟩ := h _ List.mem_cons_self
            obtain ⟨ls, rfl, hl⟩ := ih fun d hd => h d (List.mem_cons_of_mem _ hd)
            refine ⟨pl :: ls, rfl, fun q hq => ?_⟩
            rcases List.mem_cons.mp hq with rfl | hq
            · exact hp
            · exact hl q hq
        obtain ⟨ls, rfl, hl⟩ := key es fun d hd => by
          obtain ⟨_, _, h⟩ := hm d hd
          exact h
        rw [List.length_map] at hlen
        exact ⟨ls, rfl, hlen, hl⟩
    obtain ⟨ls, rfl, ls8, hls⟩ := ps
    have hbox8 := e8 _ _ hbox7
    have pick : ∀ {σ : L2.St} {H' : Hp} {j : Nat}, σ[9]? = some (some vs) → Ex H8 H' → j < 8 → EvP K MF (tOp (rIxL K) (tVar 9) (tC (.int (j : Int)))) σ H' (fun d => ∃ pl : List Int, d = tupI pl ∧ pl.length ≤ 1000) := fun {σ H' j} hs e hj => by
      have hj' : ls[j]? = some (ls[j]'(by omega)) := List.getElem?_eq_getElem _
      refine EvP.mono (evd_ixL (j := j) (d := tupI (ls[j]'(by omega))) (evd_var hs (dvs.ex e)) evd_int rfl (by rw [List.getElem?_map, hj']; rfl)) fun d h => ⟨_, h, hls _ (List.mem_of_getElem? hj')⟩
    -- all of them
    refine q_asgP (K := K) (M := MF) (P := placesP 35) (evp_catL (n := 22) (m := 13) okF (evp_catL (n := 9) (m := 13) okF (evp_catL (n := 1) (m := 8) okF ?_ (EvP.mono (evd_var rfl dvs) fun d h => ⟨ls, h, by omega⟩) (by decide) (by decide)) (evp_bentP okF (ev_var rfl) hbox8 (pick (j := 0) rfl (Ex.refl _) (by decide))) (by decide) (by decide)) (evp_bentP okF (ev_var rfl) hbox8 (pick (j := 1) rfl (Ex.refl _) (by decide))) (by decide) (by decide)) fun va da H9 e9 dva pa => ?_
    · refine EvP.mono (evd_lst okF (eva_cons (evd_tup eva_nil (by decide)) eva_nil) (by show 1 ≤ sizeLine; decide)) fun d h => ⟨[[]], h, by decide⟩
    obtain ⟨as, rfl, has⟩ := pa
    have e79 := e8.trans e9
    have e39 := e37.trans e79
    have hB9 := hB.ex e39
    have hrow9 := dvr.ex ((e5.trans e6).trans (e7.trans e79))
    have hoth9 := dvo.ex (e6.trans (e7.trans e79))
    have hkd9 := e79 _ _ hkd
    have hent9 := ent_ex e79 hent
    have eH9 : Ex Hi H9 := (e1.trans e23).trans e39
    have lt : ((ofN t.row).map PyData.int).length = t.size := by rw [List.length_map, ofN_len]; rfl
    have lo : ((ofN o.row).map PyData.int).length = o.size := by rw [List.length_map, ofN_len]; rfl
    refine s_forLT (K := K) (ls := as ++ as.reverse) (EvP.mono (evd_cat okF (evd_var rfl dva) (evd_revL okF (evd_var rfl dva)) (by rw [List.length_reverse, List.length_map]; exact Nat.le_trans (show as.length + as.length ≤ 70 by omega) (by decide))) fun d h => by rw [h, List.map_append, List.map_reverse])
      (fun H10 j σ' H' => ExtN H10 H' ∧ Tabs [(Pt, qLam)] H' ∧ ∃ u10 u11 u12, σ' = [some (.ref a), some (.int (0 + (i : Int))), some (.ref b), some (.ref l), some (.ref x), some vr, some vo, some (.ref lk), some (.ref kd), some va, u10, u11, u12, u13])
      (fun H10 e10 => ⟨ExtN.refl _, tB.ext (eH9.trans e10), _, _, _, rfl⟩) (fun H10 j σ' H' _ p => p.1) ?_ ?_
    · rintro H10 j pl y σ' H11 e10 hj ⟨eN11, tB11, v10, v11, v12, rfl⟩ dy
      have hE : ExtN H9 H11 := (ExtN.of e10).trans eN11
      have hBc := book_extn hB9 hE
      have rowc := dt_extn hrow9 hE
      have othc := dt_extn hoth9 hE
      have hkdc : H11 kd = some (.dT (mergeT [] kvs)) := hE _ _ hkd9 fun ps z => by cases z
      have entc := ent_extn hE hent9
      obtain ⟨kb, rfl, hkb⟩ := dt_tupS dy
      have hkb' : H11 kb = some (.tup ((pl.map Sum.inl : List Key).map L2.kV)) := by rw [kV_ints]; exact hkb
      have dg := DGet.t hkdc hkb'
      cases hv : valV (mergeT [] kvs) (pl.map Sum.inl) with
      | some v =>
        obtain ⟨n, u, p, hf, rfl, hp⟩ := dict_some full entc hv
        rw [hv] at dg
        obtain ⟨us, hsu⟩ := findP_suf hf
        obtain ⟨_, hr2', _⟩ := Tr.suf_row hsu
        rw [Tr.size_one] at hr2'
        refine ⟨_, rfl, _, rfl, kd, _, rfl, dg, _, rfl, iteT ?_⟩
        refine ⟨_, rfl, _, rfl, kd, _, rfl, dg, p, _, rfl, SqT.of hp, rfl, _, _, rfl, _, _, rfl, rfl, ?_⟩
        dsimp only
        refine q_when (evt_test (K := K) (M := MF) (evd_neD (evd_at (ev_var rfl) hBc gS.kidsOk (evd_var rfl rowc) (evd_var rfl (dt_of_tup hkb)) hO h40 hf)
          (EvP.mono (evd_slT (ds := (ofN t.row).map PyData.int) (lo := some (n : Int)) (hi := some ((n + u.size : Nat) : Int)) (evd_var (d := rowD t) rfl rowc) (evo_some (evd_var rfl (.int _))) (evo_some (evd_var rfl (.int _)))) fun d h => h.trans (rowD_cut hsu)) (flat_tupI _) (flat_tupI _))) (fun hb H12 e12 => ?_) (fun hb H12 e12 => ?_)
        · have := (flat_tupI (ofN u.row)).self
          rw [show PyData.eqv (rowD u) (rowD u) = true from this] at hb
          cases hb
        · refine s_when (evt_test (K := K) (M := MF) (evd_neD (evd_put (ev_var rfl) (hBc.ex e12) gS.kidsOk (evd_var rfl (rowc.ex e12)) (evd_var rfl ((dt_of_tup hkb).ex e12)) (evd_var rfl (othc.ex e12)) hO h40 hOo ho40 hf)
            (EvP.mono (evd_catA (evd_catA (evd_slT (ds := (ofN t.row).map PyData.int) (hi := some (n : Int)) (evd_var (d := rowD t) rfl (rowc.ex e12)) evo_none (evo_some (evd_var rfl (.int _)))) (evd_var (d := .tuple ((ofN o.row).map PyData.int)) rfl (othc.ex e12)) ?_)
              (evd_slT (ds := (ofN t.row).map PyData.int) (lo := some ((n + u.size : Nat) : Int)) (evd_var (d := rowD t) rfl (rowc.ex e12)) (evo_some (evd_var rfl (.int _))) evo_none) ?_) fun d h => h.trans (put_row hr2')) (flat_tupI _) (flat_tupI _))) (fun hb H13 e13 => ?_) (fun hb H13 e13 => ?_)
          · rw [cutG_to _ n (by rw [lt]; omega), List.length_take, lt, lo]
            omega
          · rw [cutG_to _ n (by rw [lt]; omega), cutG_from _ _ (by rw [lt]; exact hr2'), List.length_append, List.length_take, List.length_drop, lt, lo]
            omega
          · have := (flat_tupI (ofN (t.row.take n ++ o.row ++ t.row.drop (n + u.size)))).self
            rw [this] at hb
            cases hb
          · exact ⟨eN11.trans (ExtN.of (e12.trans e13)), tB11.ext (e12.trans e13), _, _, _, rfl⟩
      | none =>
        have hf := dict_none full entc hv
        rw [hv] at dg
        refine ⟨_, rfl, _, rfl, kd, _, rfl, dg, _, rfl, iteF ?_⟩
        refine ⟨tB11, fun H12 eN12 tB12 => ?_⟩
        unfold TKind
        dsimp only
        refine ⟨_, rfl, _, rfl, _, rfl, x, vr, .ref kb, S, _, pl, rfl, book_extn hBc eN12, gS.kidsOk, dt_extn rowc eN12, dt_extn (dt_of_tup hkb) eN12, fun h => ?_, fun _ => ⟨t, hO, rfl, h40, fun n u h => ?_, fun _ H13 e13 => ⟨rfl, CP, 2, rfl, KT, fun H14 e14 => ⟨rfl, _, rfl, iteNS rfl ?_⟩⟩⟩⟩
        · rw [treeB_row hO h40] at h
          cases h
        · rw [hf] at h
          cases h
        have eN14 := eN12.trans (ExtN.of (e13.trans e14))
        have tB14 := tB12.ext (e13.trans e14)
        refine ⟨tB14, fun H15 eN15 tB15 => ?_⟩
        have eN15' := eN14.trans eN15
        dsimp only
        refine ⟨_, rfl, _, rfl, _, rfl, _, rfl, x, vr, .ref kb, vo, S, _, pl, _, rfl, book_extn hBc eN15', gS.kidsOk, dt_extn rowc eN15', dt_extn (dt_of_tup hkb) eN15', dt_extn othc eN15', fun h => ?_, fun _ => ⟨t, hO, rfl, h40, fun n u h => ?_, fun _ H16 e16 => ⟨rfl, CP, 2, rfl, KT, fun H17 e17 => ⟨rfl, _, rfl, iteNS rfl ?_⟩⟩⟩⟩
        · rw [treeB_row hO h40] at h
          cases h
        · rw [hf] at h
          cases h
        exact ⟨eN11.trans (eN15'.trans (ExtN.of (e16.trans e17))), tB15.ext (e16.trans e17), _, _, _, rfl⟩
    · rintro H10 σ' H11 e10 ⟨eN11, tB11, v10, v11, v12, rfl⟩
      exact ⟨eN.trans ((ExtN.of (eH9.trans e10)).trans eN11), tB11, _, _, _, _, _, _, _, _, _, _, _, _, _, rfl⟩
end
end TH
set_option maxRecDepth 100000
set_option maxHeartbeats 4000000
namespace TH
open PySem L2 Evl LamX
/-! ### what the top has written: each a fact that k_is finds -/
def DefG (K : PySem.W.Frag) (x : Str) (st : Stmt) : Prop := ∃ (f : Addr) (fd : FuncData), PySem.W.nsIn K mainGlobals x = some (some (.ref f)) ∧ Fun K x x st f fd
def MethG (K : PySem.W.Frag) (C : Addr) (m q : Str) (st : Stmt) : Prop := ∃ (f : Addr) (fd : FuncData), Meth K C m f ∧ Fun K m q st f fd
section
variable {K : PySem.W.Frag} {x q : Str} {st : Stmt} {f C : Addr} {oc : Value} {od an : Option Addr} {osl : Array (Option Value)} {kV doc pm cdv ct : Value}
theorem defG_mk (a : PySem.W.nsIn K mainGlobals x = some (some (.ref f))) (l : K.lookup f = some ⟨oc, od, .func (PySem.W.fnOf x x (defArgs st) (defBody st) (defScope st) .none kV doc pm an cdv ct), osl⟩)
    (c : PySem.W.codeIn K cdv x = true) (k : PySem.W.keepIn K (.ref f) = true) : DefG K x st := ⟨f, _, a, fun_mk l c k⟩
theorem methG_mk {m : Str} (a : PySem.W.findIn K (.ref C) m = some (some (.ref f))) (i : PySem.W.isFn K (.ref f) = true) (l : K.lookup f = some ⟨oc, od, .func (PySem.W.fnOf m q (defArgs st) (defBody st) (defScope st) .none kV doc pm an cdv ct), osl⟩)
    (c : PySem.W.codeIn K cdv q = true) (k : PySem.W.keepIn K (.ref f) = true) : MethG K C m q st := ⟨f, _, ⟨a, i, k⟩, fun_mk l c k⟩
end
/-- what the names of the built-ins and of the constants stand for -/
structure NoneG (K : PySem.W.Frag) : Prop where
  n_range : PySem.W.nsIn K mainGlobals "range" = some none
  n_len : PySem.W.nsIn K mainGlobals "len" = some none
  n_abs : PySem.W.nsIn K mainGlobals "abs" = some none
  n_divmod : PySem.W.nsIn K mainGlobals "divmod" = some none
  n_all : PySem.W.nsIn K mainGlobals "all" = some none
  n_any : PySem.W.nsIn K mainGlobals "any" = some none
  n_enumerate : PySem.W.nsIn K mainGlobals "enumerate" = some none
  n_min : PySem.W.nsIn K mainGlobals "min" = some none
  n_max : PySem.W.nsIn K mainGlobals "max" = some none
  n_dict : PySem.W.nsIn K mainGlobals "dict" = some none
  n_tuple : PySem.W.nsIn K mainGlobals "tuple" = some none
  n_reversed : PySem.W.nsIn K mainGlobals "reversed" = some none
  n_isinstance : PySem.W.nsIn K mainGlobals "isinstance" = some none
  n_ValueError : PySem.W.nsIn K mainGlobals "ValueError" = some none
/-- the classes of the refusals -/
structure ErrG (K : PySem.W.Frag) (CH : Addr) (cs : List Addr) : Prop where
  hand : PySem.W.nsIn K mainGlobals "HandError" = some (some (.ref CH))
  c0 : PySem.W.nsIn K mainGlobals "NoBook" = some (some (.ref (cs.getD 0 0)))
  c1 : PySem.W.nsIn K mainGlobals "NoTree" = some (some (.ref (cs.getD 1 0)))
  c2 : PySem.W.nsIn K mainGlobals "NoPlace" = some (some (.ref (cs.getD 2 0)))
  c3 : PySem.W.nsIn K mainGlobals "NoReader" = some (some (.ref (cs.getD 3 0)))
  c4 : PySem.W.nsIn K mainGlobals "Unlike" = some (some (.ref (cs.getD 4 0)))
  c5 : PySem.W.nsIn K mainGlobals "TooGreat" = some (some (.ref (cs.getD 5 0)))
  c6 : PySem.W.nsIn K mainGlobals "NoGuesser" = some (some (.ref (cs.getD 6 0)))
  c7 : PySem.W.nsIn K mainGlobals "NoPattern" = some (some (.ref (cs.getD 7 0)))
  c8 : PySem.W.nsIn K mainGlobals "NoNumber" = some (some (.ref (cs.getD 8 0)))
  c9 : PySem.W.nsIn K mainGlobals "NoTurner" = some (some (.ref (cs.getD 9 0)))
  c10 : PySem.W.nsIn K mainGlobals "NoText" = some (some (.ref (cs.getD 10 0)))
  c11 : PySem.W.nsIn K mainGlobals "NoLine" = some (some (.ref (cs.getD 11 0)))
  c12 : PySem.W.nsIn K mainGlobals "NoName" = some (some (.ref (cs.getD 12 0)))
  c13 : PySem.W.nsIn K mainGlobals "Nothing" = some (some (.ref (cs.getD 13 0)))
theorem errG_mk {K : PySem.W.Frag} {CH e0 e1 e2 e3 e4 e5 e6 e7 e8 e9 e10 e11 e12 e13 : Addr} (h : PySem.W.nsIn K mainGlobals "HandError" = some (some (.ref CH)))
    (c0 : PySem.W.nsIn K mainGlobals "NoBook" = some (some (.ref e0)))
    (c1 : PySem.W.nsIn K mainGlobals "NoTree" = some (some (.ref e1)))
    (c2 : PySem.W.nsIn K mainGlobals "NoPlace" = some (some (.ref e2)))
    (c3 : PySem.W.nsIn K mainGlobals "NoReader" = some (some (.ref e3)))
    (c4 : PySem.W.nsIn K mainGlobals "Unlike" = some (some (.ref e4)))
    (c5 : PySem.W.nsIn K mainGlobals "TooGreat" = some (some (.ref e5)))
    (c6 : PySem.W.nsIn K mainGlobals "NoGuesser" = some (some (.ref e6)))
    (c7 : PySem.W.nsIn K mainGlobals "NoPattern" = some (some (.ref e7)))
    (c8 : PySem.W.nsIn K mainGlobals "NoNumber" = some (some (.ref e8)))
    (c9 : PySem.W.nsIn K mainGlobals "NoTurner" = some (some (.ref e9)))
    (c10 : PySem.W.nsIn K mainGlobals "NoText" = some (some (.ref e10)))
    (c11 : PySem.W.nsIn K mainGlobals "NoLine" = some (some (.ref e11)))
    (c12 : PySem.W.nsIn K mainGlobals "NoName" = some (some (.ref e12)))
    (c13 : PySem.W.nsIn K mainGlobals "Nothing" = some (some (.ref e13)))
    : ErrG K CH [e0, e1, e2, e3, e4, e5, e6, e7, e8, e9, e10, e11, e12, e13] := ⟨h, c0, c1, c2, c3, c4, c5, c6, c7, c8, c9, c10, c11, c12, c13⟩
/-- a refusal of the class at D is just the j-th of them -/
structure KitG (K : PySem.W.Frag) (CH : Addr) (cs : List Addr) (D : Addr) (j : Nat) : Prop where
  ex : PySem.W.exmOne K (.ref D) (.ref CH) = some true
  hg : PySem.W.findIn K (.ref D) "__getattribute__" = some (some (.builtin "BaseException.__getattribute__"))
  hk : PySem.W.findIn K (.ref D) "__getattr__" = some none
  hs : PySem.W.subIn K (.ref D) (.type "BaseException") = some true
  hd : PySem.W.hasDictIn K D = true
  ha : PySem.W.findIn K (.ref D) "__class__" = some (some (.builtin "object.__class__"))
  hn : PySem.W.specialIn K (.builtin "object.__class__") "__get__" = some (some (.builtin "getset_descriptor.__get__"))
  ht : PySem.W.takesIn K (.builtin "object.__class__") = some true
  hm : PySem.W.mroIn K D (.type "object") = some true
  val : PySem.W.kitOne K (.ref D) (.type "ValueError") = some true
  kit : (List.range 14).all (fun i => PySem.W.kitOne K (.ref D) (.ref (cs.getD i 0)) == some (decide (i = j))) = true
theorem KitG.kindT {K : PySem.W.Frag} {CH D : Addr} {cs : List Addr} {j : Nat} (h : KitG K CH cs D j) (hj : j < 14) : KindT K CH (fun i => cs.getD i 0) D j :=
  ⟨h.ex, ⟨h.hg, h.hk, h.hs, h.hd, h.ha, h.hn, h.ht, h.hm⟩, h.val, hj, fun i hi => beq_iff_eq.mp (List.all_eq_true.mp h.kit i (List.mem_range.mpr hi))⟩
/-- the class Book -/
structure ClsG (K : PySem.W.Frag) (C : Addr) : Prop where
  a : PySem.W.nsIn K mainGlobals "Book" = some (some (.ref C))
  pg : PySem.W.plainGet K C Str.empty = true
  hd : PySem.W.hasDictIn K C = true
  po : PySem.W.plainOver K C = true
  sa : PySem.W.findIn K (.ref C) "__setattr__" = some (some (.builtin "object.__setattr__"))
  made : PySem.W.makesIn K C = true
  kc : PySem.W.keepIn K (.ref C) = true
  n1 : PySem.W.findIn K (.ref C) "_names" = some none
  n2 : PySem.W.findIn K (.ref C) "_kids" = some none
/-- a class of refusals that is raised -/
structure RaiseG (K : PySem.W.Frag) (C : Addr) : Prop where
  x : PySem.W.excIn K C [.type "ValueError", .type "Exception", .type "BaseException", .type "object"] "ValueError.__new__" = true
  k : PySem.W.keepIn K (.ref C) = true
  b : PySem.W.subIn K (.ref C) (.type "BaseException") = some true
  t : PySem.W.typeIn K (.ref C) = some (.type "type")
theorem all_mk {l : PySem.W.OpenLaw} {w : World} {K : PySem.W.Frag} {h : Heap} {mg : Str → Option Value} {fa C CH fL cL Pt fK : Addr} {cs : List Addr} (X : K.In h) (G : h.Ns mainGlobals mg) (hfa : mg "law" = some (.ref fa))
    {oc : Value} {od an : Option Addr} {osl : Array (Option Value)} {kV doc pm ct : Value} {ocK : Value} {odK anK : Option Addr} {oslK : Array (Option Value)} {kVK docK pmK cdK ctK : Value} {t1 t2 t3 t4 : Tok} {D1 D2 D3 : Addr}
    (NG : NoneG K) (EG : ErrG K CH cs) (CG : ClsG K C) (aN : PySem.W.nsIn K mainGlobals "NoBook" = some (some (.ref D1))) (RG : RaiseG K D1) (aT : PySem.W.nsIn K mainGlobals "NoTree" = some (some (.ref D2))) (RT : RaiseG K D2)
    (aP : PySem.W.nsIn K mainGlobals "NoPlace" = some (some (.ref D3))) (RP : RaiseG K D3) (XG : KitG K CH cs D3 2)
    (D_is_name : DefG K "is_name" sName)
    (D_is_sign : DefG K "is_sign" sSign)
    (D_are_signs : DefG K "are_signs" sAre)
    (D_is_row : DefG K "is_row" sIsRow)
    (D_is_tree : DefG K "is_tree" sIsTree)
    (D_check_tree : DefG K "check_tree" sCheck)
    (D_sizes_of : DefG K "sizes_of" sSizes)
    (D_kid_starts : DefG K "kid_starts" sKidSt)
    (D_start_at : DefG K "start_at" sStart)
    (D_at : DefG K "at" sAt)
    (D_put : DefG K "put" sPut)
    (D__law_box : DefG K "_law_box" sBox)
    (D__law_more : DefG K "_law_more" sMore)
    (D__law_take : DefG K "_law_take" sTake)
    (D__law_signs : DefG K "_law_signs" sSigns)
    (D__law_row : DefG K "_law_row" sLRow)
    (D__law_kids : DefG K "_law_kids" sLKids)
    (D__law_lines : DefG K "_law_lines" sLines)
    (D__law_bent : DefG K "_law_bent" sBentP)
    (M___init__ : MethG K C "__init__" "Book.__init__" sInit)
    (M_many : MethG K C "many" "Book.many" sMany)
    (M_has : MethG K C "has" "Book.has" sHas)
    (M_kids : MethG K C "kids" "Book.kids" sKd)
    (k1 : PySem.W.nsIn K mainGlobals "LONGEST_NAME" = some (some (.int 3 t1))) (k2 : PySem.W.nsIn K mainGlobals "MOST_SIGNS_signs" = some (some (.int 6 t2))) (k3 : PySem.W.nsIn K mainGlobals "MOST_KIDS" = some (some (.int 2 t3))) (k4 : PySem.W.nsIn K mainGlobals "MOST_SIGNS_trees" = some (some (.int 40 t4)))
    (aK : PySem.W.nsIn K mainGlobals "_law_kind" = some (some (.ref fK))) (lkK : K.lookup fK = some ⟨ocK, odK, .func (PySem.W.fnOf "_law_kind" "_law_kind" (defArgs sKind) (defBody sKind) (defScope sKind) .none kVK docK pmK anK cdK ctK), oslK⟩)
    (hcK : PySem.W.codeIn K cdK "_law_kind" = true) (kK : PySem.W.keepIn K (.ref fK) = true)
    (aL : PySem.W.nsIn K mainGlobals "law" = some (some (.ref fL))) (lk : K.lookup fL = some ⟨oc, od, .func (PySem.W.fnOf "law" "law" (defArgs sLaw) (defBody sLaw) (defScope sLaw) .none kV doc pm an (.ref cL) ct), osl⟩)
    (hcd : PySem.W.codeIn K (.ref cL) "law" = true) (hT : h.get? Pt = some { cls := .none, data := .fields #[] }) (nT : K.lookup Pt = none) (hC : PySem.W.CodeHd h cL Pt) :
    LawAtS l w K CX0 8 63 "_law_script" mg fa h := by
  have e := hfa.symm.trans (PySem.W.mg_of X G aL)
  cases e
  have gn : ∀ {x : Str}, PySem.W.nsIn K mainGlobals x = some none → mg x = none := fun z => PySem.W.mg_none_of X G z
  have gs : ∀ {x : Str} {v : Value}, PySem.W.nsIn K mainGlobals x = some (some v) → mg x = some v := fun z => PySem.W.mg_of X G z
  have GS : GlobS mg := { range := gn NG.n_range, len := gn NG.n_len, abs := gn NG.n_abs, divmod := gn NG.n_divmod, all := gn NG.n_all, any := gn NG.n_any, longest := ⟨_, gs k1⟩, most := ⟨_, gs k2⟩, mostK := ⟨_, gs k3⟩, enumerate := gn NG.n_enumerate }
  have GL : GlobL mg := { GS with min := gn NG.n_min }
  have GW : GlobW mg := { GL with max := gn NG.n_max, dict := gn NG.n_dict }
  have GR : GlobR mg := { mostT := ⟨_, gs k4⟩, reversed := gn NG.n_reversed }
  have GU : GlobU mg := { tuple := gn NG.n_tuple }
  have T : BookT K mg C := ⟨⟨CG.pg, CG.hd, CG.po, CG.sa⟩, CG.n1, CG.n2, gs CG.a⟩
  have TN : ExcT K mg "NoBook" D1 := ⟨gs aN, RG.x, RG.k, RG.b, RG.t⟩
  have TT : ExcT K mg "NoTree" D2 := ⟨gs aT, RT.x, RT.k, RT.b, RT.t⟩
  have TP : ExcT K mg "NoPlace" D3 := ⟨gs aP, RP.x, RP.k, RP.b, RP.t⟩
  have KG : KindG mg CH (fun i => cs.getD i 0) := ⟨gs EG.hand, gs EG.c0, gs EG.c1, gs EG.c2, gs EG.c3, gs EG.c4, gs EG.c5, gs EG.c6, gs EG.c7, gs EG.c8, gs EG.c9, gs EG.c10, gs EG.c11, gs EG.c12, gs EG.c13, gn NG.n_ValueError, gn NG.n_isinstance⟩
  obtain ⟨f_is_name, d_is_name, a_is_name, F_is_name⟩ := D_is_name
  have b_is_name := F_is_name.binds (ps := ["name", "longest"]) fun _ _ _ _ _ _ us hl => match us, hl with | [_, _], _ => rfl
  obtain ⟨f_is_sign, d_is_sign, a_is_sign, F_is_sign⟩ := D_is_sign
  have b_is_sign := F_is_sign.binds (ps := ["sign"]) fun _ _ _ _ _ _ us hl => match us, hl with | [_], _ => rfl
  obtain ⟨f_are_signs, d_are_signs, a_are_signs, F_are_signs⟩ := D_are_signs
  have b_are_signs := F_are_signs.binds (ps := ["signs"]) fun _ _ _ _ _ _ us hl => match us, hl with | [_], _ => rfl
  obtain ⟨f_is_row, d_is_row, a_is_row, F_is_row⟩ := D_is_row
  have b_is_row := F_is_row.binds (ps := ["book", "row"]) fun _ _ _ _ _ _ us hl => match us, hl with | [_, _], _ => rfl
  obtain ⟨f_is_tree, d_is_tree, a_is_tree, F_is_tree⟩ := D_is_tree
  have b_is_tree := F_is_tree.binds (ps := ["book", "tree"]) fun _ _ _ _ _ _ us hl => match us, hl with | [_, _], _ => rfl
  obtain ⟨f_check_tree, d_check_tree, a_check_tree, F_check_tree⟩ := D_check_tree
  have b_check_tree := F_check_tree.binds (ps := ["book", "tree"]) fun _ _ _ _ _ _ us hl => match us, hl with | [_, _], _ => rfl
  obtain ⟨f_sizes_of, d_sizes_of, a_sizes_of, F_sizes_of⟩ := D_sizes_of
  have b_sizes_of := F_sizes_of.binds (ps := ["book", "row"]) fun _ _ _ _ _ _ us hl => match us, hl with | [_, _], _ => rfl
  obtain ⟨f_kid_starts, d_kid_starts, a_kid_starts, F_kid_starts⟩ := D_kid_starts
  have b_kid_starts := F_kid_starts.binds (ps := ["book", "row", "sizes", "start"]) fun _ _ _ _ _ _ us hl => match us, hl with | [_, _, _, _], _ => rfl
  obtain ⟨f_start_at, d_start_at, a_start_at, F_start_at⟩ := D_start_at
  have b_start_at := F_start_at.binds (ps := ["book", "row", "sizes", "place"]) fun _ _ _ _ _ _ us hl => match us, hl with | [_, _, _, _], _ => rfl
  obtain ⟨f_at, d_at, a_at, F_at⟩ := D_at
  have b_at := F_at.binds (ps := ["book", "tree", "place"]) fun _ _ _ _ _ _ us hl => match us, hl with | [_, _, _], _ => rfl
  obtain ⟨f_put, d_put, a_put, F_put⟩ := D_put
  have b_put := F_put.binds (ps := ["book", "tree", "place", "other"]) fun _ _ _ _ _ _ us hl => match us, hl with | [_, _, _, _], _ => rfl
  obtain ⟨f__law_box, d__law_box, a__law_box, F__law_box⟩ := D__law_box
  have b__law_box := F__law_box.binds (ps := ["_law_script", "_law_k"]) fun _ _ _ _ _ _ us hl => match us, hl with | [_, _], _ => rfl
  obtain ⟨f__law_more, d__law_more, a__law_more, F__law_more⟩ := D__law_more
  have b__law_more := F__law_more.binds (ps := ["_law_box_here"]) fun _ _ _ _ _ _ us hl => match us, hl with | [_], _ => rfl
  obtain ⟨f__law_take, d__law_take, a__law_take, F__law_take⟩ := D__law_take
  have b__law_take := F__law_take.binds (ps := ["_law_box_here", "_law_count"]) fun _ _ _ _ _ _ us hl => match us, hl with | [_, _], _ => rfl
  obtain ⟨f__law_signs, d__law_signs, a__law_signs, F__law_signs⟩ := D__law_signs
  have b__law_signs := F__law_signs.binds (ps := ["_law_box_here"]) fun _ _ _ _ _ _ us hl => match us, hl with | [_], _ => rfl
  obtain ⟨f__law_row, d__law_row, a__law_row, F__law_row⟩ := D__law_row
  have b__law_row := F__law_row.binds (ps := ["_law_box_here", "_law_signs_here", "_law_most"]) fun _ _ _ _ _ _ us hl => match us, hl with | [_, _, _], _ => rfl
  obtain ⟨f__law_kids, d__law_kids, a__law_kids, F__law_kids⟩ := D__law_kids
  have b__law_kids := F__law_kids.binds (ps := ["_law_signs_here", "_law_row_here"]) fun _ _ _ _ _ _ us hl => match us, hl with | [_, _], _ => rfl
  obtain ⟨f__law_lines, d__law_lines, a__law_lines, F__law_lines⟩ := D__law_lines
  have b__law_lines := F__law_lines.binds (ps := ["_law_signs_here", "_law_row_here"]) fun _ _ _ _ _ _ us hl => match us, hl with | [_, _], _ => rfl
  obtain ⟨f__law_bent, d__law_bent, a__law_bent, F__law_bent⟩ := D__law_bent
  have b__law_bent := F__law_bent.binds (ps := ["_law_box_here", "_law_place"]) fun _ _ _ _ _ _ us hl => match us, hl with | [_, _], _ => rfl
  obtain ⟨f___init__, d___init__, m___init__, F___init__⟩ := M___init__
  have b___init__ := F___init__.binds (ps := ["self", "signs"]) fun _ _ _ _ _ _ us hl => match us, hl with | [_, _], _ => rfl
  obtain ⟨f_many, d_many, m_many, F_many⟩ := M_many
  have b_many := F_many.binds (ps := ["self"]) fun _ _ _ _ _ _ us hl => match us, hl with | [_], _ => rfl
  obtain ⟨f_has, d_has, m_has, F_has⟩ := M_has
  have b_has := F_has.binds (ps := ["self", "sign"]) fun _ _ _ _ _ _ us hl => match us, hl with | [_, _], _ => rfl
  obtain ⟨f_kids, d_kids, m_kids, F_kids⟩ := M_kids
  have b_kids := F_kids.binds (ps := ["self", "sign"]) fun _ _ _ _ _ _ us hl => match us, hl with | [_, _], _ => rfl
  have bL : ∀ (s : Shared) (u : Value), BindsTo s (PySem.W.fnOf "law" "law" (defArgs sLaw) (defBody sLaw) (defScope sLaw) .none kV doc pm an (.ref cL) ct) ⟨[u], []⟩ [("_law_script", u)] := fun s v => .of_eq rfl
  refine ⟨_, [(cL, Pt)], spLaw K Pt, fun p hp => ?_, fun p hp => ?_, fun p hp => ?_, bL, fun H a ns hl _ hP hS => ⟨a, ns, rfl, hS, hl, hP (cL, Pt) List.mem_cons_self, fun _ => rfl⟩, fun base KB GBs TB => ?_⟩
  · rw [List.mem_singleton.mp hp]
    exact hT
  · rw [List.mem_singleton.mp hp]
    exact nT
  · rw [List.mem_singleton.mp hp]
    exact hC
  have TB1 : TabB base mg cL Pt := TB (cL, Pt) List.mem_cons_self
  have BK : BookK l.prog w K mg base C := ⟨T, ⟨_, _, m_many, ok_many F_many GS T, b_many⟩, ⟨_, _, m_kids, ok_kd F_kids T, b_kids⟩⟩
  have BH : OneM l.prog w K mg base C "has" 1 ["self", "sign"] (spHas C) := ⟨_, _, m_has, ok_has F_has GS T, b_has⟩
  have GX : OneF l.prog w K mg base "_law_box" 1 ["_law_script", "_law_k"] (spBox K) := ⟨_, _, gs a__law_box, F__law_box.kp, ok_box F__law_box GS.toGlob, b__law_box⟩
  have OT : OneF l.prog w K mg base "_law_take" 2 ["_law_box_here", "_law_count"] spTake := ⟨_, _, gs a__law_take, F__law_take.kp, ok_take F__law_take GS.toGlob F__law_more (gs a__law_more) b__law_more, b__law_take⟩
  obtain ⟨fT, dT, mT, kT, gT, bT⟩ := id OT
  have OS : OneF l.prog w K mg base "_law_signs" 3 ["_law_box_here"] (spSigns K) := ⟨_, _, gs a__law_signs, F__law_signs.kp, ok_signs F__law_signs GL gT kT mT bT, b__law_signs⟩
  have OR : OneF l.prog w K mg base "_law_row" 3 ["_law_box_here", "_law_signs_here", "_law_most"] (spLRow K) := ⟨_, _, gs a__law_row, F__law_row.kp, ok_lrow F__law_row GS.toGlob GU gT kT mT bT, b__law_row⟩
  have OB : OneF l.prog w K mg base "_law_bent" 3 ["_law_box_here", "_law_place"] (spBentP K) := ⟨_, _, gs a__law_bent, F__law_bent.kp, ok_bentP F__law_bent GS.toGlob gT kT mT bT, b__law_bent⟩
  have OK : OneF l.prog w K mg base "_law_kids" 1 ["_law_signs_here", "_law_row_here"] (spLKids K) := ⟨_, _, gs a__law_kids, F__law_kids.kp, ok_lkids F__law_kids GS.toGlob, b__law_kids⟩
  have OL : OneF l.prog w K mg base "_law_lines" 2 ["_law_signs_here", "_law_row_here"] (spLines K) := ⟨_, _, gs a__law_lines, F__law_lines.kp, ok_lines F__law_lines GS.toGlob GS OK, b__law_lines⟩
  have R1 : OneF l.prog w K mg base "is_row" 2 ["book", "row"] (spIsRow K C) := ⟨_, _, gs a_is_row, F_is_row.kp, ok_isrow F_is_row BK BH, b_is_row⟩
  have R2 : OneF l.prog w K mg base "is_tree" 3 ["book", "tree"] (spIsTree K C) := ⟨_, _, gs a_is_tree, F_is_tree.kp, ok_istree F_is_tree GS.toGlob GR R1, b_is_tree⟩
  have R3 : OneX l.prog w K mg base "check_tree" 4 ["book", "tree"] (spCheck K C D2) := ⟨_, _, gs a_check_tree, F_check_tree.kp, ok_check F_check_tree TT R2, b_check_tree⟩
  have R4 : OneF l.prog w K mg base "sizes_of" 2 ["book", "row"] (spSizes K C) := ⟨_, _, gs a_sizes_of, F_sizes_of.kp, ok_sizes F_sizes_of GS.toGlob GR BK, b_sizes_of⟩
  have R5 : OneF l.prog w K mg base "kid_starts" 2 ["book", "row", "sizes", "start"] (spKidSt K C) := ⟨_, _, gs a_kid_starts, F_kid_starts.kp, ok_kidst F_kid_starts GS.toGlob BK, b_kid_starts⟩
  have R6 : OneX l.prog w K mg base "start_at" 3 ["book", "row", "sizes", "place"] (spStart K C D3) := ⟨_, _, gs a_start_at, F_start_at.kp, ok_start F_start_at GS.toGlob TP R5, b_start_at⟩
  have R7 : OneX l.prog w K mg base "at" 5 ["book", "tree", "place"] (spAt K C D2 D3) := ⟨_, _, gs a_at, F_at.kp, ok_at F_at R3 R4 R6, b_at⟩
  have R8 : OneX l.prog w K mg base "put" 5 ["book", "tree", "place", "other"] (spPut K C D2 D3) := ⟨_, _, gs a_put, F_put.kp, ok_put F_put R3 R4 R6, b_put⟩
  exact ok_law lk hcd GW TB1 GX OT OS OR OL OB R7 R8 T ⟨CG.made, m___init__.at_, m___init__.fn, CG.kc⟩ (ok_init F___init__ GS T TN F_is_name (gs a_is_name) b_is_name F_is_sign (gs a_is_sign) b_is_sign F_are_signs (gs a_are_signs) b_are_signs) b___init__ KG (XG.kindT (by decide)) (gs aK) kK lkK hcK
end TH
open PySem PySem.W PyProof.Rows
set_option maxRecDepth 100000 in
set_option maxHeartbeats 0 in
theorem PySem.Challenge.cw_treehands_k05_at_and_put_holds : PySem.Challenge.rw_treehands_k05_at_and_put.Holds := by
  w_on; o_law; k_head; (case hw => w_witness2)
  k_fill
  refine LamX.walk_ofTs (l := PySem.Challenge.rw_treehands_k05_at_and_put) (n := 63) (k := 8) (x := "_law_script") (CX := fun _ => L2.CX0) rfl (by decide) rfl ⟨rfl, by decide, by decide⟩ (fun w h Y => PySem.W.km_in_of Y) ?F (fun _ _ _ _ _ z => z)
  case F =>
    intro w mg fa h Y KX G hmg
    refine' TH.all_mk KX G hmg ?NG ?EG ?CG ?aN ?RG ?aT ?RT ?aP ?RP ?XG ?D_is_name ?D_is_sign ?D_are_signs ?D_is_row ?D_is_tree ?D_check_tree ?D_sizes_of ?D_kid_starts ?D_start_at ?D_at ?D_put ?D__law_box ?D__law_more ?D__law_take ?D__law_signs ?D__law_row ?D__law_kids ?D__law_lines ?D__law_bent ?M___init__ ?M_many ?M_has ?M_kids ?k1 ?k2 ?k3 ?k4 ?aK ?lkK ?hcK ?kK ?aL ?lk ?hcd ?hT ?nT ?hC
    case NG => exact ⟨by k_is, by k_is, by k_is, by k_is, by k_is, by k_is, by k_is, by k_is, by k_is, by k_is, by k_is, by k_is, by k_is, by k_is⟩
    case EG => (refine' TH.errG_mk ?h ?c0 ?c1 ?c2 ?c3 ?c4 ?c5 ?c6 ?c7 ?c8 ?c9 ?c10 ?c11 ?c12 ?c13; (case h => k_is); (case c0 => k_is); (case c1 => k_is); (case c2 => k_is); (case c3 => k_is); (case c4 => k_is); (case c5 => k_is); (case c6 => k_is); (case c7 => k_is); (case c8 => k_is); (case c9 => k_is); (case c10 => k_is); (case c11 => k_is); (case c12 => k_is); (case c13 => k_is))
    case CG => (refine' TH.ClsG.mk ?a ?pg ?hd ?po ?sa ?made ?kc ?n1 ?n2; (case a => k_is); (case pg => k_is); (case hd => k_is); (case po => k_is); (case sa => k_is); (case made => k_is); (case kc => k_is); (case n1 => k_is); (case n2 => k_is))
    case aN => k_is
    case RG => (refine' TH.RaiseG.mk ?x ?k ?b ?t; (case x => kernel_rfl); (case k => k_is); (case b => k_is); (case t => k_is))
    case aT => k_is
    case RT => (refine' TH.RaiseG.mk ?x ?k ?b ?t; (case x => kernel_rfl); (case k => k_is); (case b => k_is); (case t => k_is))
    case aP => k_is
    case RP => (refine' TH.RaiseG.mk ?x ?k ?b ?t; (case x => kernel_rfl); (case k => k_is); (case b => k_is); (case t => k_is))
    case XG => (refine' TH.KitG.mk ?ex ?hg ?hk ?hs ?hd ?ha ?hn ?ht ?hm ?val ?kit; (case ex => kernel_rfl); (case hg => k_is); (case hk => k_is); (case hs => k_is); (case hd => k_is); (case ha => k_is); (case hn => k_is); (case ht => k_is); (case hm => k_is); (case val => kernel_rfl); (case kit => kernel_rfl))
    case D_is_name => (refine' TH.defG_mk ?a ?l ?c ?k; (case a => k_is); (case l => k_is); (case c => k_is); (case k => k_is))
    case D_is_sign => (refine' TH.defG_mk ?a ?l ?c ?k; (case a => k_is); (case l => k_is); (case c => k_is); (case k => k_is))
    case D_are_signs => (refine' TH.defG_mk ?a ?l ?c ?k; (case a => k_is); (case l => k_is); (case c => k_is); (case k => k_is))
    case D_is_row => (refine' TH.defG_mk ?a ?l ?c ?k; (case a => k_is); (case l => k_is); (case c => k_is); (case k => k_is))
    case D_is_tree => (refine' TH.defG_mk ?a ?l ?c ?k; (case a => k_is); (case l => k_is); (case c => k_is); (case k => k_is))
    case D_check_tree => (refine' TH.defG_mk ?a ?l ?c ?k; (case a => k_is); (case l => k_is); (case c => k_is); (case k => k_is))
    case D_sizes_of => (refine' TH.defG_mk ?a ?l ?c ?k; (case a => k_is); (case l => k_is); (case c => k_is); (case k => k_is))
    case D_kid_starts => (refine' TH.defG_mk ?a ?l ?c ?k; (case a => k_is); (case l => k_is); (case c => k_is); (case k => k_is))
    case D_start_at => (refine' TH.defG_mk ?a ?l ?c ?k; (case a => k_is); (case l => k_is); (case c => k_is); (case k => k_is))
    case D_at => (refine' TH.defG_mk ?a ?l ?c ?k; (case a => k_is); (case l => k_is); (case c => k_is); (case k => k_is))
    case D_put => (refine' TH.defG_mk ?a ?l ?c ?k; (case a => k_is); (case l => k_is); (case c => k_is); (case k => k_is))
    case D__law_box => (refine' TH.defG_mk ?a ?l ?c ?k; (case a => k_is); (case l => k_is); (case c => k_is); (case k => k_is))
    case D__law_more => (refine' TH.defG_mk ?a ?l ?c ?k; (case a => k_is); (case l => k_is); (case c => k_is); (case k => k_is))
    case D__law_take => (refine' TH.defG_mk ?a ?l ?c ?k; (case a => k_is); (case l => k_is); (case c => k_is); (case k => k_is))
    case D__law_signs => (refine' TH.defG_mk ?a ?l ?c ?k; (case a => k_is); (case l => k_is); (case c => k_is); (case k => k_is))
    case D__law_row => (refine' TH.defG_mk ?a ?l ?c ?k; (case a => k_is); (case l => k_is); (case c => k_is); (case k => k_is))
    case D__law_kids => (refine' TH.defG_mk ?a ?l ?c ?k; (case a => k_is); (case l => k_is); (case c => k_is); (case k => k_is))
    case D__law_lines => (refine' TH.defG_mk ?a ?l ?c ?k; (case a => k_is); (case l => k_is); (case c => k_is); (case k => k_is))
    case D__law_bent => (refine' TH.defG_mk ?a ?l ?c ?k; (case a => k_is); (case l => k_is); (case c => k_is); (case k => k_is))
    case M___init__ => (refine' TH.methG_mk ?a ?i ?l ?c ?k; (case a => k_is); (case i => k_is); (case l => k_is); (case c => k_is); (case k => k_is))
    case M_many => (refine' TH.methG_mk ?a ?i ?l ?c ?k; (case a => k_is); (case i => k_is); (case l => k_is); (case c => k_is); (case k => k_is))
    case M_has => (refine' TH.methG_mk ?a ?i ?l ?c ?k; (case a => k_is); (case i => k_is); (case l => k_is); (case c => k_is); (case k => k_is))
    case M_kids => (refine' TH.methG_mk ?a ?i ?l ?c ?k; (case a => k_is); (case i => k_is); (case l => k_is); (case c => k_is); (case k => k_is))
    case k1 => k_is
    case k2 => k_is
    case k3 => k_is
    case k4 => k_is
    case aK => k_is
    case lkK => k_is
    case hcK => k_is
    case kK => k_is
    case aL => k_is
    case lk => k_is
    case hcd => k_is
    case hT => exact PySem.W.km_tabs_of Y 395 (List.mem_singleton.mpr rfl)
    case nT => kernel_rfl
    case hC => exact PySem.W.codeHd_of_K KX (by kernel_rfl)
#print axioms PySem.Challenge.cw_treehands_k05_at_and_put_holds
