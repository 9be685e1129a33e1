import PyProof.Rows.All
import Wide.All
import OpenK.AllK
import Wide.FinOn
import HandS.ForMost
import HandS.ForExc
import HandS.Evl
import HandS.Walk
import HandS.Wide
import HandS.WideBits
import HandS.SetBool
import HandS.SetKeys
import HandS.IsInst
import HandS.ExcIs
import HandS.Lambda
import HandS.Style
import HandS.EndTab
import PySem.Challenge.RW_treehands_k01_books
set_option Elab.async false
set_option linter.all false
set_option maxRecDepth 100000
set_option maxHeartbeats 4000000
namespace TH
open PySem PySem.Spec PyProof.Rows L2 Evl

/-! ### the box: a list of two ints whose values nobody asks for -/
def BoxAt (b : Addr) (h : Heap) : Prop :=
  ∃ (i j : Int) (t u : Tok) (n : Nat), h.get? b = some { cls := .type "list", data := .seq [Value.int i t, .int j u].toArray n }
def Box (b : Addr) : HO := .ext (BoxAt b)

theorem box_shut {P : Program} {w : World} {H H' : Hp} {h : Heap} {b : Addr} {i j : Int}
    (x : ObjOk P w H h b (.lst [.int i, .int j])) : ObjOk P w H' h b (Box b) := by
  obtain ⟨_, its, n, r, e⟩ := x
  cases r with
  | cons r1 r =>
    cases r with
    | cons r2 r =>
      cases r
      obtain ⟨t, rfl⟩ := r1
      obtain ⟨u, rfl⟩ := r2
      exact ⟨⟨i, j, t, u, n, e⟩, ⟨_, e⟩, fun h1 h2 ⟨i, j, t, u, n, q⟩ k => ⟨i, j, t, u, n, k _ q⟩⟩
theorem box_open {P : Program} {w : World} {H : Hp} {h : Heap} {b : Addr}
    (x : ObjOk P w H h b (Box b)) : ∃ i j : Int, ∀ H', ObjOk P w H' h b (.lst [.int i, .int j]) := by
  obtain ⟨⟨i, j, t, u, n, e⟩, _, _⟩ := x
  exact ⟨i, j, fun H' => ⟨by show 2 ≤ sizeLine; decide, _, n, .cons ⟨t, rfl⟩ (.cons ⟨u, rfl⟩ .nil), e⟩⟩
section
variable {X : Cx} {pins : List (Addr × Obj)} {σ : L2.St} {H : Hp} {s : Shared} {b : Addr}
theorem inv_swap {o o' : HO} (I : Inv X pins σ H s) (ho : H b = some o) (mu : Mut (some o))
    (lt : ∃ u, s.heap.get? b = some u) (new : ObjOk X.prog X.w (upd H b o') s.heap b o') : Inv X pins σ (upd H b o') s := by
  exact I.write (e := b) (t' := s.toks) (by rw [ho]; exact mu) (.inl rfl) (fun _ _ _ q => q) lt new
theorem inv_shut {i j : Int} (I : Inv X pins σ H s) (hb : H b = some (.lst [.int i, .int j])) : Inv X pins σ (upd H b (Box b)) s :=
  let ⟨_, _, _, _, e⟩ := I.hok b _ hb; inv_swap I hb trivial ⟨_, e⟩ (box_shut (I.hok b _ hb))
theorem inv_open (I : Inv X pins σ H s) (hb : H b = some (Box b)) : ∃ i j : Int, Inv X pins σ (upd H b (.lst [.int i, .int j])) s := by
  obtain ⟨i, j, k⟩ := box_open (I.hok b _ hb)
  exact ⟨i, j, inv_swap I hb trivial (I.hok b _ hb).2.1 (k _)⟩
theorem upd_same_eq {o : HO} (h : H b = some o) : upd H b o = H := by
  funext c
  unfold upd
  split
  · rename_i e
    rw [e, h]
  · rfl
end
section
variable {X : Cx}
/-- box[0], box[1] -/
def rIxBox : R2 := fun x y H Q => ∃ (b : Addr) (k : Int), x = .ref b ∧ y = .int k ∧ (k = 0 ∨ k = 1) ∧ H b = some (Box b) ∧ ∀ z, Q (.int z) H
theorem ix_box : IxR X rIxBox := by
  intro value slice pins s σ H x y v u Q I rx ry h hs
  obtain ⟨b, k, rfl, rfl, hk, hb, q⟩ := h
  obtain ⟨i, j, I1⟩ := inv_open I hb
  have hx : ∃ z, atI [V.int i, V.int j] k = some (.int z) := by
    rcases hk with rfl | rfl
    · exact ⟨i, rfl⟩
    · exact ⟨j, rfl⟩
  obtain ⟨z, hz⟩ := hx
  refine wpAny_mono (ix_list value slice pins s σ _ (.ref b) (.int k) v u (fun v H1 => v = .int z ∧ H1 = upd H b (.lst [.int i, .int j])) I1 rx ry ⟨b, _, k, _, rfl, rfl, SqL.of upd_same, hz, rfl, rfl⟩ hs) (fun w s1 hw => ?_) fun _ _ e => e
  obtain ⟨v1, H1, I2, r1, e1, e2⟩ := hw
  subst e1 e2
  have I3 := inv_shut I2 upd_same
  rw [upd_upd, upd_same_eq hb] at I3
  exact ⟨_, H, I3, r1, q z⟩
/-- box[0] = an int -/
def rSetBox : V → V → V → Hp → (Hp → Prop) → Prop := fun o i v H Q => ∃ (b : Addr) (k z : Int), o = .ref b ∧ i = .int k ∧ v = .int z ∧ (k = 0 ∨ k = 1) ∧ H b = some (Box b) ∧ Q H
theorem set_box : PSet X rSetBox := by
  intro pins s σ H o i v ov iv u Q I ro ri rv h
  obtain ⟨b, k, z, rfl, rfl, rfl, hk, hb, q⟩ := h
  obtain ⟨i0, j0, I1⟩ := inv_open I hb
  have hx : ∃ n i1 j1, ixN [V.int i0, V.int j0].length k = some n ∧ [V.int i0, V.int j0].set n (.int z) = [.int i1, .int j1] := by
    rcases hk with rfl | rfl
    · exact ⟨0, z, j0, rfl, rfl⟩
    · exact ⟨1, i0, z, rfl, rfl⟩
  obtain ⟨n, i1, j1, hn, hset⟩ := hx
  refine wpAny_mono (set_list pins s σ _ (.ref b) (.int k) (.int z) ov iv u (fun H1 => H1 = upd (upd H b (.lst [.int i0, .int j0])) b (.lst [.int i1, .int j1])) I1 ro ri rv ⟨b, _, k, n, rfl, rfl, upd_same, hn, by rw [hset]⟩) (fun _ s1 hw => ?_) fun _ _ e => e
  obtain ⟨H1, I2, e1⟩ := hw
  subst e1
  have I3 := inv_shut I2 upd_same
  rw [upd_upd, upd_upd, upd_same_eq hb] at I3
  exact ⟨H, I3, q⟩
/-- a value that is a new list of two ints becomes a box -/
theorem pe_shut {e : Expr} {t : TE} (h : PE X e t) : PE X e (fun σ H Q => t σ H fun v H1 => ∃ b i j, v = .ref b ∧ H1 b = some (.lst [.int i, .int j]) ∧ Q (.ref b) (upd H1 b (Box b))) := by
  refine ⟨fun pins s σ H Q I q => ?_⟩
  refine wpAny_mono (h.run pins s σ H _ I q) (fun u s1 hu => ?_) fun _ _ e => e
  obtain ⟨v, H1, I1, r1, b, i, j, rfl, hb, q1⟩ := hu
  exact ⟨.ref b, _, inv_shut I1 hb, r1, q1⟩
end
theorem divP {i j : Int} {b : Nat} (h : 0 < j) (hb : j.natAbs < 2 ^ b) (h0 : 0 < b) (h9 : b ≤ 9000) : CDivP i j :=
  ⟨h, PyProof.noPylong_of_log2 (Nat.lt_of_lt_of_le (PySem.Flt.log2_lt_of h0 hb) h9)⟩
end TH
set_option maxRecDepth 100000
set_option maxHeartbeats 4000000
namespace TH
open PySem L2 Evl
def top (i : Nat) : Stmt := PySem.Challenge.pw_treehands_k01_books.main.body.getD i (.Pass ⟨0, 0, 0, 0⟩)
abbrev sBox : Stmt := top 25
abbrev sMore : Stmt := top 26
abbrev sTake : Stmt := top 27

structure Glob (mg : Str → Option Value) : Prop where
  range : mg "range" = none
  len : mg "len" = none
  abs : mg "abs" = none
  divmod : mg "divmod" = none

/-- _law_box: a new box -/
def spBox (K : PySem.W.Frag) : Sp := fun vs H Q _ => ∃ (a : Addr) (ns : List Int) (k : Int), vs = [.ref a, .int k] ∧ SqL K H a (ns.map V.int) ∧ 0 ≤ k ∧ k ≤ 100 ∧
  ∀ b H', H b = none → Ex H H' → H' b = some (Box b) → Q (.ref b) H'
/-- _law_more: a number that is not negative -/
def spMore : Sp := fun vs H Q _ => ∃ b : Addr, vs = [.ref b] ∧ H b = some (Box b) ∧ ∀ n : Int, 0 ≤ n → n.natAbs < 2 ^ 200 → Q (.int n) H
/-- _law_take: a digit below the count -/
def spTake : Sp := fun vs H Q _ => ∃ (b : Addr) (n : Int), vs = [.ref b, .int n] ∧ H b = some (Box b) ∧ 0 < n ∧ n.natAbs < 2 ^ 200 ∧
  ∀ d H', 0 ≤ d → d < n → Ex H H' → Q (.int d) H'

section
variable {P : Program} {w : World} {K : PySem.W.Frag} {mg : Str → Option Value} {base : Heap}
theorem scBox : FnScope ["_law_script", "_law_k", "_law_here", "_law_number", "_law_j", "_law_piece"] ["_law_script", "_law_k"] (defScope sBox) :=
  ⟨rfl, rfl, rfl, by decide +kernel, rfl, by decide +kernel, by decide +kernel⟩
theorem ok_box {f : Addr} {fd : FuncData} (F : Fun K "_law_box" "_law_box" sBox f fd) (G : Glob mg) :
    FnOk P w K mg base CX0 1 f fd ["_law_script", "_law_k"] (spBox K) := by
  refine F.ok scBox (fun vs H Q E h => ?_) (fun cdv A outer s H vs Q E hr h => ?_)
  · obtain ⟨a, ns, k, rfl, _⟩ := h
    rfl
  · obtain ⟨a, ns, k, rfl, hS, hk0, hk1, q⟩ := h
    refine ⟨_, pss_cons (ps_set (i := 2) scBox.nd rfl (.inl rfl) (pe_op op_add (pe_op op_mul pe_int (pv 1)) pe_int))
      (pss_cut (ps_if (pt_cmpR op_lt (pv 1) (pe_callB call_len_seq (by rfl) G.len PySem.boot_len (pa_cons (pv 0) pa_nil)) (nomark _))
        (pss_one (ps_set (i := 2) scBox.nd rfl (.inl rfl) (pe_ix ix_list (pv 0) (pv 1) (fun _ _ => rfl)))) pss_nil)
      (pss_cons (ps_if (pt_cmpR op_eq (pe_op op_mod (pv 2) pe_int) pe_int (nomark _))
        (pss_one (ps_ret (pe_shut (pe_lst (pa_cons (pe_op op_fdiv (pv 2) pe_int) (pa_cons (pe_op op_mod (pe_callB call_abs (by rfl) G.abs (by decide +kernel) (pa_cons (pv 2) pa_nil)) pe_int) pa_nil)))))) pss_nil)
      (pss_cons (ps_set (i := 3) scBox.nd rfl (.inl rfl) pe_int)
      (pss_cons (ps_for PassesOwn.never rfl (pi_range1 rfl G.range (pa_cons pe_int pa_nil)) (pg_name (i := 4) scBox.nd rfl (.inl rfl))
        (pss_cons (ps_set (i := 5) scBox.nd rfl (.inl rfl) (pe_op op_mod (pe_op op_add (pe_op op_add (pe_op op_mul (pe_op op_mod (pv 2) pe_int) pe_int) (pe_op op_mul pe_int (pv 4))) pe_int) pe_int))
        (pss_cons (ps_set (i := 5) scBox.nd rfl (.inl rfl) (pe_op op_mod (pe_op op_mul (pv 5) (pv 5)) pe_int))
        (pss_one (ps_set (i := 3) scBox.nd rfl (.inl rfl) (pe_op op_add (pe_op op_mul (pv 3) pe_int) (pe_op op_mod (pe_op op_mul (pv 5) (pe_op op_add (pv 5) pe_int)) pe_int)))))))
      (pss_one (ps_ret (pe_shut (pe_lst (pa_cons (pv 3) (pa_cons (pe_op op_mod (pe_callB call_abs (by rfl) G.abs (by decide +kernel) (pa_cons (pv 2) pa_nil)) pe_int) pa_nil)))))))))), ?_⟩
    -- 7919 * k + 13
    refine ⟨_, rfl, _, _, rfl, rfl, .inl (by decide), _, _, rfl, rfl, ?_⟩
    -- if k < len(script)
    refine ⟨fun σ' H' => H' = H ∧ ∃ z : Int, σ' = [some (.ref a), some (.int k), some (.int z), none, none, none], ?_, ?_⟩
    · refine ⟨_, rfl, _, rfl, _, _, rfl, .inl hS, _, _, rfl, rfl, _, rfl, ite2 (fun c => ?_) (fun _ => ?_)⟩
      · have c' : k < ((ns.map V.int).length : Int) := of_decide_eq_true c
        rw [List.length_map] at c'
        obtain ⟨j, rfl⟩ := Int.eq_ofNat_of_zero_le hk0
        have hj : j < ns.length := by omega
        refine ⟨_, rfl, _, rfl, _, _, _, .int ns[j], rfl, rfl, hS, atI_nat (by simp [hj]), rfl, ns[j], rfl⟩
      · exact ⟨rfl, _, rfl⟩
    · rintro σ' H' ⟨rfl, z, rfl⟩
      -- if here % 2 == 0
      refine ⟨_, rfl, _, _, rfl, rfl, (by show (0 : Int) < 2; decide), rfl, _, rfl, ite2 (fun _ => ?_) (fun _ => ?_)⟩
      · refine ⟨_, rfl, _, _, rfl, rfl, ⟨by decide, by decide⟩, _, rfl, _, rfl, _, _, rfl, rfl, (by show (0 : Int) < 2147483647; decide), (by show 2 ≤ sizeLine; decide), fun p hp => ⟨p, _, _, rfl, upd_same, ?_⟩⟩
        rw [upd_upd]
        exact q p _ hp (Ex.new hp) upd_same
      · refine ⟨16, rfl, by decide, by decide, for_range (n := 16) (fun i σ' H'' => H'' = H' ∧ ∃ (n : Int) (u v : Option V), σ' = [some (.ref a), some (.int k), some (.int z), some (.int n), u, v]) ⟨rfl, 0, none, none, rfl⟩ ?_ ?_⟩
        · rintro i σ' H'' hi ⟨rfl, n, u, v, rfl⟩
          have hm : ∀ x : Int, 0 ≤ x % 2147483647 ∧ x % 2147483647 < 2147483647 := fun x => ⟨Int.emod_nonneg _ (by decide), Int.emod_lt_of_pos _ (by decide)⟩
          have hm2 : ∀ x : Int, 0 ≤ x % 2147483629 ∧ x % 2147483629 < 2147483629 := fun x => ⟨Int.emod_nonneg _ (by decide), Int.emod_lt_of_pos _ (by decide)⟩
          refine ⟨_, rfl, _, _, rfl, rfl, (by show (0 : Int) < 2147483647; decide), _, _, rfl, rfl, .inr (by decide), _, rfl, _, _, rfl, rfl, .inl (by decide), _, _, rfl, rfl, _, _, rfl, rfl, _, _, rfl, rfl, (by show (0 : Int) < 2147483647; decide), ?_⟩
          refine ⟨_, rfl, _, rfl, _, _, rfl, rfl, .inl ?_, _, _, rfl, rfl, (by show (0 : Int) < 2147483629; decide), ?_⟩
          · have := hm (z % 2147483647 * 48271 + 7919 * (0 + (i : Int)) + 1)
            omega
          refine ⟨_, rfl, _, _, rfl, rfl, .inr (by decide), _, rfl, _, rfl, _, _, rfl, rfl, _, _, rfl, rfl, .inl ?_, _, _, rfl, rfl, (by show (0 : Int) < 2147483647; decide), _, _, rfl, rfl, rfl, _, _, _, rfl⟩
          · have := hm2 ((z % 2147483647 * 48271 + 7919 * (0 + (i : Int)) + 1) % 2147483647 * ((z % 2147483647 * 48271 + 7919 * (0 + (i : Int)) + 1) % 2147483647))
            omega
        · rintro σ' H'' ⟨rfl, n, u, v, rfl⟩
          refine ⟨_, rfl, _, rfl, _, rfl, _, _, rfl, rfl, (by show (0 : Int) < 2147483647; decide), (by show 2 ≤ sizeLine; decide), fun p hp => ⟨p, _, _, rfl, upd_same, ?_⟩⟩
          rw [upd_upd]
          exact q p _ hp (Ex.new hp) upd_same
theorem pow_step {i : Nat} {n r : Int} (h0 : 0 ≤ n) (h : n < 65521 ^ i) (r0 : 0 ≤ r) (r1 : r < 65521) : 0 ≤ n * 65521 + r ∧ n * 65521 + r < 65521 ^ (i + 1) := by
  rw [Int.pow_succ]
  have h2 : n + 1 ≤ 65521 ^ i := h
  have h3 : (n + 1) * 65521 ≤ 65521 ^ i * 65521 := Int.mul_le_mul_of_nonneg_right h2 (by decide)
  rw [Int.add_mul] at h3
  refine ⟨?_, ?_⟩
  · have := Int.mul_nonneg h0 (show (0 : Int) ≤ 65521 by decide)
    omega
  · omega
theorem scMore : FnScope ["_law_box_here", "_law_number", "_law_j"] ["_law_box_here"] (defScope sMore) :=
  ⟨rfl, rfl, rfl, by decide +kernel, rfl, by decide +kernel, by decide +kernel⟩
theorem ok_more {f : Addr} {fd : FuncData} (F : Fun K "_law_more" "_law_more" sMore f fd) (G : Glob mg) :
    FnOk P w K mg base CX0 1 f fd ["_law_box_here"] spMore := by
  refine F.ok scMore (fun vs H Q E h => ?_) (fun cdv A outer s H vs Q E hr h => ?_)
  · obtain ⟨b, rfl, _⟩ := h
    rfl
  · obtain ⟨b, rfl, hb, q⟩ := h
    refine ⟨_, pss_cons (ps_set (i := 1) scMore.nd rfl (.inl rfl) pe_int)
      (pss_cons (ps_for PassesOwn.never rfl (pi_range1 rfl G.range (pa_cons pe_int pa_nil)) (pg_name (i := 2) scMore.nd rfl (.inl rfl))
        (pss_cons (ps_asg (pe_op op_mod (pe_op op_add (pe_op op_mul (pe_ix ix_box (pv 0) pe_int (fun _ _ => rfl)) pe_int) pe_int) pe_int) (pg_sub (pv 0) pe_int set_box))
        (pss_one (ps_set (i := 1) scMore.nd rfl (.inl rfl) (pe_op op_add (pe_op op_mul (pv 1) pe_int) (pe_op op_mod (pe_op op_fdiv (pe_ix ix_box (pv 0) pe_int (fun _ _ => rfl)) pe_int) pe_int))))))
      (pss_one (ps_ret (pv 1)))), ?_⟩
    refine ⟨12, rfl, by decide, by decide, for_range (n := 12) (fun i σ' H' => H' = H ∧ ∃ (n : Int) (u : Option V), σ' = [some (.ref b), some (.int n), u] ∧ 0 ≤ n ∧ n < 65521 ^ i) ⟨rfl, 0, none, rfl, by decide, by decide⟩ ?_ ?_⟩
    · rintro i σ' H' hi ⟨rfl, n, u, rfl, h0, h1⟩
      refine ⟨_, rfl, b, 1, rfl, rfl, .inr rfl, hb, fun z => ⟨_, _, rfl, rfl, .inr (by decide), _, _, rfl, rfl, _, _, rfl, rfl, (by show (0 : Int) < 2147483647; decide), ?_⟩⟩
      refine ⟨_, rfl, b, 1, _, rfl, rfl, rfl, .inr rfl, hb, ?_⟩
      refine ⟨_, rfl, _, _, rfl, rfl, .inr (by decide), _, rfl, b, 1, rfl, rfl, .inr rfl, hb, fun y => ⟨_, _, rfl, rfl, ⟨by decide, by decide⟩, _, _, rfl, rfl, (by show (0 : Int) < 65521; decide), _, _, rfl, rfl, rfl, _, _, rfl, ?_⟩⟩
      exact pow_step h0 h1 (Int.emod_nonneg _ (by decide)) (Int.emod_lt_of_pos _ (by decide))
    · rintro σ' H' ⟨rfl, n, u, rfl, h0, h1⟩
      refine ⟨_, rfl, q n h0 ?_⟩
      have e : (65521 : Int) ^ 12 < 2 ^ 200 := by decide
      have e2 : ((n.natAbs : Nat) : Int) < ((2 ^ 200 : Nat) : Int) := by
        rw [Int.natAbs_of_nonneg h0]
        exact Int.lt_trans h1 (by decide)
      exact Int.ofNat_lt.mp e2
theorem scTake : FnScope ["_law_box_here", "_law_count", "_law_rest_of", "_law_digit"] ["_law_box_here", "_law_count"] (defScope sTake) :=
  ⟨rfl, rfl, rfl, by decide +kernel, rfl, by decide +kernel, by decide +kernel⟩
theorem ok_take {f fM : Addr} {fd fdM : FuncData} (F : Fun K "_law_take" "_law_take" sTake f fd) (G : Glob mg) (FM : Fun K "_law_more" "_law_more" sMore fM fdM) (mM : mg "_law_more" = some (.ref fM)) (bM : Binds K fdM ["_law_box_here"] []) :
    FnOk P w K mg base CX0 2 f fd ["_law_box_here", "_law_count"] spTake := by
  have GM : FnOk P w K mg base CX0 1 fM fdM ["_law_box_here"] spMore := ok_more FM G
  refine F.ok scTake (fun vs H Q E h => ?_) (fun cdv A outer s H vs Q E hr h => ?_)
  · obtain ⟨b, n, rfl, _⟩ := h
    rfl
  · obtain ⟨b, n, rfl, hb, n0, nb, q⟩ := h
    refine ⟨_, pss_cut (ps_if (pt_chain op_le op_lt pe_int (pe_ix ix_box (pv 0) pe_int (fun _ _ => rfl)) (pv 1))
        (pss_one (ps_asg (pe_op op_add (pe_ix ix_box (pv 0) pe_int (fun _ _ => rfl)) (pe_op op_mulW (pv 1) (pe_call GM hr rfl mM FM.kp bM .nil pass0 (pa_cons (pv 0) pa_nil)))) (pg_sub (pv 0) pe_int set_box))) pss_nil)
      (pss_cons (ps_asg (pe_callB call_divmodW (by rfl) G.divmod (by decide +kernel) (pa_cons (pe_ix ix_box (pv 0) pe_int (fun _ _ => rfl)) (pa_cons (pv 1) pa_nil)))
        (pg_tup (by rfl) (pgs_cons (pg_name (i := 2) scTake.nd rfl (.inl rfl)) (pgs_cons (pg_name (i := 3) scTake.nd rfl (.inl rfl)) pgs_nil))))
      (pss_cons (ps_asg (pv 2) (pg_sub (pv 0) pe_int set_box))
      (pss_one (ps_ret (pv 3))))), ?_⟩
    refine ⟨fun σ' H' => H' = H ∧ σ' = [some (.ref b), some (.int n), none, none], ?_, ?_⟩
    · refine ⟨_, rfl, b, 0, rfl, rfl, .inl rfl, hb, fun z => ⟨_, _, rfl, rfl, _, rfl, ite2 (fun c => ?_) (fun _ => ?_)⟩⟩
      · refine ⟨_, rfl, _, _, rfl, rfl, _, rfl, ite2 (fun _ => ?_) (fun _ => ?_)⟩
        · refine ⟨_, rfl, b, 0, rfl, rfl, .inl rfl, hb, fun y => ⟨_, rfl, _, rfl, b, rfl, hb, fun m m0 mb => ⟨_, _, rfl, rfl, wide_mul nb mb (by decide) (by decide) (by decide), _, _, rfl, rfl, ?_⟩⟩⟩
          exact ⟨_, rfl, b, 0, _, rfl, rfl, rfl, .inl rfl, hb, rfl, rfl⟩
        · exact ⟨rfl, rfl⟩
      · exact ⟨_, rfl, iteF ⟨rfl, rfl⟩⟩
    · rintro σ' H' ⟨rfl, rfl⟩
      refine ⟨_, rfl, b, 0, rfl, rfl, .inl rfl, hb, fun z => ⟨_, rfl, _, _, rfl, divP n0 nb (by decide) (by decide), fun p hp => ?_⟩⟩
      have e : Ex H' (upd H' p (.tup [.int (z / n), .int (z % n)])) := Ex.new hp
      refine ⟨p, _, rfl, SqT.of upd_same, rfl, _, _, rfl, _, _, rfl, rfl, ?_⟩
      refine ⟨_, rfl, _, rfl, b, 0, _, rfl, rfl, rfl, .inl rfl, e _ _ hb, ?_⟩
      exact ⟨_, rfl, q _ _ (Int.emod_nonneg _ (by omega)) (Int.emod_lt_of_pos _ n0) e⟩
end
end TH
set_option maxRecDepth 100000
set_option maxHeartbeats 4000000
namespace TH
open PySem L2 Evl
/-! ### data as it lies in the heap, its lists apart from the ones that are being changed (M) -/
mutual
inductive Dt (K : PySem.W.Frag) (M : Addr → Prop) (H : Hp) : V → PyData → Prop
  | non : Dt K M H .non .none
  | bl (b : Bool) : Dt K M H (.bl b) (.bool b)
  | int (i : Int) : Dt K M H (.int i) (.int i)
  | str (x : Str) : Dt K M H (.str x) (.str x)
  | lst {a : Addr} {xs : List V} {ds : List PyData} : H a = some (.lst xs) → ¬ M a → Dts K M H xs ds → Dt K M H (.ref a) (.list ds)
  | tup {a : Addr} {xs : List V} {ds : List PyData} : SqT K H a xs → Dts K M H xs ds → Dt K M H (.ref a) (.tuple ds)
inductive Dts (K : PySem.W.Frag) (M : Addr → Prop) (H : Hp) : List V → List PyData → Prop
  | nil : Dts K M H [] []
  | cons {v : V} {vs : List V} {d : PyData} {ds : List PyData} : Dt K M H v d → Dts K M H vs ds → Dts K M H (v :: vs) (d :: ds)
end
section
variable {K : PySem.W.Frag} {M M' : Addr → Prop} {H H' H1 H2 : Hp}
mutual
/-- data in another heap, lists and tuples kept -/
theorem Dt.move (hl : ∀ a xs, H a = some (.lst xs) → ¬ M a → H' a = some (.lst xs) ∧ ¬ M' a) (ht : ∀ a xs, SqT K H a xs → SqT K H' a xs) : ∀ (d : PyData) (v : V), Dt K M H v d → Dt K M' H' v d
  | .none, _, h => by cases h; exact .non
  | .bool b, _, h => by cases h; exact .bl b
  | .int i, _, h => by cases h; exact .int i
  | .str x, _, h => by cases h; exact .str x
  | .list ds, _, h => by
    cases h with
    | lst h1 h2 h3 => exact .lst (hl _ _ h1 h2).1 (hl _ _ h1 h2).2 (Dts.move hl ht ds _ h3)
  | .tuple ds, _, h => by
    cases h with
    | tup h1 h3 => exact .tup (ht _ _ h1) (Dts.move hl ht ds _ h3)
  | .dict _, _, h => by cases h
theorem Dts.move (hl : ∀ a xs, H a = some (.lst xs) → ¬ M a → H' a = some (.lst xs) ∧ ¬ M' a) (ht : ∀ a xs, SqT K H a xs → SqT K H' a xs) : ∀ (ds : List PyData) (vs : List V), Dts K M H vs ds → Dts K M' H' vs ds
  | [], _, h => by cases h; exact .nil
  | d :: ds, _, h => by
    cases h with
    | cons h1 h2 => exact .cons (Dt.move hl ht d _ h1) (Dts.move hl ht ds _ h2)
end
mutual
theorem Dt.dp : ∀ (d : PyData) (v : V), Dt K M H v d → Dp K H v d
  | .none, _, h => by cases h; exact .non
  | .bool b, _, h => by cases h; exact .bl b
  | .int i, _, h => by cases h; exact .int i
  | .str x, _, h => by cases h; exact .str x
  | .list ds, _, h => by
    cases h with
    | lst h1 h2 h3 => exact .lst (sq_of h1) (Dts.dp ds _ h3)
  | .tuple ds, _, h => by
    cases h with
    | tup h1 h3 => exact .tup h1 (Dts.dp ds _ h3)
  | .dict _, _, h => by cases h
theorem Dts.dp : ∀ (ds : List PyData) (vs : List V), Dts K M H vs ds → DpAll K H vs ds
  | [], _, h => by cases h; exact .nil
  | d :: ds, _, h => by
    cases h with
    | cons h1 h2 => exact .cons (Dt.dp d _ h1) (Dts.dp ds _ h2)
end
theorem Dt.ex {v : V} {d : PyData} (h : Dt K M H v d) (e : Ex H H') : Dt K M H' v d := Dt.move (fun a xs h n => ⟨e _ _ h, n⟩) (fun a xs h => ex_t e h) d v h
theorem Dts.ex {vs : List V} {ds : List PyData} (h : Dts K M H vs ds) (e : Ex H H') : Dts K M H' vs ds := Dts.move (fun a xs h n => ⟨e _ _ h, n⟩) (fun a xs h => ex_t e h) ds vs h
theorem Dt.weak {v : V} {d : PyData} (h : Dt K M H v d) (m : ∀ a, M' a → M a) : Dt K M' H v d := Dt.move (fun a xs h n => ⟨h, fun z => n (m a z)⟩) (fun a xs h => h) d v h
theorem Dts.weak {vs : List V} {ds : List PyData} (h : Dts K M H vs ds) (m : ∀ a, M' a → M a) : Dts K M' H vs ds := Dts.move (fun a xs h n => ⟨h, fun z => n (m a z)⟩) (fun a xs h => h) ds vs h
theorem sqt_upd {a l : Addr} {xs ys : List V} {o : HO} (hl : H l = some (.lst ys)) (h : SqT K H a xs) : SqT K (upd H l o) a xs := by
  have ne : ∀ u, H a = some u → (∀ zs, u ≠ .lst zs) → a ≠ l := fun u h1 h2 z => by
    subst z
    rw [hl] at h1
    exact h2 ys (Option.some.inj h1).symm
  rcases h with (h | ⟨u, h⟩) | h
  · exact .inl (.inl (by rw [upd_ne (ne _ h fun zs z => by cases z)]; exact h))
  · exact .inl (.inr ⟨u, by rw [upd_ne (ne _ h fun zs z => by cases z)]; exact h⟩)
  · exact .inr h
theorem Dt.upd {v : V} {d : PyData} {l : Addr} {ys : List V} {o : HO} (h : Dt K M H v d) (hl : H l = some (.lst ys)) (m : M l) : Dt K M (L2.upd H l o) v d :=
  Dt.move (fun a xs h n => ⟨by rw [upd_ne (show a ≠ l from fun z => n (by rw [z]; exact m))]; exact h, n⟩) (fun a xs h => sqt_upd hl h) d v h
theorem Dts.upd {vs : List V} {ds : List PyData} {l : Addr} {ys : List V} {o : HO} (h : Dts K M H vs ds) (hl : H l = some (.lst ys)) (m : M l) : Dts K M (L2.upd H l o) vs ds :=
  Dts.move (fun a xs h n => ⟨by rw [upd_ne (show a ≠ l from fun z => n (by rw [z]; exact m))]; exact h, n⟩) (fun a xs h => sqt_upd hl h) ds vs h
theorem Dts.length : ∀ {vs : List V} {ds : List PyData}, Dts K M H vs ds → vs.length = ds.length
  | _, _, .nil => rfl
  | _, _, .cons _ t => by rw [List.length_cons, List.length_cons, Dts.length t]
theorem Dts.get : ∀ {vs : List V} {ds : List PyData} {i : Nat} {v : V}, Dts K M H vs ds → vs[i]? = some v → ∃ d, ds[i]? = some d ∧ Dt K M H v d
  | _, _, _, _, .nil, e => by simp at e
  | _, _, 0, _, .cons r _, e => by simp at e; subst e; exact ⟨_, rfl, r⟩
  | _, _, i + 1, v, .cons _ t, e => by
    obtain ⟨u, h1, h2⟩ := Dts.get (i := i) (v := v) t (by simpa using e)
    exact ⟨u, by simpa using h1, h2⟩
theorem Dts.at : ∀ {vs : List V} {ds : List PyData} {i : Nat} {d : PyData}, Dts K M H vs ds → ds[i]? = some d → ∃ v, vs[i]? = some v ∧ Dt K M H v d
  | _, _, _, _, .nil, e => by simp at e
  | _, _, 0, _, .cons r _, e => by simp at e; subst e; exact ⟨_, rfl, r⟩
  | _, _, i + 1, v, .cons _ t, e => by
    obtain ⟨u, h1, h2⟩ := Dts.at (i := i) (d := v) t (by simpa using e)
    exact ⟨u, by simpa using h1, h2⟩
theorem Dts.append : ∀ {xs ys : List V} {ds es : List PyData}, Dts K M H xs ds → Dts K M H ys es → Dts K M H (xs ++ ys) (ds ++ es)
  | _, _, _, _, .nil, s => s
  | _, _, _, _, .cons r t, s => .cons r (Dts.append t s)
theorem Dts.one {v : V} {d : PyData} (h : Dt K M H v d) : Dts K M H [v] [d] := .cons h .nil
theorem Dts.take : ∀ {xs : List V} {ds : List PyData} (n : Nat), Dts K M H xs ds → Dts K M H (xs.take n) (ds.take n)
  | _, _, 0, _ => .nil
  | _, _, _ + 1, .nil => .nil
  | _, _, n + 1, .cons r t => .cons r (Dts.take n t)
theorem Dts.drop : ∀ {xs : List V} {ds : List PyData} (n : Nat), Dts K M H xs ds → Dts K M H (xs.drop n) (ds.drop n)
  | _, _, 0, r => r
  | _, _, _ + 1, .nil => .nil
  | _, _, n + 1, .cons _ t => Dts.drop n t
theorem Dts.set : ∀ {xs : List V} {ds : List PyData} {v : V} {d : PyData} (i : Nat), Dt K M H v d → Dts K M H xs ds → Dts K M H (xs.set i v) (ds.set i d)
  | _, _, _, _, _, _, .nil => .nil
  | _, _, _, _, 0, r, .cons _ t => .cons r t
  | _, _, _, _, n + 1, r, .cons q t => .cons q (Dts.set n r t)
theorem Dts.reverse : ∀ {xs : List V} {ds : List PyData}, Dts K M H xs ds → Dts K M H xs.reverse ds.reverse
  | _, _, .nil => .nil
  | _, _, .cons r t => by
    rw [List.reverse_cons, List.reverse_cons]
    exact Dts.append (Dts.reverse t) (.one r)
/-- a part of a list -/
def cutG {α : Type} (xs : List α) (lo hi : Option Int) : List α := (xs.drop (HT.sIx xs.length 0 lo)).take (HT.sIx xs.length xs.length hi - HT.sIx xs.length 0 lo)
theorem Dts.cut {xs : List V} {ds : List PyData} {lo hi : Option Int} (h : Dts K M H xs ds) : Dts K M H (cutV xs lo hi) (cutG ds lo hi) := by
  unfold cutV cutG
  rw [h.length]
  exact (h.drop _).take _
theorem Dts.ints : ∀ {vs : List V} (ns : List Int), Dts K M H vs (ns.map PyData.int) → vs = ns.map V.int
  | _, [], .nil => rfl
  | _, n :: ns, .cons (.int _) t => by rw [Dts.ints ns t]; rfl
theorem Dts.strs : ∀ {vs : List V} (ns : List Str), Dts K M H vs (ns.map PyData.str) → vs = ns.map V.str
  | _, [], .nil => rfl
  | _, n :: ns, .cons (.str _) t => by rw [Dts.strs ns t]; rfl
theorem Dts.bls : ∀ {vs : List V} (ns : List Bool), Dts K M H vs (ns.map PyData.bool) → vs = ns.map V.bl
  | _, [], .nil => rfl
  | _, n :: ns, .cons (.bl _) t => by rw [Dts.bls ns t]; rfl
theorem Dts.of_ints : ∀ (ns : List Int), Dts K M H (ns.map V.int) (ns.map PyData.int)
  | [] => .nil
  | n :: ns => .cons (.int n) (Dts.of_ints ns)
theorem Dts.of_strs : ∀ (ns : List Str), Dts K M H (ns.map V.str) (ns.map PyData.str)
  | [] => .nil
  | n :: ns => .cons (.str n) (Dts.of_strs ns)

/-! ### what an expression gives, as data -/
/-- the changing ones are all known -/
def Ok (M : Addr → Prop) (H : Hp) : Prop := ∀ l, M l → H l ≠ none
theorem Ok.ex (h : Ok M H) (e : Ex H H') : Ok M H' := fun l m z => by
  cases q : H l with
  | none => exact h l m q
  | some o =>
    rw [e l o q] at z
    cases z
theorem Ok.new (h : Ok M H) {p : Addr} (n : H p = none) : ¬ M p := fun m => h p m n
def EvP (K : PySem.W.Frag) (M : Addr → Prop) (te : TE) (σ : L2.St) (H : Hp) (P : PyData → Prop) : Prop :=
  ∀ H1, Ex H H1 → ∀ Q : VK, (∀ v d H2, Ex H1 H2 → Dt K M H2 v d → P d → Q v H2) → te σ H1 Q
def EvPA (K : PySem.W.Frag) (M : Addr → Prop) (ta : TA) (σ : L2.St) (H : Hp) (P : List PyData → Prop) : Prop :=
  ∀ H1, Ex H H1 → ∀ Q : List V → Hp → Prop, (∀ vs ds H2, Ex H1 H2 → Dts K M H2 vs ds → P ds → Q vs H2) → ta σ H1 Q
abbrev EvD (K : PySem.W.Frag) (M : Addr → Prop) (te : TE) (σ : L2.St) (H : Hp) (d : PyData) : Prop := EvP K M te σ H (· = d)
abbrev EvDA (K : PySem.W.Frag) (M : Addr → Prop) (ta : TA) (σ : L2.St) (H : Hp) (ds : List PyData) : Prop := EvPA K M ta σ H (· = ds)
end
section
variable {K : PySem.W.Frag} {M : Addr → Prop} {H H' : Hp} {σ : L2.St} {ta tb te tc : TE} {r : R2} {P PA PB : PyData → Prop} {d d1 d2 : PyData}
theorem EvP.use (h : EvP K M te σ H P) {Q : VK} (q : ∀ v d H2, Ex H H2 → Dt K M H2 v d → P d → Q v H2) : te σ H Q := h H (Ex.refl H) Q q
theorem EvP.ex (h : EvP K M te σ H P) (e : Ex H H') : EvP K M te σ H' P := fun H1 e1 => h H1 (e.trans e1)
theorem EvPA.use {ta : TA} {P : List PyData → Prop} (h : EvPA K M ta σ H P) {Q : List V → Hp → Prop} (q : ∀ vs ds H2, Ex H H2 → Dts K M H2 vs ds → P ds → Q vs H2) : ta σ H Q := h H (Ex.refl H) Q q
theorem EvPA.ex {ta : TA} {P : List PyData → Prop} (h : EvPA K M ta σ H P) (e : Ex H H') : EvPA K M ta σ H' P := fun H1 e1 => h H1 (e.trans e1)
theorem EvP.mono (h : EvP K M te σ H P) (k : ∀ d, P d → PA d) : EvP K M te σ H PA := fun H1 e Q q => h H1 e Q fun v d H2 e2 hd hp => q v d H2 e2 hd (k d hp)
/-- data from a value that is known -/
theorem evd_of {v : V} (h : Ev te σ H v) (hd : Dt K M H v d) : EvD K M te σ H d := fun H1 e Q q => h H1 e Q fun H2 e2 => q v d H2 e2 (hd.ex (e.trans e2)) rfl
theorem evd_var {i : Nat} {v : V} (h : σ[i]? = some (some v)) (hd : Dt K M H v d) : EvD K M (tVar i) σ H d := evd_of (ev_var h) hd
theorem evd_int {i : Int} : EvD K M (tC (.int i)) σ H (.int i) := evd_of ev_c (.int i)
theorem evd_str {x : Str} : EvD K M (tC (.str x)) σ H (.str x) := evd_of ev_c (.str x)
theorem evd_bl {b : Bool} : EvD K M (tC (.bl b)) σ H (.bool b) := evd_of ev_c (.bl b)
theorem evd_non : EvD K M (tC .non) σ H .none := evd_of ev_c .non
/-- an operator, by its rule on data -/
theorem evp_op (ha : EvP K M ta σ H PA) (hb : EvP K M tb σ H PB)
    (hr : ∀ x y a b H1, Ex H H1 → Dt K M H1 x a → Dt K M H1 y b → PA a → PB b → ∀ Q : VK, (∀ v d H2, Ex H1 H2 → Dt K M H2 v d → P d → Q v H2) → r x y H1 Q) : EvP K M (tOp r ta tb) σ H P := fun H1 e Q q =>
  ha H1 e _ fun x a H2 e2 dx px => hb H2 (e.trans e2) _ fun y b H3 e3 dy py => hr x y a b H3 ((e.trans e2).trans e3) (dx.ex e3) dy px py Q fun v d H4 e4 dv pv => q v d H4 ((e2.trans e3).trans e4) dv pv
/-- two ints -/
theorem evp_I0 {g : Int → Int → V} (ha : EvP K M ta σ H PA) (hb : EvP K M tb σ H PB) (hg : ∀ a b, PA a → PB b → ∃ i j, a = .int i ∧ b = .int j ∧ ∃ d, P d ∧ ∀ H', Dt K M H' (g i j) d) : EvP K M (tOp (rI0 g) ta tb) σ H P :=
  evp_op ha hb fun x y a b H1 e dx dy px py Q q => by
    obtain ⟨i, j, rfl, rfl, d, pd, hd⟩ := hg a b px py
    cases dx
    cases dy
    exact ⟨i, j, rfl, rfl, q _ d H1 (Ex.refl _) (hd _) pd⟩
theorem evp_I {C : Int → Int → Prop} {g : Int → Int → V} (ha : EvP K M ta σ H PA) (hb : EvP K M tb σ H PB) (hg : ∀ a b, PA a → PB b → ∃ i j, a = .int i ∧ b = .int j ∧ C i j ∧ ∃ d, P d ∧ ∀ H', Dt K M H' (g i j) d) : EvP K M (tOp (rI C g) ta tb) σ H P :=
  evp_op ha hb fun x y a b H1 e dx dy px py Q q => by
    obtain ⟨i, j, rfl, rfl, hc, d, pd, hd⟩ := hg a b px py
    cases dx
    cases dy
    exact ⟨i, j, rfl, rfl, hc, q _ d H1 (Ex.refl _) (hd _) pd⟩
theorem evd_add {i j : Int} (ha : EvD K M ta σ H (.int i)) (hb : EvD K M tb σ H (.int j)) : EvD K M (tOp (rI0 fun i j => .int (i + j)) ta tb) σ H (.int (i + j)) :=
  evp_I0 ha hb fun a b pa pb => ⟨i, j, pa, pb, _, rfl, fun _ => .int _⟩
theorem evd_sub {i j : Int} (ha : EvD K M ta σ H (.int i)) (hb : EvD K M tb σ H (.int j)) : EvD K M (tOp (rI0 fun i j => .int (i - j)) ta tb) σ H (.int (i - j)) :=
  evp_I0 ha hb fun a b pa pb => ⟨i, j, pa, pb, _, rfl, fun _ => .int _⟩
theorem evd_cmp {g : Int → Int → Bool} {i j : Int} (ha : EvD K M ta σ H (.int i)) (hb : EvD K M tb σ H (.int j)) : EvD K M (tOp (rI0 fun i j => .bl (g i j)) ta tb) σ H (.bool (g i j)) :=
  evp_I0 ha hb fun a b pa pb => ⟨i, j, pa, pb, _, rfl, fun _ => .bl _⟩
/-- == of ints, of texts -/
theorem evd_eqI {i j : Int} (ha : EvD K M ta σ H (.int i)) (hb : EvD K M tb σ H (.int j)) : EvD K M (tOp rEq ta tb) σ H (.bool (decide (i = j))) :=
  evp_op ha hb fun x y a b H1 e dx dy px py Q q => by
    subst px py
    cases dx
    cases dy
    refine ⟨rfl, q _ _ H1 (Ex.refl _) (.bl _) ?_⟩
    simp
theorem evd_neI {i j : Int} (ha : EvD K M ta σ H (.int i)) (hb : EvD K M tb σ H (.int j)) : EvD K M (tOp rNe ta tb) σ H (.bool (!decide (i = j))) :=
  evp_op ha hb fun x y a b H1 e dx dy px py Q q => by
    subst px py
    cases dx
    cases dy
    refine ⟨rfl, q _ _ H1 (Ex.refl _) (.bl _) ?_⟩
    simp
theorem evd_eqS {i j : Str} (ha : EvD K M ta σ H (.str i)) (hb : EvD K M tb σ H (.str j)) : EvD K M (tOp rEq ta tb) σ H (.bool (decide (i = j))) :=
  evp_op ha hb fun x y a b H1 e dx dy px py Q q => by
    subst px py
    cases dx
    cases dy
    refine ⟨rfl, q _ _ H1 (Ex.refl _) (.bl _) ?_⟩
    simp
theorem evd_neS {i j : Str} (ha : EvD K M ta σ H (.str i)) (hb : EvD K M tb σ H (.str j)) : EvD K M (tOp rNe ta tb) σ H (.bool (!decide (i = j))) :=
  evp_op ha hb fun x y a b H1 e dx dy px py Q q => by
    subst px py
    cases dx
    cases dy
    refine ⟨rfl, q _ _ H1 (Ex.refl _) (.bl _) ?_⟩
    simp
/-- arguments -/
theorem eva_nil : EvDA K M tNil σ H [] := fun H1 e Q q => q [] [] H1 (Ex.refl _) .nil rfl
theorem evpa_cons {tr : TA} {PR : List PyData → Prop} (ha : EvP K M ta σ H PA) (hr : EvPA K M tr σ H PR) : EvPA K M (tCons ta tr) σ H (fun l => ∃ a ds, l = a :: ds ∧ PA a ∧ PR ds) := fun H1 e Q q =>
  ha H1 e _ fun x a H2 e2 dx px => hr H2 (e.trans e2) _ fun vs ds H3 e3 dv pv => q _ _ H3 (e2.trans e3) (.cons (dx.ex e3) dv) ⟨a, ds, rfl, px, pv⟩
theorem eva_cons {tr : TA} {ds : List PyData} (ha : EvD K M ta σ H d) (hr : EvDA K M tr σ H ds) : EvDA K M (tCons ta tr) σ H (d :: ds) := fun H1 e Q q =>
  ha H1 e _ fun x a H2 e2 dx px => hr H2 (e.trans e2) _ fun vs es H3 e3 dv pv => q _ _ H3 (e2.trans e3) (.cons (dx.ex e3) dv) (by rw [px, pv])
/-- displays -/
theorem evp_tup {t : TA} {PL : List PyData → Prop} (h : EvPA K M t σ H PL) (hl : ∀ ds, PL ds → ds.length ≤ sizeLine) : EvP K M (tTup t) σ H (fun d => ∃ ds, d = .tuple ds ∧ PL ds) := fun H1 e Q q =>
  h H1 e _ fun vs ds H2 e2 dv pv => ⟨by rw [dv.length]; exact hl ds pv, fun p hp => q _ _ _ (e2.trans (Ex.new hp)) (.tup (SqT.of upd_same) (dv.ex (Ex.new hp))) ⟨ds, rfl, pv⟩⟩
theorem evd_tup {t : TA} {ds : List PyData} (h : EvDA K M t σ H ds) (hl : ds.length ≤ sizeLine := by decide) : EvD K M (tTup t) σ H (.tuple ds) := fun H1 e Q q =>
  h H1 e _ fun vs es H2 e2 dv pv => ⟨by rw [dv.length, pv]; exact hl, fun p hp => q _ _ _ (e2.trans (Ex.new hp)) (.tup (SqT.of upd_same) (dv.ex (Ex.new hp))) (by rw [pv])⟩
theorem evp_lst {t : TA} {PL : List PyData → Prop} (ok : Ok M H) (h : EvPA K M t σ H PL) (hl : ∀ ds, PL ds → ds.length ≤ sizeLine) : EvP K M (tLst t) σ H (fun d => ∃ ds, d = .list ds ∧ PL ds) := fun H1 e Q q =>
  h H1 e _ fun vs ds H2 e2 dv pv => ⟨by rw [dv.length]; exact hl ds pv, fun p hp => q _ _ _ (e2.trans (Ex.new hp)) (.lst upd_same ((ok.ex (e.trans e2)).new hp) (dv.ex (Ex.new hp))) ⟨ds, rfl, pv⟩⟩
theorem evd_lst {t : TA} {ds : List PyData} (ok : Ok M H) (h : EvDA K M t σ H ds) (hl : ds.length ≤ sizeLine := by decide) : EvD K M (tLst t) σ H (.list ds) := fun H1 e Q q =>
  h H1 e _ fun vs es H2 e2 dv pv => ⟨by rw [dv.length, pv]; exact hl, fun p hp => q _ _ _ (e2.trans (Ex.new hp)) (.lst upd_same ((ok.ex (e.trans e2)).new hp) (dv.ex (Ex.new hp))) (by rw [pv])⟩
/-- an item of a list, of a tuple -/
theorem evd_ixL {ds : List PyData} {i : Int} {j : Nat} (ha : EvD K M ta σ H (.list ds)) (hb : EvD K M tb σ H (.int i)) (hi : i = (j : Int)) (hj : ds[j]? = some d) : EvD K M (tOp (rIxL K) ta tb) σ H d :=
  evp_op ha hb fun x y a b H1 e dx dy px py Q q => by
    subst px py
    cases dx with
    | lst h1 h2 h3 =>
      cases dy
      obtain ⟨v, hv, dv⟩ := h3.at hj
      exact ⟨_, _, _, v, rfl, rfl, sq_of h1, by rw [hi]; exact atI_nat hv, q v d H1 (Ex.refl _) dv rfl⟩
theorem evd_ixT {ds : List PyData} {i : Int} {j : Nat} (ha : EvD K M ta σ H (.tuple ds)) (hb : EvD K M tb σ H (.int i)) (hi : i = (j : Int)) (hj : ds[j]? = some d) : EvD K M (tOp (rIxT K) ta tb) σ H d :=
  evp_op ha hb fun x y a b H1 e dx dy px py Q q => by
    subst px py
    cases dx with
    | tup h1 h3 =>
      cases dy
      obtain ⟨v, hv, dv⟩ := h3.at hj
      exact ⟨_, _, _, v, rfl, rfl, h1, by rw [hi]; exact atI_nat hv, q v d H1 (Ex.refl _) dv rfl⟩
/-- a part of a list, two lists together, list(..) -/
def EvPO (K : PySem.W.Frag) (M : Addr → Prop) (t : TO) (σ : L2.St) (H : Hp) (o : Option Int) : Prop := ∀ H1, Ex H H1 → ∀ Q : Option Int → Hp → Prop, (∀ H2, Ex H1 H2 → Q o H2) → t σ H1 Q
theorem evo_none : EvPO K M tNoPart σ H none := fun H1 e Q q => q H1 (Ex.refl _)
theorem evo_some {i : Int} (h : EvD K M te σ H (.int i)) : EvPO K M (tPart te) σ H (some i) := fun H1 e Q q =>
  h H1 e _ fun v d H2 e2 dv pd => by
    subst pd
    cases dv
    exact ⟨i, rfl, q H2 e2⟩
theorem evd_slL {ds : List PyData} {tl th : TO} {lo hi : Option Int} (ok : Ok M H) (ha : EvD K M ta σ H (.list ds)) (hl : EvPO K M tl σ H lo) (hh : EvPO K M th σ H hi) : EvD K M (tSl (rSlL K) ta tl th) σ H (.list (cutG ds lo hi)) := fun H1 e Q q =>
  ha H1 e _ fun v d H2 e2 dv pd => hl H2 (e.trans e2) _ fun H3 e3 => hh H3 ((e.trans e2).trans e3) _ fun H4 e4 => by
    subst pd
    cases dv.ex (e3.trans e4) with
    | lst h1 h2 h3 => exact ⟨_, _, rfl, sq_of h1, fun p hp => q _ _ _ (((e2.trans e3).trans e4).trans (Ex.new hp)) (.lst upd_same ((ok.ex (((e.trans e2).trans e3).trans e4)).new hp) (h3.cut.ex (Ex.new hp))) rfl⟩
theorem evd_slS {z : Str} {tl th : TO} {lo hi : Option Int} (ha : EvD K M ta σ H (.str z)) (hz : z.length ≤ sizeLine) (hl : EvPO K M tl σ H lo) (hh : EvPO K M th σ H hi) : EvD K M (tSl (fun x lo hi H Q => ∃ z, x = .str z ∧ z.length ≤ sizeLine ∧ Q (.str (cutS z lo hi)) H) ta tl th) σ H (.str (cutS z lo hi)) := fun H1 e Q q =>
  ha H1 e _ fun v d H2 e2 dv pd => hl H2 (e.trans e2) _ fun H3 e3 => hh H3 ((e.trans e2).trans e3) _ fun H4 e4 => by
    subst pd
    cases dv
    exact ⟨_, rfl, hz, q _ _ H4 ((e2.trans e3).trans e4) (.str _) rfl⟩
theorem evd_cat {ds es : List PyData} (ok : Ok M H) (ha : EvD K M ta σ H (.list ds)) (hb : EvD K M tb σ H (.list es)) (hs : ds.length + es.length ≤ sizeLine) : EvD K M (tOp rCat ta tb) σ H (.list (ds ++ es)) :=
  evp_op ha hb fun x y a b H1 e dx dy px py Q q => by
    subst px py
    cases dx with
    | lst h1 h2 h3 =>
      cases dy with
      | lst k1 k2 k3 => exact ⟨_, _, _, _, rfl, rfl, h1, k1, by rw [h3.length, k3.length]; exact hs, fun p hp => q _ _ _ (Ex.new hp) (.lst upd_same ((ok.ex e).new hp) ((h3.append k3).ex (Ex.new hp))) rfl⟩
theorem evd_addS {i j : Str} (ha : EvD K M ta σ H (.str i)) (hb : EvD K M tb σ H (.str j)) (hs : i.length + j.length ≤ sizeLine) : EvD K M (tOp (fun x y H Q => ∃ i j, x = .str i ∧ y = .str j ∧ i.length + j.length ≤ sizeLine ∧ Q (.str (i ++ j)) H) ta tb) σ H (.str (i ++ j)) :=
  evp_op ha hb fun x y a b H1 e dx dy px py Q q => by
    subst px py
    cases dx
    cases dy
    exact ⟨i, j, rfl, rfl, hs, q _ _ H1 (Ex.refl _) (.str _) rfl⟩
/-- a built-in, an own def -/
theorem evp_cb {r : List V → Hp → VK → Prop} {t : TA} {PL : List PyData → Prop} (h : EvPA K M t σ H PL)
    (hr : ∀ vs ds H1, Ex H H1 → Dts K M H1 vs ds → PL ds → ∀ Q : VK, (∀ v d H2, Ex H1 H2 → Dt K M H2 v d → P d → Q v H2) → r vs H1 Q) : EvP K M (tCB r t) σ H P := fun H1 e Q q =>
  h H1 e _ fun vs ds H2 e2 dv pv => hr vs ds H2 (e.trans e2) dv pv Q fun v d H3 e3 dd pd => q v d H3 (e2.trans e3) dd pd
/-- the promise of a def from data to data -/
def spD (K : PySem.W.Frag) (A : List PyData → Prop) (B : List PyData → PyData → Prop) : Sp := fun vs H Q _ =>
  ∃ (M : Addr → Prop) (ds : List PyData), Ok M H ∧ Dts K M H vs ds ∧ A ds ∧ ∀ v d H', Ex H H' → Dt K M H' v d → B ds d → Q v H'
theorem evp_call {A : List PyData → Prop} {B : List PyData → PyData → Prop} {E : XK} {t : TA} {PL : List PyData → Prop} (ok : Ok M H) (h : EvPA K M t σ H PL) (ha : ∀ ds, PL ds → A ds) : EvP K M (tCall (spD K A B) [] E t) σ H (fun d => ∃ ds, PL ds ∧ B ds d) := fun H1 e Q q =>
  h H1 e _ fun vs ds H2 e2 dv pv => ⟨M, ds, ok.ex (e.trans e2), by rw [List.append_nil]; exact dv, ha ds pv, fun v d H3 e3 dd pd => q v d H3 (e2.trans e3) dd ⟨ds, pv, pd⟩⟩
theorem evd_call {A : List PyData → Prop} {F : List PyData → PyData} {E : XK} {t : TA} {ds : List PyData} (ok : Ok M H) (h : EvDA K M t σ H ds) (ha : A ds) : EvD K M (tCall (spD K A fun ds d => d = F ds) [] E t) σ H (F ds) :=
  (evp_call ok h fun es pe => by rw [pe]; exact ha).mono fun d ⟨es, pe, pd⟩ => by rw [pd, pe]
/-- tests -/
theorem EvT.use {t : TT} {b : Bool} (h : EvT t σ H b) {Q : Bool → Hp → Prop} (q : ∀ H2, Ex H H2 → Q b H2) : t σ H Q := h H (Ex.refl H) Q q
theorem evt_test {b : Bool} (h : EvD K M te σ H (.bool b)) : EvT (tTest te) σ H b := fun H1 e Q q => h H1 e _ fun v d H2 e2 dv pd => by
  subst pd
  cases dv
  exact ⟨b, rfl, q H2 e2⟩
theorem evt_B {b : Bool} (h : EvD K M te σ H (.bool b)) : EvT (tB te) σ H b := fun H1 e Q q => h H1 e _ fun v d H2 e2 dv pd => by
  subst pd
  cases dv
  exact ⟨b, rfl, q H2 e2⟩
theorem evt_yes : EvT tYes σ H true := fun H1 e Q q => q H1 (Ex.refl _)
theorem evd_andV {a b : Bool} (ha : EvD K M ta σ H (.bool a)) (hb : a = true → EvD K M tb σ H (.bool b)) : EvD K M (tAndV ta tb) σ H (.bool (a && b)) := fun H1 e Q q => ha H1 e _ fun v d H2 e2 dv pd => by
  subst pd
  cases dv
  refine ⟨a, rfl, ?_⟩
  cases a with
  | true => exact iteT (hb rfl H2 (e.trans e2) _ fun v d H3 e3 dv pd => q v d H3 (e2.trans e3) dv (by rw [pd]; rfl))
  | false => exact iteF (q _ _ H2 e2 (.bl _) rfl)
theorem evd_orV {a b : Bool} (ha : EvD K M ta σ H (.bool a)) (hb : a = false → EvD K M tb σ H (.bool b)) : EvD K M (tOrV ta tb) σ H (.bool (a || b)) := fun H1 e Q q => ha H1 e _ fun v d H2 e2 dv pd => by
  subst pd
  cases dv
  refine ⟨a, rfl, ?_⟩
  cases a with
  | false => exact iteF (hb rfl H2 (e.trans e2) _ fun v d H3 e3 dv pd => q v d H3 (e2.trans e3) dv (by rw [pd]; rfl))
  | true => exact iteT (q _ _ H2 e2 (.bl _) rfl)
theorem evd_notV {a : Bool} (ha : EvD K M ta σ H (.bool a)) : EvD K M (tNotV ta) σ H (.bool (!a)) := fun H1 e Q q => ha H1 e _ fun v d H2 e2 dv pd => by
  subst pd
  cases dv
  exact ⟨a, rfl, q _ _ H2 e2 (.bl _) rfl⟩
theorem evp_if {t : TT} {b : Bool} (h : EvT t σ H b) (h1 : b = true → EvP K M ta σ H P) (h2 : b = false → EvP K M tb σ H P) : EvP K M (tIf t ta tb) σ H P := fun H1 e Q q => h H1 e _ fun H2 e2 => by
  cases b with
  | true => exact iteT (h1 rfl H2 (e.trans e2) Q fun v d H3 e3 => q v d H3 (e2.trans e3))
  | false => exact iteF (h2 rfl H2 (e.trans e2) Q fun v d H3 e3 => q v d H3 (e2.trans e3))
/-- a chain of two comparisons of ints -/
theorem evd_chainI {g g' : Int → Int → Bool} {i j k : Int} (ha : EvD K M ta σ H (.int i)) (hb : EvD K M tb σ H (.int j)) (hc : EvD K M tc σ H (.int k)) : EvD K M (tChain (rI0 fun i j => .bl (g i j)) (rI0 fun i j => .bl (g' i j)) ta tb tc) σ H (.bool (g i j && g' j k)) := fun H1 e Q q =>
  ha H1 e _ fun x a H2 e2 dx px => hb H2 (e.trans e2) _ fun y b H3 e3 dy py => by
    subst px py
    cases dx
    cases dy
    refine ⟨i, j, rfl, rfl, g i j, rfl, ?_⟩
    cases hg : g i j with
    | false => exact iteF (q _ _ H3 (e2.trans e3) (.bl _) (by rw [hg]; rfl))
    | true => exact iteT (hc H3 ((e.trans e2).trans e3) _ fun z c H4 e4 dz pz => by
        subst pz
        cases dz
        exact ⟨j, k, rfl, rfl, q _ _ H4 ((e2.trans e3).trans e4) (.bl _) (by rw [hg]; rfl)⟩)
end
end TH
set_option maxRecDepth 100000
set_option maxHeartbeats 4000000
namespace TH
open PySem L2 Evl
section
variable {K : PySem.W.Frag} {M : Addr → Prop} {H H1 H' : Hp} {σ : L2.St} {ta tb te tl : TE} {tt : TT} {g : TG} {vs : List Nat}
def more (M : Addr → Prop) (D : Addr) : Addr → Prop := fun a => M a ∨ a = D
theorem Dt.more {v : V} {d : PyData} {D : Addr} (h : Dt K M H v d) (hD : H D = none) : Dt K (TH.more M D) H v d :=
  Dt.move (fun a xs h n => ⟨h, fun z => z.elim n fun e => by rw [e, hD] at h; cases h⟩) (fun a xs h => h) d v h
theorem Dts.more {v : List V} {d : List PyData} {D : Addr} (h : Dts K M H v d) (hD : H D = none) : Dts K (TH.more M D) H v d :=
  Dts.move (fun a xs h n => ⟨h, fun z => z.elim n fun e => by rw [e, hD] at h; cases h⟩) (fun a xs h => h) d v h
theorem more_sub {D : Addr} : ∀ a, M a → TH.more M D a := fun _ h => .inl h
theorem paired_map {α : Type} {F : α → PyData} : ∀ {l : List α} {es : List PyData}, Paired (fun a e => e = F a) l es → es = l.map F
  | _, _, .nil => rfl
  | _, _, .cons h t => by rw [h, paired_map t]; rfl
theorem paired_len {α : Type} {P : α → PyData → Prop} : ∀ {l : List α} {es : List PyData}, Paired P l es → es.length = l.length
  | _, _, .nil => rfl
  | _, _, .cons h t => by rw [List.length_cons, List.length_cons, paired_len t]
theorem paired_mem {α : Type} {P : α → PyData → Prop} : ∀ {l : List α} {es : List PyData}, Paired P l es → ∀ e ∈ es, ∃ a ∈ l, P a e
  | _, _, .nil, e, h => by cases h
  | _, _, .cons h t, e, he => by
    rcases List.mem_cons.mp he with rfl | he
    · exact ⟨_, List.mem_cons_self, h⟩
    · obtain ⟨a, ha, p⟩ := paired_mem t e he
      exact ⟨a, List.mem_cons_of_mem _ ha, p⟩
/-- what a turn of a comprehension gives -/
def Turned (K : PySem.W.Frag) (M : Addr → Prop) (σ : L2.St) (vs : List Nat) (tt : TT) (te : TE) (b : Bool) (P : PyData → Prop) (σ2 : L2.St) (H2 : Hp) : Prop :=
  wipe σ2 vs = wipe σ vs ∧ EvT tt σ2 H2 b ∧ (b = true → EvP K M te σ2 H2 P)
theorem lc_data {α : Type} (L : List α) {J : It} {G : Hp → Prop} {Y : Nat → Hp → V → Hp → Prop} (w : Walk J L.length G Y) {D : Addr} {Qd : Hp → Prop} (ok : Ok M H1) (hD : H1 D = none) (hn : L.length < sizeLine)
    (f : α → Bool) (P : α → PyData → Prop) (hG : ∀ H, Ex H1 H → G H)
    (hs : ∀ (M' : Addr → Prop) (i : Nat) (a : α) (x : V) (H H' : Hp), (∀ v d, Dt K M H1 v d → Dt K M' H1 v d) → Ok M' H → L[i]? = some a → Ex H1 H → Y i H x H' →
      ∀ Qg : L2.St → Hp → Prop, (∀ σ2 H2, Ex H H2 → Turned K M' σ vs tt te (f a) (P a) σ2 H2 → Qg σ2 H2) → g x (wipe σ vs) H' Qg)
    (q : ∀ H es, Ex H1 H → Dt K M H (.ref D) (.list es) → Paired P (L.filter f) es → Qd H) :
    ∃ W : Nat → Nat → Hp → Prop, (∃ m, W 0 m (upd H1 D (.lst []))) ∧ ∀ i m H, W i m H →
      (J.stop i H ∧ Qd H) ∨ (J.go i H ∧ ∃ Nx : Hp → Prop, (∀ H', Nx H' → ∃ m', m' < m ∧ W (i + 1) m' H') ∧ ∀ x H', J.yld i H x H' → g x (wipe σ vs) H' fun σ2 H2 => wipe σ2 vs = wipe σ vs ∧ tt σ2 H2 fun b H3 =>
        if b = true then te σ2 H3 fun y H4 => ∃ acc, H4 D = some (.lst acc) ∧ acc.length < sizeLine ∧ Nx (upd H4 D (.lst (acc ++ [y]))) else Nx H3) := by
  have ok' : ∀ {H}, Ex H1 H → H D ≠ none → Ok (TH.more M D) H := fun {H} e n l m => by
    rcases m with m | rfl
    · exact (ok.ex e) l m
    · exact n
  refine lc_it w (fun i H => Ex H1 H ∧ ∃ acc es, H D = some (.lst acc) ∧ Dts K (TH.more M D) H acc es ∧ Paired P ((L.take i).filter f) es)
    ⟨Ex.new hD, [], [], upd_same, .nil, .nil⟩ (fun i H _ p => hG H p.1) (fun i x H H' hi p y => ?_) (fun H p => ?_)
  · obtain ⟨e, acc, es, hacc, dacc, pr⟩ := p
    obtain ⟨a, ha⟩ : ∃ a, L[i]? = some a := ⟨L[i], List.getElem?_eq_getElem hi⟩
    have tk : L.take (i + 1) = L.take i ++ [a] := by rw [List.take_add_one, ha]; rfl
    refine hs (TH.more M D) i a x H H' (fun v d h => h.more hD) (ok' e (by rw [hacc]; simp)) ha e y _ fun σ2 H2 e2 T => ?_
    obtain ⟨hw, ht, he⟩ := T
    refine ⟨hw, ht H2 (Ex.refl _) _ fun H3 e3 => ?_⟩
    have e03 := e2.trans e3
    have lacc : acc.length ≤ i := by
      rw [dacc.length, paired_len pr]
      refine Nat.le_trans (List.length_filter_le _ _) ?_
      rw [List.length_take]
      exact Nat.min_le_left _ _
    cases hf : f a with
    | true =>
      refine iteT (he hf H3 e3 _ fun y d H4 e4 dy py => ?_)
      refine ⟨acc, e4 _ _ (e03 _ _ hacc), Nat.lt_of_le_of_lt lacc (Nat.lt_trans hi hn), ?_, acc ++ [y], es ++ [d], upd_same, ?_, ?_⟩
      · exact Ex.mut ((e.trans e03).trans e4) hD
      · exact (((dacc.ex (e03.trans e4))).append (.one dy)).upd (e4 _ _ (e03 _ _ hacc)) (.inr rfl)
      · rw [tk, List.filter_append, List.filter_cons, hf, if_pos rfl]
        exact Paired.snoc pr py
    | false =>
      refine iteF ⟨e.trans e03, acc, es, e03 _ _ hacc, dacc.ex e03, ?_⟩
      rw [tk, List.filter_append, List.filter_cons, hf]
      simpa using pr
  · obtain ⟨e, acc, es, hacc, dacc, pr⟩ := p
    rw [List.take_length] at pr
    exact q H es e (.lst hacc (ok.new hD) (dacc.weak more_sub)) pr
/-- over a list -/
theorem evp_lcL {ds : List PyData} (f : PyData → Bool) (P : PyData → PyData → Prop) (ok : Ok M H) (hl : EvD K M tl σ H (.list ds)) (hz : ds.length < sizeLine)
    (hs : ∀ (M' : Addr → Prop) (d : PyData) (x : V) (H' : Hp), (∀ v d, Dt K M H v d → Dt K M' H' v d) → Ok M' H' → d ∈ ds → Ex H H' → Dt K M' H' x d →
      ∀ Qg : L2.St → Hp → Prop, (∀ σ2 H2, Ex H' H2 → Turned K M' σ vs tt te (f d) (P d) σ2 H2 → Qg σ2 H2) → g x (wipe σ vs) H' Qg) :
    EvP K M (tLc (iList K tl) g tt te vs) σ H (fun d => ∃ es, d = .list es ∧ Paired P (ds.filter f) es) := fun H0 e Q q =>
  hl H0 e _ fun v d H1 e1 dv pd => by
    subst pd
    cases dv with
    | lst h1 h2 h3 =>
      rename_i a xs
      refine ⟨a, rfl, ⟨xs, sq_of h1⟩, fun D hD => ?_⟩
      have hw : Walk (Itl K a) ds.length (fun H => SqL K H a xs) (YAt xs) := by
        rw [← h3.length]
        exact walk_list
      refine lc_data (σ := σ) (vs := vs) ds hw ((ok.ex (e.trans e1))) hD hz f P (fun H e => sq_of (e _ _ h1)) (fun M' i d x H2 H' hm ok' hd e2 y Qg qg => ?_) (fun H2 es e2 dd pr => q _ _ H2 (e1.trans e2) dd ⟨es, rfl, pr⟩)
      obtain ⟨rfl, hx⟩ := y
      obtain ⟨d', hd', dx⟩ := h3.get hx
      rw [hd] at hd'
      cases hd'
      exact hs M' d x _ (fun v d h => (hm v d (h.ex (e.trans e1))).ex e2) ok' (List.mem_of_getElem? hd) ((e.trans e1).trans e2) ((hm _ _ dx).ex e2) Qg qg
theorem evd_lcL {ds : List PyData} (f : PyData → Bool) (F : PyData → PyData) (ok : Ok M H) (hl : EvD K M tl σ H (.list ds)) (hz : ds.length < sizeLine)
    (hs : ∀ (M' : Addr → Prop) (d : PyData) (x : V) (H' : Hp), (∀ v d, Dt K M H v d → Dt K M' H' v d) → Ok M' H' → d ∈ ds → Ex H H' → Dt K M' H' x d →
      ∀ Qg : L2.St → Hp → Prop, (∀ σ2 H2, Ex H' H2 → Turned K M' σ vs tt te (f d) (· = F d) σ2 H2 → Qg σ2 H2) → g x (wipe σ vs) H' Qg) :
    EvD K M (tLc (iList K tl) g tt te vs) σ H (.list ((ds.filter f).map F)) :=
  (evp_lcL f (fun d e => e = F d) ok hl hz hs).mono fun d ⟨es, e, pr⟩ => by rw [e, paired_map pr]
/-- over a text -/
theorem evp_lcS {z : Str} (f : Nat → Bool) (P : Nat → PyData → Prop) (ok : Ok M H) (hl : EvD K M tl σ H (.str z)) (hz : z.length < sizeLine)
    (hs : ∀ (M' : Addr → Prop) (c : Nat) (H' : Hp), (∀ v d, Dt K M H v d → Dt K M' H' v d) → Ok M' H' → c ∈ z.cps.toList → Ex H H' →
      ∀ Qg : L2.St → Hp → Prop, (∀ σ2 H2, Ex H' H2 → Turned K M' σ vs tt te (f c) (P c) σ2 H2 → Qg σ2 H2) → g (.str ⟨#[c]⟩) (wipe σ vs) H' Qg) :
    EvP K M (tLc (iStr tl) g tt te vs) σ H (fun d => ∃ es, d = .list es ∧ Paired P (z.cps.toList.filter f) es) := fun H0 e Q q =>
  hl H0 e _ fun v d H1 e1 dv pd => by
    subst pd
    cases dv
    refine ⟨z, rfl, fun D hD => ?_⟩
    have hw : Walk (Its z) z.cps.toList.length (fun _ => True) (fun i H v H' => H' = H ∧ ∃ c, z.cps[i]? = some c ∧ v = .str ⟨#[c]⟩) := by
      rw [Array.length_toList]
      exact walk_str
    refine lc_data (σ := σ) (vs := vs) z.cps.toList hw ((ok.ex (e.trans e1))) hD (by rw [Array.length_toList]; exact hz) f P (fun H e => trivial) (fun M' i d x H2 H' hm ok' hd e2 y Qg qg => ?_) (fun H2 es e2 dd pr => q _ _ H2 (e1.trans e2) dd ⟨es, rfl, pr⟩)
    obtain ⟨rfl, c, hc, rfl⟩ := y
    have ec : c = d := by
      rw [Array.getElem?_toList, hc] at hd
      exact Option.some.inj hd
    subst ec
    exact hs M' c _ (fun v d h => (hm v d (h.ex (e.trans e1))).ex e2) ok' (Array.mem_toList_iff.mpr (Array.mem_of_getElem? hc)) ((e.trans e1).trans e2) Qg qg
theorem evd_lcS {z : Str} (f : Nat → Bool) (F : Nat → PyData) (ok : Ok M H) (hl : EvD K M tl σ H (.str z)) (hz : z.length < sizeLine)
    (hs : ∀ (M' : Addr → Prop) (c : Nat) (H' : Hp), (∀ v d, Dt K M H v d → Dt K M' H' v d) → Ok M' H' → c ∈ z.cps.toList → Ex H H' →
      ∀ Qg : L2.St → Hp → Prop, (∀ σ2 H2, Ex H' H2 → Turned K M' σ vs tt te (f c) (· = F c) σ2 H2 → Qg σ2 H2) → g (.str ⟨#[c]⟩) (wipe σ vs) H' Qg) :
    EvD K M (tLc (iStr tl) g tt te vs) σ H (.list ((z.cps.toList.filter f).map F)) :=
  (evp_lcS f (fun d e => e = F d) ok hl hz hs).mono fun d ⟨es, e, pr⟩ => by rw [e, paired_map pr]
/-- over range(n) -/
theorem evp_lcR {ta : TA} {PN : Int → Prop} (f : Nat → Bool) (P : Nat → PyData → Prop) (ok : Ok M H) (hl : EvPA K M ta σ H (fun l => ∃ n : Int, l = [.int n] ∧ PN n)) (hz : ∀ n, PN n → 0 ≤ n ∧ n ≤ 100000)
    (hs : ∀ (M' : Addr → Prop) (n : Int) (i : Nat) (H' : Hp), (∀ v d, Dt K M H v d → Dt K M' H' v d) → Ok M' H' → PN n → (i : Int) < n → Ex H H' →
      ∀ Qg : L2.St → Hp → Prop, (∀ σ2 H2, Ex H' H2 → Turned K M' σ vs tt te (f i) (P i) σ2 H2 → Qg σ2 H2) → g (.int (i : Int)) (wipe σ vs) H' Qg) :
    EvP K M (tLc (iRng1 ta) g tt te vs) σ H (fun d => ∃ (n : Int) (es : List PyData), PN n ∧ d = .list es ∧ Paired P ((List.range n.toNat).filter f) es) := fun H0 e Q q =>
  hl H0 e _ fun us ds H1 e1 dv pd => by
    obtain ⟨n, rfl, pn⟩ := pd
    have hz := hz n pn
    cases dv with
    | cons h1 h2 =>
      cases h1
      cases h2
      refine ⟨n, rfl, by omega, by omega, fun D hD => ?_⟩
      have hw : Walk (Itr 0 n.toNat) (List.range n.toNat).length (fun _ => True) (YFn fun i => .int (0 + i)) := by
        rw [List.length_range]
        exact walk_range
      refine lc_data (σ := σ) (vs := vs) (List.range n.toNat) hw ((ok.ex (e.trans e1))) hD (by rw [List.length_range]; exact Nat.lt_of_le_of_lt (show n.toNat ≤ 100000 by omega) (by decide)) f P (fun H e => trivial) (fun M' i d x H2 H' hm ok' hd e2 y Qg qg => ?_) (fun H2 es e2 dd pr => q _ _ H2 (e1.trans e2) dd ⟨n, es, pn, rfl, pr⟩)
      obtain ⟨h1, h2⟩ := List.getElem?_eq_some_iff.mp hd
      rw [List.getElem_range] at h2
      rw [List.length_range] at h1
      subst h2
      obtain ⟨rfl, rfl⟩ := y
      show g (V.int (0 + (i : Int))) (wipe σ vs) _ Qg
      rw [Int.zero_add]
      exact hs M' n i _ (fun v d h => (hm v d (h.ex (e.trans e1))).ex e2) ok' pn (by omega) ((e.trans e1).trans e2) Qg qg
end
/-! ### rules by the written part's own letter, for a comprehension's block -/
section
variable {X : Cx} {K : PySem.W.Frag}
theorem ix_tupK (h : X.K = K) : IxR X (rIxT K) := by
  subst h
  exact ix_tup
theorem ix_listK (h : X.K = K) : IxR X (rIxL K) := by
  subst h
  exact ix_list
theorem sl_listK (h : X.K = K) : SlR X (rSlL K) := by
  subst h
  exact sl_list
theorem pi_listK {tg l : Expr} {tl : TE} (h : X.K = K) (hl : PE X l tl) : PI X tg l (iList K tl) := by
  subst h
  exact pi_list hl
theorem op_notIn_seqK (h : X.K = K) : OpR X (compareOp .NotIn) (rIn K true) := by
  subst h
  exact op_notIn_seq
theorem op_in_seqK (h : X.K = K) : OpR X (compareOp .In) (rIn K false) := by
  subst h
  exact op_in_seq
end
/-! ### statements -/
section
variable {K : PySem.W.Frag} {M : Addr → Prop} {H H' : Hp} {σ : L2.St} {te : TE} {P : PyData → Prop} {D : Ends} {tz : TS}
theorem s_retP (h : EvP K M te σ H P) (k : ∀ v d H1, Ex H H1 → Dt K M H1 v d → P d → D.rt v H1) : tRet te D σ H := h.use k
theorem q_asgP {i : Nat} (h : EvP K M te σ H P) (k : ∀ v d H1, Ex H H1 → Dt K M H1 v d → P d → tz D (σ.set i (some v)) H1) : tSeq (tAsg te (gName i)) tz D σ H := h.use k
theorem s_asgP {i : Nat} (h : EvP K M te σ H P) (k : ∀ v d H1, Ex H H1 → Dt K M H1 v d → P d → D.nx (σ.set i (some v)) H1) : tAsg te (gName i) D σ H := h.use k
theorem s_dropP (h : EvP K M te σ H P) (k : ∀ v d H1, Ex H H1 → Dt K M H1 v d → P d → D.nx σ H1) : tDrop te D σ H := h.use k
theorem q_dropP (h : EvP K M te σ H P) (k : ∀ v d H1, Ex H H1 → Dt K M H1 v d → P d → tz D σ H1) : tSeq (tDrop te) tz D σ H := h.use k
end
end TH
set_option maxRecDepth 100000
set_option maxHeartbeats 4000000
namespace TH
open PySem L2 Evl
abbrev sName : Stmt := top 20
abbrev sSign : Stmt := top 21
structure GlobS (mg : Str → Option Value) : Prop extends Glob mg where
  all : mg "all" = none
  any : mg "any" = none
  longest : ∃ t, mg "LONGEST_NAME" = some (.int 3 t)
  most : ∃ t, mg "MOST_SIGNS" = some (.int 6 t)
  mostK : ∃ t, mg "MOST_KIDS" = some (.int 2 t)
  enumerate : mg "enumerate" = none
section
variable {K : PySem.W.Frag} {M : Addr → Prop} {H H1 H' : Hp} {σ : L2.St} {ta tb tc te tl : TE}
/-- a chain of two <= of texts -/
theorem evd_chainS {i j k : Str} (ha : EvD K M ta σ H (.str i)) (hb : EvD K M tb σ H (.str j)) (hc : EvD K M tc σ H (.str k)) :
    EvD K M (tChain (fun x y H Q => ∃ i j, x = .str i ∧ y = .str j ∧ Q (.bl (!decide (j.cps.toList < i.cps.toList))) H) (fun x y H Q => ∃ i j, x = .str i ∧ y = .str j ∧ Q (.bl (!decide (j.cps.toList < i.cps.toList))) H) ta tb tc) σ H
      (.bool ((!decide (j.cps.toList < i.cps.toList)) && (!decide (k.cps.toList < j.cps.toList)))) := fun H1 e Q q =>
  ha H1 e _ fun x a H2 e2 dx px => hb H2 (e.trans e2) _ fun y b H3 e3 dy py => by
    subst px py
    cases dx
    cases dy
    refine ⟨i, j, rfl, rfl, _, rfl, ?_⟩
    cases hg : (!decide (j.cps.toList < i.cps.toList)) with
    | false => exact iteF (q _ _ H3 (e2.trans e3) (.bl _) (by rw [hg]; rfl))
    | true => exact iteT (hc H3 ((e.trans e2).trans e3) _ fun z c H4 e4 dz pz => by
        subst pz
        cases dz
        exact ⟨j, k, rfl, rfl, q _ _ H4 ((e2.trans e3).trans e4) (.bl _) (by rw [hg]; rfl)⟩)
/-- all, any -/
theorem evd_all {ta : TA} {bs : List Bool} (h : EvDA K M ta σ H [.list (bs.map PyData.bool)]) : EvD K M (tCB (rAll K) ta) σ H (.bool (bs.all id)) :=
  evp_cb h fun vs ds H1 e dv pd Q q => by
    subst pd
    cases dv with
    | cons h1 h2 =>
      cases h2
      cases h1 with
      | lst k1 k2 k3 => exact ⟨_, bs, rfl, by rw [← k3.bls]; exact sq_of k1, q _ _ H1 (Ex.refl _) (.bl _) rfl⟩
theorem evd_any {ta : TA} {bs : List Bool} (h : EvDA K M ta σ H [.list (bs.map PyData.bool)]) : EvD K M (tCB (rAny K) ta) σ H (.bool (bs.any id)) :=
  evp_cb h fun vs ds H1 e dv pd Q q => by
    subst pd
    cases dv with
    | cons h1 h2 =>
      cases h2
      cases h1 with
      | lst k1 k2 k3 => exact ⟨_, bs, rfl, by rw [← k3.bls]; exact sq_of k1, q _ _ H1 (Ex.refl _) (.bl _) rfl⟩
/-- len of a text, of a list, of a tuple -/
theorem evd_lenS {ta : TA} {z : Str} (h : EvDA K M ta σ H [.str z]) (hz : z.length ≤ sizeLine) : EvD K M (tCB (fun xs H Q => ∃ z, xs = [.str z] ∧ z.length ≤ sizeLine ∧ Q (.int z.length) H) ta) σ H (.int z.length) :=
  evp_cb h fun vs ds H1 e dv pd Q q => by
    subst pd
    cases dv with
    | cons h1 h2 =>
      cases h2
      cases h1
      exact ⟨z, rfl, hz, q _ _ H1 (Ex.refl _) (.int _) rfl⟩
theorem evd_lenL {ta : TA} {es : List PyData} (h : EvDA K M ta σ H [.list es]) : EvD K M (tCB (fun xs H Q => ∃ p ys, xs = [.ref p] ∧ (SqL K H p ys ∨ SqT K H p ys) ∧ Q (.int ys.length) H) ta) σ H (.int es.length) :=
  evp_cb h fun vs ds H1 e dv pd Q q => by
    subst pd
    cases dv with
    | cons h1 h2 =>
      cases h2
      cases h1 with
      | lst k1 k2 k3 => exact ⟨_, _, rfl, .inl (sq_of k1), q _ _ H1 (Ex.refl _) (.int _) (by rw [k3.length])⟩
theorem evd_lenT {ta : TA} {es : List PyData} (h : EvDA K M ta σ H [.tuple es]) : EvD K M (tCB (fun xs H Q => ∃ p ys, xs = [.ref p] ∧ (SqL K H p ys ∨ SqT K H p ys) ∧ Q (.int ys.length) H) ta) σ H (.int es.length) :=
  evp_cb h fun vs ds H1 e dv pd Q q => by
    subst pd
    cases dv with
    | cons h1 h2 =>
      cases h2
      cases h1 with
      | tup k1 k3 => exact ⟨_, _, rfl, .inr k1, q _ _ H1 (Ex.refl _) (.int _) (by rw [k3.length])⟩
theorem evt_not {t : TT} {b : Bool} (h : EvT t σ H b) : EvT (tNot t) σ H (!b) := et_not h
end
theorem filter_yes {α : Type} (l : List α) : l.filter (fun _ => true) = l := by simp
/-! ### is_name, is_sign -/
def okc (c : Nat) : Bool := (!decide ([c] < ("a" : Str).cps.toList)) && (!decide (("z" : Str).cps.toList < [c]))
def isNameB (z : Str) : Bool := (decide (1 ≤ (z.length : Int)) && decide ((z.length : Int) ≤ 3)) && z.cps.toList.all okc
def nameA : List PyData → Prop := fun ds => ∃ z : Str, ds = [.str z, .int 3] ∧ z.length ≤ 100000
def nameF : List PyData → PyData
  | [.str z, .int _] => .bool (isNameB z)
  | _ => .none
section
variable {P : Program} {w : World} {K : PySem.W.Frag} {mg : Str → Option Value} {base : Heap}
theorem scName : FnScope ["name", "longest", "letter"] ["name", "longest"] (defScope sName) := ⟨rfl, rfl, rfl, by decide +kernel, rfl, by decide +kernel, by decide +kernel⟩
theorem ok_name {f : Addr} {fd : FuncData} (F : Fun K "is_name" "is_name" sName f fd) (G : GlobS mg) : FnOk P w K mg base CX0 1 f fd ["name", "longest"] (spD K nameA fun ds d => d = nameF ds) := by
  refine F.ok scName (fun vs H Q E h => ?_) (fun cdv A outer s H vs Q E hr h => ?_)
  · obtain ⟨M, ds, _, dv, ⟨z, rfl, _⟩, _⟩ := h
    exact dv.length
  · obtain ⟨M, ds, ok, dv, ⟨z, rfl, hz⟩, q⟩ := h
    cases dv with
    | cons h1 h2 =>
    cases h2 with
    | cons h3 h4 =>
    cases h1
    cases h3
    cases h4
    refine ⟨_, pss_cons (ps_if (pt_not (pt_chain op_le op_le pe_int (pe_callB call_len_str (by rfl) G.len PySem.boot_len (pa_cons (pv 0) pa_nil)) (pv 1))) (pss_one (ps_ret pe_bl)) pss_nil)
      (pss_one (ps_ret (pe_callB (cr_all rfl) (by rfl) G.all (by decide +kernel) (pa_cons (pe_lc (own := [("letter", 2)]) (g := gName 2) (tt := tYes) rfl scName.nd (pi_str (pv 0))
          (blkOk_by (N := ["name", "longest", "letter"]) (sc := defScope sName) (by decide +kernel)) (fun _ _ _ _ _ => pg_name (i := 2) scName.nd rfl (.inl rfl)) (fun _ _ _ _ _ => pts_nil)
          (fun _ _ _ _ _ => pe_chain op_le_str op_le_str pe_str (pv 2) pe_str)) pa_nil)))), ?_⟩
    have hs : z.length ≤ sizeLine := sz_of hz
    -- if not 1 <= len(name) <= 3
    refine q_when (evt_not (evt_test (K := K) (M := M) (evd_chainI (g := fun i j => decide (i ≤ j)) (g' := fun i j => decide (i ≤ j)) evd_int (evd_lenS (eva_cons (evd_var rfl (.str z)) eva_nil) hs) (evd_var rfl (.int 3))))) (fun hb H1 e1 => ?_) (fun hb H1 e1 => ?_)
    · refine q _ _ H1 e1 (.bl _) ?_
      show PyData.bool false = .bool (isNameB z)
      unfold isNameB
      rw [Bool.not_eq_true'] at hb
      rw [hb]
      rfl
    · rw [Bool.not_eq_false'] at hb
      have ok1 := ok.ex e1
      refine s_retP (K := K) (M := M) (evd_all (bs := z.cps.toList.map okc) (eva_cons ?_ eva_nil)) fun v d H2 e2 dv pd => q v d H2 (e1.trans e2) dv ?_
      · refine (evd_lcS (fun _ => true) (fun c => .bool (okc c)) ok1 (evd_var rfl (.str z)) (Nat.lt_of_le_of_lt hz (by decide)) fun M' c H' hm ok' hc e Qg qg => ?_).mono fun d h => ?_
        · exact qg _ H' (Ex.refl _) ⟨rfl, evt_yes, fun _ => (evd_chainS (i := "a") (j := ⟨#[c]⟩) (k := "z") evd_str (evd_var rfl (.str _)) evd_str).mono fun d h => h⟩
        · rw [h, filter_yes, List.map_map]
          rfl
      · rw [pd]
        show _ = PyData.bool (isNameB z)
        unfold isNameB
        rw [hb, List.all_map]
        rfl
end
end TH
set_option maxRecDepth 100000
set_option maxHeartbeats 4000000
namespace TH
open PySem PySem.Spec PyProof.Rows L2 Evl PpSet
/-! ### {elt for target in iter}, the members ints or texts -/
section
variable {X : Cx}
/-- one turn of the block: the member goes into the set at D -/
def SetTurn (P : Program) (w : World) (D : Addr) (σ0 : L2.St) (vs : List Nat) (tt : TT) (te : TE) (Nx : Hp → Prop) (σ2 : L2.St) (H2 : Hp) : Prop :=
  wipe σ2 vs = wipe σ0 vs ∧ tt σ2 H2 fun b H3 =>
    if b = true then te σ2 H3 fun y H4 =>
      ∃ (k : Key) (S : Key → Bool) (n : Nat), y = kV k ∧ H4 D = some (SetK P w D S n) ∧ n + 1 < scanBound ∧
        Nx (upd H4 D (SetK P w D (fun j => S j || decide (j = k)) (if S k = true then n else n + 1)))
    else Nx H3
def tScK (P : Program) (w : World) (wi : TI) (g : TG) (tt : TT) (te : TE) (vs : List Nat) : TE := fun σ H Q =>
  wi σ H fun J H1 => ∀ D, H1 D = none → ∃ W : Nat → Nat → Hp → Prop,
    (∃ m, W 0 m (upd H1 D (SetK P w D (fun _ => false) 0))) ∧
    ∀ i m H, W i m H → (J.stop i H ∧ Q (.ref D) H) ∨
      (J.go i H ∧ ∃ Nx : Hp → Prop, (∀ H', Nx H' → ∃ m', m' < m ∧ W (i + 1) m' H') ∧
        ∀ x H', J.yld i H x H' → g x (wipe σ vs) H' (SetTurn P w D σ vs tt te Nx))
/-- the member is added, within any context -/
theorem addK_ok {Y : Cx} {pins : List (Addr × Obj)} {σ : L2.St} {G : Hp} {s : Shared} {D : Addr} {S : Key → Bool} {n : Nat} {k : Key} {u : Value} {Q E : Value → Shared → Prop}
    (I : Inv Y pins σ G s) (hD : G D = some (SetK Y.prog Y.w D S n)) (ru : RelV (kV k) u) (room : n + 1 < scanBound)
    (h : ∀ v s', Inv Y pins σ (upd G D (SetK Y.prog Y.w D (fun j => S j || decide (j = k)) (if S k = true then n else n + 1))) s' → Q v s') :
    wpAny (model Y.prog Y.w) Y.A (call (.builtin "set.add") [.ref D, u]) Q E s := by
  refine call_set_add (kV_is ru) (key_scan ru) (setK_get I hD) room fun hp' same born => ?_
  have there : ∃ o, hp'.get? D = some o := by
    obtain ⟨o, _, _, _, ho, _⟩ := id born
    exact ⟨o, ho⟩
  exact h _ _ (I.write (e := D) (t' := s.toks + 1) (by rw [hD]; trivial) (.inl rfl) (fun b o hb ho => (same.2 b hb).trans ho) there (setK_new born))
theorem setK_start {G : Hp} {s : Shared} {pins : List (Addr × Obj)} {σ : L2.St} (I : Inv X pins σ G s) :
    Inv X pins σ (upd G s.heap.objs.size (SetK X.prog X.w s.heap.objs.size (fun _ => false) 0))
      { s with heap := s.heap.push { cls := .type "set", dict := none, data := .set #[] 0 (.fresh 0 0 (!X.w.params.followText "set-order")) } } := by
  have born : (s.heap.push { cls := .type "set", dict := none, data := .set #[] 0 (.fresh 0 0 (!X.w.params.followText "set-order")) }).SetOf (mixKind X.prog X.w) s.heap.objs.size (fun _ => false) 0 := by
    refine ⟨_, #[], 0, _, Heap.get?_push_size _ rfl, ⟨rfl, rfl, rfl⟩, rfl, ?_, ?_, by decide, by rfl, rfl⟩
    · intro e he
      simp at he
    · intro k
      simp
  exact I.laid (t' := s.toks) (fun b u q => Heap.get?_push_of_some _ q) (Nat.le_refl _) (setK_new born)
theorem pe_scK {elt tg iter : Expr} {ifs : List Expr} {scope : Scope} {own : List (Str × Nat)} {pos : Pos} {wi : TI} {g : TG} {tt : TT} {te : TE}
    (calm : X.calm = true) (nodup : X.N.Nodup) (src : PI X tg iter wi) (blk : BlkOk X.N X.env.scope scope own)
    (ptg : ∀ (s : Shared) (G : Hp) (C : Addr) (cl : List (Str × Addr)) (fp : List Addr), PG (X.blk s G scope (compEnvC scope cl C X.env) fp) tg g)
    (pif : ∀ (s : Shared) (G : Hp) (C : Addr) (cl : List (Str × Addr)) (fp : List Addr), PTs (X.blk s G scope (compEnvC scope cl C X.env) fp) ifs tt)
    (pel : ∀ (s : Shared) (G : Hp) (C : Addr) (cl : List (Str × Addr)) (fp : List Addr), PE (X.blk s G scope (compEnvC scope cl C X.env) fp) elt te)
    (fold : ∀ x, foldedSetIterable iter X.env x = pure x := by intro _; rfl) :
    PE X (.SetComp elt [⟨tg, iter, ifs, 0⟩] scope pos) (tScK X.prog X.w wi g tt te (own.map (·.2))) := by
  refine ⟨fun pins s σ G Q I wish => ?_⟩
  rw [eval_SetComp]
  have caught : ∀ y ∈ scope.names, y.2 = .free → ∃ c, X.env.cells.lookup y.1 = some c := by
    intro y hy hf
    cases blk.free y hy hf with
    | inl z => exact I.ok.has _ (.inl z)
    | inr z => exact I.ok.has _ (.inr z)
  refine wpAny_comprehension_free rfl fold (closure_ok caught) blk.kind (fun y hy z => by rw [blk.uniq y hy, z]) ?_
  refine thn (src.run pins s σ G _ I wish) fun seqv sA hA => thn hA fun itv sB hB => ?_
  obtain ⟨it, fp, turnAt, J, GB, eit, IB, TT, stB, fpB, hq⟩ := hB
  subst eit
  refine newSet_ok (newEnv_comp ?_)
  have fresh : GB sB.heap.objs.size = none := IB.hok.fresh (Nat.le_refl _)
  have IC := setK_start IB
  revert fresh IC
  generalize eD : sB.heap.objs.size = D
  intro fresh IC
  obtain ⟨W, ⟨m0, w0⟩, steps⟩ := hq D fresh
  revert IC
  generalize eC : ({ sB with heap := sB.heap.push { cls := .type "set", dict := none, data := .set #[] 0 (.fresh 0 0 (!X.w.params.followText "set-order")) } } : Shared) = sC
  generalize eG : upd GB D (SetK X.prog X.w D (fun _ => false) 0) = GC at w0
  intro IC
  have grown : ∀ b o, sB.heap.get? b = some o → sC.heap.get? b = some o := by
    intro b o q
    rw [← eC]
    exact Heap.get?_push_of_some _ q
  have small : ∀ b ∈ fp, b < sB.heap.objs.size := by
    intro b hb
    obtain ⟨o, q, _⟩ := TT.obj _ _ stB b hb
    exact Heap.lt_size q
  have fpC : ∀ b ∈ fp, FpOk X pins GC b ∧ b < sC.heap.objs.size := by
    intro b hb
    have lt := small b hb
    constructor
    · refine ⟨?_, (fpB b hb).2⟩
      rw [← eG, upd_ne (by rw [← eD]; exact Nat.ne_of_lt lt)]
      exact (fpB b hb).1
    · rw [← eC]
      show b < (sB.heap.push _).objs.size
      rw [Heap.size_push]
      exact Nat.lt_succ_of_lt lt
  have stC : turnAt 0 sC.heap := TT.keep _ _ _ stB fun b _ o q => grown b o q
  have ID := block_start IC blk nodup fpC
  have tgD := ptg sC GC sC.heap.objs.size (cellsFrom (sC.heap.objs.size + 1) scope.names (cloFrom X.env.cells scope.names [])) fp
  have ifD := pif sC GC sC.heap.objs.size (cellsFrom (sC.heap.objs.size + 1) scope.names (cloFrom X.env.cells scope.names [])) fp
  have elD := pel sC GC sC.heap.objs.size (cellsFrom (sC.heap.objs.size + 1) scope.names (cloFrom X.env.cells scope.names [])) fp
  have post : ∀ (s' : Shared) (m : Str → Option Value) (G' : Hp), Inv X pins σ G' s' → Q (.ref D) G' → s'.heap.Ns sC.heap.objs.size m → FpOk X pins G' sC.heap.objs.size →
      compPost (model X.prog X.w) X.A X.xe none (EP X pins σ Q) (.ref D) sC.heap.objs.size (.ok .next) s' := by
    intro s' m G' I' q hn hf
    refine ⟨m, hn, fun h'' same => ?_⟩
    obtain ⟨f0, f1, f2, f3, f4, f5⟩ := hf
    exact ⟨.ref D, G', I'.turned (t' := s'.toks) (fun b o hb z => (same.2 b hb).trans z) f0 f1 f3 f4 f5, rfl, q⟩
  show codeAny _ _ (.compStart (.SetComp elt [⟨tg, iter, ifs, 0⟩] scope pos) 0 (.ref it) (.ref D) (compEnvC scope (cellsFrom (sC.heap.objs.size + 1) scope.names (cloFrom X.env.cells scope.names [])) sC.heap.objs.size X.env))
    (compPost (model X.prog X.w) X.A X.xe none (EP X pins σ Q) (.ref D) sC.heap.objs.size) { sC with heap := pushCells (sC.heap.push { cls := .type "dict", data := .dict #[] }) scope.names }
  have none_fp : ∀ b ∈ fp, GC b = none := fun b hb => (fpC b hb).1.1
  revert ID tgD ifD elD
  generalize eE : compEnvC scope (cellsFrom (sC.heap.objs.size + 1) scope.names (cloFrom X.env.cells scope.names [])) sC.heap.objs.size X.env = cenv
  have locals : cenv.locals = sC.heap.objs.size := by
    rw [← eE]
    rfl
  generalize eS : ({ sC with heap := pushCells (sC.heap.push { cls := .type "dict", data := .dict #[] }) scope.names } : Shared) = sD
  intro ID tgD ifD elD
  have stD : turnAt 0 sD.heap := by
    refine TT.keep _ _ _ stC fun b _ o q => ?_
    rw [← eS]
    exact pushCells_keeps _ _ _ _ (Heap.get?_push_of_some _ q)
  have steady : ∀ {σ' : L2.St} {G' : Hp} {s' : Shared}, Inv (X.blk sC GC scope cenv fp) [] σ' G' s' → (∀ b ∈ fp, G' b = none) → ∀ b ∈ fp, FpOk (X.blk sC GC scope cenv fp) [] G' b := by
    intro σ' G' s' I' hn b hb
    refine ⟨hn b hb, (I'.ok.exf b hb).1, I'.ok.exfs b hb, .inl hb, fun x c => (I'.ok.exf b hb).2 x c, fun p hp => ?_⟩
    exact absurd (show p ∈ ([] : List (Addr × Obj)) ++ [] from hp) (by simp)
  have loop : codeAny (model X.prog X.w) X.A (.compLoop (.SetComp elt [⟨tg, iter, ifs, 0⟩] scope pos) 0 (.ref it) (.ref D) cenv)
      (compPost (model X.prog X.w) X.A X.xe none (EP X pins σ Q) (.ref D) sC.heap.objs.size) sD := by
    refine compLoopS_any (fun n s' => ∃ i G', Inv (X.blk sC GC scope cenv fp) [] (wipe σ (own.map (·.2))) G' s' ∧ turnAt i s'.heap ∧ (∀ b ∈ fp, G' b = none) ∧ W i n G') ?_ m0 ⟨0, GC, ID, stD, none_fp, w0⟩
    rintro n s5 ⟨i, G5, I5, st5, n5, w5⟩
    cases steps i n G5 w5 with
    | inl done =>
      obtain ⟨stop, hq⟩ := done
      refine thnF (TT.done (X.blk sC GC scope cenv fp) rfl rfl rfl calm i [] s5 _ G5 (fun _ _ => False) I5 (steady I5 n5) st5 stop) fun r s6 ⟨hr, I6⟩ => ?_
      subst hr
      have I7 : Inv X pins σ G5 s6 := IC.call' (ch := fp) I6.os I6.base I6.hok I6.bare fun b hb =>
        ⟨(fpC b hb).1.2.2.2.1, (fpC b hb).1.2.1, (fpC b hb).1.2.2.2.2.1, (fpC b hb).1.2.2.2.2.2⟩
      have gone : G5 sC.heap.objs.size = none := by
        rw [← locals]
        exact I6.free
      obtain ⟨m, hn, _⟩ := I6.loc
      refine post s6 m G5 I7 hq ?_ (IC.fpOk (Nat.le_refl _) gone)
      rw [← locals]
      exact hn
    | inr more =>
      obtain ⟨go, Nx, hNx, step⟩ := more
      refine thnF (TT.item (X.blk sC GC scope cenv fp) rfl rfl rfl calm i [] s5 _ G5 (fun _ _ => False) I5 (steady I5 n5) st5 go) fun r s6 ⟨u, hr, h6⟩ => ?_
      subst hr
      refine thnF h6 fun _ s7 ⟨x, G7, I7, r7, y7, st7, n7⟩ => ?_
      refine thnF (tgD.run _ s7 _ G7 x u _ (I7.pinned (steady I7 n7) (TT.obj _ _ st7)) r7 (step x G7 y7)) fun _ s8 ⟨σ8, G8, I8, hw, q8⟩ => ?_
      refine thnF (ifD.run _ s8 σ8 G8 _ I8 q8) fun b s9 ⟨G9, I9, q9⟩ => ?_
      have back : ∀ {s' : Shared} {G' : Hp}, Inv (X.blk sC GC scope cenv fp) ([] ++ pinsAt fp s7.heap) σ8 G' s' → Nx G' →
          ∃ m, m < n ∧ ∃ i G', Inv (X.blk sC GC scope cenv fp) [] (wipe σ (own.map (·.2))) G' s' ∧ turnAt i s'.heap ∧ (∀ b ∈ fp, G' b = none) ∧ W i m G' := by
        intro s' G' I' nx
        obtain ⟨m', hm, w'⟩ := hNx G' nx
        have pinned : ∀ b ∈ fp, ∀ o, s7.heap.get? b = some o → s'.heap.get? b = some o ∧ G' b = none := by
          intro b hb o q
          have z := I'.pin (b, o) (List.mem_append_right _ (List.mem_append_right _ (mem_pinsAt hb q)))
          exact ⟨z.1, z.2.1⟩
        have len : (wipe σ (own.map (·.2))).length = σ8.length := by rw [← hw, wipe_length]
        refine ⟨m', hm, i + 1, G', (I'.unpinned (pins := [])).weak len ?_, TT.keep _ _ _ st7 fun b hb o q => (pinned b hb o q).1, fun b hb => ?_, w'⟩
        · intro j v q
          rw [← hw] at q
          exact (wipe_some q).1
        · obtain ⟨o, q, _⟩ := TT.obj _ _ st7 b hb
          exact (pinned b hb o q).2
      cases b with
      | false => exact back I9 q9
      | true =>
        show wpAny _ _ _ _ _ _
        refine thnF (elD.run _ s9 σ8 G9 _ I9 q9) fun z s10 ⟨yv, G10, I10, r10, k, S0, n0, ey, hD10, room, nx⟩ => ?_
        subst ey
        exact addK_ok (Y := X.blk sC GC scope cenv fp) I10 hD10 r10 room fun v s11 I11 => back I11 nx
  exact codeAny_compStart_set loop (TT.self X.A 0 _ _ _ stD loop)
end
end TH
set_option maxRecDepth 100000
set_option maxHeartbeats 4000000
namespace TH
open PySem L2 Evl
/-! ### how many unlike members -/
def sadd (p : (Key → Bool) × Nat) (k : Key) : (Key → Bool) × Nat := (fun j => p.1 j || decide (j = k), if p.1 k = true then p.2 else p.2 + 1)
def sall (ks : List Key) : (Key → Bool) × Nat := ks.foldl sadd (fun _ => false, 0)
theorem sadd_le : ∀ (ks : List Key) (p : (Key → Bool) × Nat), (ks.foldl sadd p).2 ≤ p.2 + ks.length
  | [], p => Nat.le_refl _
  | k :: ks, p => by
    have h := sadd_le ks (sadd p k)
    have h2 : (sadd p k).2 ≤ p.2 + 1 := by
      unfold sadd
      dsimp only
      split <;> omega
    rw [List.foldl_cons, List.length_cons]
    omega
theorem sadd_new : ∀ (ks : List Key) (p : (Key → Bool) × Nat), ks.Nodup → (∀ k ∈ ks, p.1 k = false) → (ks.foldl sadd p).2 = p.2 + ks.length
  | [], p, _, _ => rfl
  | k :: ks, p, nd, hp => by
    obtain ⟨h1, h2⟩ := List.nodup_cons.mp nd
    have e : (sadd p k).2 = p.2 + 1 := by
      unfold sadd
      dsimp only
      rw [hp k List.mem_cons_self, if_neg Bool.false_ne_true]
    rw [List.foldl_cons, sadd_new ks (sadd p k) h2, e, List.length_cons]
    · omega
    · intro j hj
      show (p.1 j || decide (j = k)) = false
      rw [hp j (List.mem_cons_of_mem _ hj), decide_eq_false (show ¬ j = k from fun e => h1 (by rw [← e]; exact hj))]
      rfl
theorem sadd_old : ∀ (ks : List Key) (p : (Key → Bool) × Nat), (¬ ks.Nodup ∨ ∃ k ∈ ks, p.1 k = true) → (ks.foldl sadd p).2 < p.2 + ks.length
  | [], p, h => by
    rcases h with h | ⟨k, hk, _⟩
    · exact absurd List.nodup_nil h
    · cases hk
  | k :: ks, p, h => by
    rw [List.foldl_cons, List.length_cons]
    by_cases hk : p.1 k = true
    · have e : (sadd p k).2 = p.2 := by
        unfold sadd
        dsimp only
        rw [if_pos hk]
      have := sadd_le ks (sadd p k)
      omega
    · have e : (sadd p k).2 = p.2 + 1 := by
        unfold sadd
        dsimp only
        rw [if_neg hk]
      have := sadd_old ks (sadd p k) ?_
      · omega
      · by_cases hm : k ∈ ks
        · exact .inr ⟨k, hm, by show (p.1 k || decide (k = k)) = true; simp⟩
        · rcases h with h | ⟨j, hj, e2⟩
          · exact .inl fun nd => h (List.nodup_cons.mpr ⟨hm, nd⟩)
          · rcases List.mem_cons.mp hj with rfl | hj
            · exact absurd e2 hk
            · exact .inr ⟨j, hj, by show (p.1 j || decide (j = k)) = true; rw [e2]; rfl⟩
theorem sall_lt (ks : List Key) : ((sall ks).2 < ks.length) = ¬ ks.Nodup := by
  apply propext
  constructor
  · intro h nd
    have := sadd_new ks (fun _ => false, 0) nd fun _ _ => rfl
    unfold sall at h
    omega
  · intro h
    have := sadd_old ks (fun _ => false, 0) (.inl h)
    unfold sall
    omega
section
variable {X : Cx}
def rLenK (P : Program) (w : World) : List V → Hp → VK → Prop := fun xs H Q => ∃ (a : Addr) (S : Key → Bool) (n : Nat), xs = [.ref a] ∧ H a = some (SetK P w a S n) ∧ Q (.int n) H
theorem call_lenK : CallR X (.builtin "len") (rLenK X.prog X.w) := by
  intro pins s σ H xs us Q I r h
  obtain ⟨a, S, n, rfl, ha, q⟩ := h
  cases r with
  | cons r1 r2 =>
    cases r2
    cases r1
    obtain ⟨o, es, ep, t, ho, hx, hd, _, _, hb, hf, hn⟩ := setK_get I ha
    refine call_len_set ho hx hd hf ?_ ?_
    · have : es.size < 2 ^ 32 := Nat.lt_of_lt_of_le hb (by decide)
      omega
    · rw [hn]
      exact ⟨.int n, H, I.kept (t' := s.toks + 1 + 1) fun _ _ z => z, ⟨_, rfl⟩, q⟩
end
section
variable {K : PySem.W.Frag} {M : Addr → Prop} {H H1 H' : Hp} {σ : L2.St} {ta tb tc te tl : TE} {P : Program} {w : World} {g : TG} {vs : List Nat}
/-- len({elt for x in list}) -/
theorem evd_lenSc {ds : List PyData} (F : PyData → Key) (ok : Ok M H) (hl : EvD K M tl σ H (.list ds)) (hz : ds.length < 1000)
    (hs : ∀ (M' : Addr → Prop) (d : PyData) (x : V) (H' : Hp), (∀ v d, Dt K M H v d → Dt K M' H' v d) → Ok M' H' → d ∈ ds → Ex H H' → Dt K M' H' x d →
      ∀ Qg : L2.St → Hp → Prop, (∀ σ2 H2, Ex H' H2 → wipe σ2 vs = wipe σ vs → Ev te σ2 H2 (kV (F d)) → Qg σ2 H2) → g x (wipe σ vs) H' Qg) :
    EvD K M (tCB (rLenK P w) (tCons (tScK P w (iList K tl) g tYes te vs) tNil)) σ H (.int (sall (ds.map F)).2) := fun H0 e Q q =>
  hl H0 e _ fun v d H1 e1 dv pd => by
    subst pd
    cases dv with
    | lst h1 h2 h3 =>
      rename_i a xs
      refine ⟨a, rfl, ⟨xs, sq_of h1⟩, fun D hD => ?_⟩
      have okD : ∀ {H}, Ex H1 H → H D ≠ none → Ok (TH.more M D) H := fun {H} e2 n l m => by
        rcases m with m | rfl
        · exact (ok.ex ((e.trans e1).trans e2)) l m
        · exact n
      refine ⟨fun i m H => m = ds.length - i ∧ i ≤ ds.length ∧ Ex H1 H ∧ H D = some (SetK P w D (sall ((ds.take i).map F)).1 (sall ((ds.take i).map F)).2),
        ⟨ds.length, by simp, Nat.zero_le _, Ex.new hD, upd_same⟩, ?_⟩
      rintro i m H2 ⟨rfl, hi, e2, hset⟩
      by_cases hlt : i < ds.length
      · refine .inr ⟨⟨xs, xs[i]'(by rw [h3.length]; exact hlt), sq_of (e2 _ _ h1), by simp⟩, fun H' => Ex H1 H' ∧ H' D = some (SetK P w D (sall ((ds.take (i + 1)).map F)).1 (sall ((ds.take (i + 1)).map F)).2), fun H' p' => ⟨ds.length - (i + 1), by omega, rfl, hlt, p'⟩, fun x H' y => ?_⟩
        obtain ⟨rfl, hx⟩ := y
        have hx := hx xs (sq_of (e2 _ _ h1))
        obtain ⟨d, hd, dx⟩ := h3.get hx
        have tk : (ds.take (i + 1)).map F = (ds.take i).map F ++ [F d] := by rw [List.take_add_one, hd, List.map_append]; rfl
        refine hs (TH.more M D) d x _ (fun v d h => ((h.ex (e.trans e1)).more hD).ex e2) (okD e2 (by rw [hset]; simp)) (List.mem_of_getElem? hd) ((e.trans e1).trans e2) ((dx.more hD).ex e2) _ fun σ2 H3 e3 hw he => ?_
        refine ⟨hw, ?_⟩
        show te σ2 H3 _
        refine he H3 (Ex.refl _) _ fun H4 e4 => ⟨F d, _, _, rfl, (e3.trans e4) _ _ hset, ?_, ?_, ?_⟩
        · have h1 := sadd_le ((ds.take i).map F) (fun _ => false, 0)
          rw [List.length_map, List.length_take] at h1
          have h2 : (sall ((ds.take i).map F)).2 ≤ 0 + min i ds.length := h1
          have h3 : (2000 : Nat) < scanBound := by decide
          omega
        · exact Ex.mut ((e2.trans e3).trans e4) hD
        · rw [tk]
          unfold sall
          rw [List.foldl_append]
          exact upd_same
      · have ei : i = ds.length := by omega
        subst ei
        refine .inl ⟨⟨xs, sq_of (e2 _ _ h1), by rw [h3.length]; exact Nat.le_refl _⟩, ?_⟩
        rw [List.take_length] at hset
        exact ⟨D, _, _, rfl, hset, q _ _ H2 (e1.trans e2) (.int _) rfl⟩
end
end TH
set_option maxRecDepth 100000
set_option maxHeartbeats 4000000
namespace TH
open PySem L2 Evl
abbrev sAre : Stmt := top 22
/-! ### books as data -/
abbrev Sg := Str × Int
def sgD (p : Sg) : PyData := .tuple [.str p.1, .int p.2]
def sgU : PyData → Sg
  | .tuple [.str z, .int k] => (z, k)
  | _ => (Str.empty, 0)
theorem sgU_map (S : List Sg) : (S.map sgD).map sgU = S := by
  rw [List.map_map]
  exact (List.map_congr_left fun p _ => rfl).trans (List.map_id S)
def isSignB (p : Sg) : Bool := isNameB p.1 && (decide (0 ≤ p.2) && decide (p.2 ≤ 2))
def validB (S : List Sg) : Bool :=
  (decide (1 ≤ (S.length : Int)) && decide ((S.length : Int) ≤ 6)) && (S.all isSignB && (!decide (((sall (S.map fun p => Sum.inr p.1)).2 : Int) < (S.length : Int)) && S.any fun p => decide (p.2 = 0)))
def signA : List PyData → Prop := fun ds => ∃ p : Sg, ds = [sgD p] ∧ p.1.length ≤ 100000
def signF : List PyData → PyData
  | [d] => .bool (isSignB (sgU d))
  | _ => .none
def areA : List PyData → Prop := fun ds => ∃ S : List Sg, ds = [.list (S.map sgD)] ∧ S.length ≤ 100 ∧ ∀ p ∈ S, p.1.length ≤ 100000
def areF : List PyData → PyData
  | [.list es] => .bool (validB (es.map sgU))
  | _ => .none
theorem areF_eq (S : List Sg) : areF [.list (S.map sgD)] = .bool (validB S) := by
  show PyData.bool (validB ((S.map sgD).map sgU)) = _
  rw [sgU_map]
section
variable {P : Program} {w : World} {K : PySem.W.Frag} {mg : Str → Option Value} {base : Heap}
theorem scSign : FnScope ["sign"] ["sign"] (defScope sSign) := ⟨rfl, rfl, rfl, by decide +kernel, rfl, by decide +kernel, by decide +kernel⟩
theorem ok_sign {f fN : Addr} {fd fdN : FuncData} (F : Fun K "is_sign" "is_sign" sSign f fd) (G : GlobS mg) (FN : Fun K "is_name" "is_name" sName fN fdN) (mN : mg "is_name" = some (.ref fN)) (bN : Binds K fdN ["name", "longest"] []) :
    FnOk P w K mg base CX0 2 f fd ["sign"] (spD K signA fun ds d => d = signF ds) := by
  have GN : FnOk P w K mg base CX0 1 fN fdN ["name", "longest"] (spD K nameA fun ds d => d = nameF ds) := ok_name FN G
  refine F.ok scSign (fun vs H Q E h => ?_) (fun cdv A outer s H vs Q E hr h => ?_)
  · obtain ⟨M, ds, _, dv, ⟨z, rfl, _⟩, _⟩ := h
    exact dv.length
  · obtain ⟨M, ds, ok, dv, ⟨p, rfl, hz⟩, q⟩ := h
    obtain ⟨t, hL⟩ := G.mostK
    obtain ⟨t3, hL3⟩ := G.longest
    cases dv with
    | cons h1 h2 =>
    cases h2
    rename_i v0
    refine ⟨_, pss_one (ps_ret (pe_and (pe_cmpR op_eq (pe_callB call_len_seq (by rfl) G.len PySem.boot_len (pa_cons (pv 0) pa_nil)) pe_int (nomark _))
      (pe_and (pe_call GN hr rfl mN FN.kp bN .nil pass0 (pa_cons (pe_ix ix_tup (pv 0) pe_int (fun _ _ => rfl)) (pa_cons (pe_glob rfl hL3 (show RelV (.int 3) _ from ⟨_, rfl⟩)) pa_nil)))
      (pe_one (pe_chain op_le op_le pe_int (pe_ix ix_tup (pv 0) pe_int (fun _ _ => rfl)) (pe_glob rfl hL (show RelV (.int 2) _ from ⟨_, rfl⟩))))))), ?_⟩
    have hv : ∀ {H'}, Ex H H' → EvD K M (tVar 0) (start ["sign"] [v0]) H' (sgD p) := fun e => evd_var rfl (h1.ex e)
    refine s_retP (K := K) (M := M) (evd_andV (evd_eqI (evd_lenT (eva_cons (hv (Ex.refl _)) eva_nil)) evd_int) fun _ => evd_andV ((evd_call (F := nameF) ok (eva_cons (evd_ixT (j := 0) (hv (Ex.refl _)) evd_int rfl rfl) (eva_cons evd_int eva_nil)) ⟨p.1, rfl, hz⟩)) fun _ =>
      evd_chainI (g := fun i j => decide (i ≤ j)) (g' := fun i j => decide (i ≤ j)) evd_int (evd_ixT (j := 1) (hv (Ex.refl _)) evd_int rfl rfl) evd_int) fun v d H2 e2 dv pd => q v d H2 e2 dv ?_
    rw [pd]
    rfl
theorem scAre : FnScope ["signs", "sign"] ["signs"] (defScope sAre) := ⟨rfl, rfl, rfl, by decide +kernel, rfl, by decide +kernel, by decide +kernel⟩
theorem ok_are {f fN fS : Addr} {fd fdN fdS : FuncData} (F : Fun K "are_signs" "are_signs" sAre f fd) (G : GlobS mg) (FN : Fun K "is_name" "is_name" sName fN fdN) (mN : mg "is_name" = some (.ref fN)) (bN : Binds K fdN ["name", "longest"] [])
    (FS : Fun K "is_sign" "is_sign" sSign fS fdS) (mS : mg "is_sign" = some (.ref fS)) (bS : Binds K fdS ["sign"] []) :
    FnOk P w K mg base CX0 3 f fd ["signs"] (spD K areA fun ds d => d = areF ds) := by
  have GS : FnOk P w K mg base CX0 2 fS fdS ["sign"] (spD K signA fun ds d => d = signF ds) := ok_sign FS G FN mN bN
  refine F.ok scAre (fun vs H Q E h => ?_) (fun cdv A outer s H vs Q E hr h => ?_)
  · obtain ⟨M, ds, _, dv, ⟨z, rfl, _⟩, _⟩ := h
    exact dv.length
  · obtain ⟨M, ds, ok, dv, ⟨S, rfl, hlen, hz⟩, q⟩ := h
    obtain ⟨t, hL⟩ := G.most
    cases dv with
    | cons h1 h2 =>
    cases h2
    rename_i v0
    refine ⟨_, pss_cons (ps_if (pt_not (pt_chain op_le op_le pe_int (pe_callB call_len_seq (by rfl) G.len PySem.boot_len (pa_cons (pv 0) pa_nil)) (pe_glob rfl hL (show RelV (.int 6) _ from ⟨_, rfl⟩)))) (pss_one (ps_ret pe_bl)) pss_nil)
      (pss_cons (ps_if (pt_not (pt_val (pe_callB (cr_all rfl) (by rfl) G.all (by decide +kernel) (pa_cons (pe_lc (own := [("sign", 1)]) (g := gName 1) (tt := tYes) rfl scAre.nd (pi_list (pv 0))
          (blkOk_by (N := ["signs", "sign"]) (sc := defScope sAre) (by decide +kernel)) (fun _ _ _ _ _ => pg_name (i := 1) scAre.nd rfl (.inl rfl)) (fun _ _ _ _ _ => pts_nil)
          (fun _ _ _ _ _ => pe_call GS hr rfl mS FS.kp bS .nil pass0 (pa_cons (pv 1) pa_nil))) pa_nil)))) (pss_one (ps_ret pe_bl)) pss_nil)
      (pss_cons (ps_if (pt_cmpR op_lt (pe_callB call_lenK (by rfl) G.len PySem.boot_len (pa_cons (pe_scK (own := [("sign", 1)]) (g := gName 1) (tt := tYes) rfl scAre.nd (pi_list (pv 0))
          (blkOk_by (N := ["signs", "sign"]) (sc := defScope sAre) (by decide +kernel)) (fun _ _ _ _ _ => pg_name (i := 1) scAre.nd rfl (.inl rfl)) (fun _ _ _ _ _ => pts_nil)
          (fun _ _ _ _ _ => pe_ix (ix_tupK (K := K) rfl) (pv 1) pe_int (fun _ _ => rfl))) pa_nil)) (pe_callB call_len_seq (by rfl) G.len PySem.boot_len (pa_cons (pv 0) pa_nil)) (nomark _)) (pss_one (ps_ret pe_bl)) pss_nil)
      (pss_one (ps_ret (pe_callB (cr_any rfl) (by rfl) G.any (by decide +kernel) (pa_cons (pe_lc (own := [("sign", 1)]) (g := gName 1) (tt := tYes) rfl scAre.nd (pi_list (pv 0))
          (blkOk_by (N := ["signs", "sign"]) (sc := defScope sAre) (by decide +kernel)) (fun _ _ _ _ _ => pg_name (i := 1) scAre.nd rfl (.inl rfl)) (fun _ _ _ _ _ => pts_nil)
          (fun _ _ _ _ _ => pe_cmpR op_eq (pe_ix (ix_tupK (K := K) rfl) (pv 1) pe_int (fun _ _ => rfl)) pe_int (nomark _))) pa_nil)))))), ?_⟩
    have hv : ∀ {H'}, Ex H H' → EvD K M (tVar 0) (start ["signs", "sign"] [v0]) H' (.list (S.map sgD)) := fun e => evd_var rfl (h1.ex e)
    have hlen' : (S.map sgD).length < sizeLine := by rw [List.length_map]; exact Nat.lt_of_le_of_lt hlen (by decide)
    have mem : ∀ d ∈ S.map sgD, ∃ p ∈ S, d = sgD p := fun d hd => by
      obtain ⟨p, hp, e⟩ := List.mem_map.mp hd
      exact ⟨p, hp, e.symm⟩
    have fin : ∀ b, validB S = b → PyData.bool b = areF [.list (S.map sgD)] := fun b e => by rw [areF_eq, e]
    -- the number of signs
    refine q_when (evt_not (evt_test (K := K) (M := M) (evd_chainI (g := fun i j => decide (i ≤ j)) (g' := fun i j => decide (i ≤ j)) evd_int (evd_lenL (eva_cons (hv (Ex.refl _)) eva_nil)) evd_int))) (fun hb H1 e1 => ?_) (fun hb H1 e1 => ?_)
    · refine q _ _ H1 e1 (.bl _) (fin _ ?_)
      rw [Bool.not_eq_true', List.length_map] at hb
      unfold validB
      rw [hb]
      rfl
    rw [Bool.not_eq_false', List.length_map] at hb
    have ok1 := ok.ex e1
    -- all signs are signs
    refine q_when (evt_not (evt_B (K := K) (M := M) (evd_all (bs := S.map isSignB) (eva_cons ?_ eva_nil)))) (fun hb2 H2 e2 => ?_) (fun hb2 H2 e2 => ?_)
    · refine (evd_lcL (fun _ => true) (fun d => signF [d]) ok1 (hv e1) hlen' fun M' d x H' hm ok' hd e dx Qg qg => ?_).mono fun d h => ?_
      · obtain ⟨p, hp, rfl⟩ := mem d hd
        exact qg _ H' (Ex.refl _) ⟨rfl, evt_yes, fun _ => evd_call (F := signF) ok' (eva_cons (evd_var rfl dx) eva_nil) ⟨p, rfl, hz p hp⟩⟩
      · rw [h, filter_yes, List.map_map, List.map_map]
        rfl
    · refine q _ _ H2 (e1.trans e2) (.bl _) (fin _ ?_)
      rw [Bool.not_eq_true', List.all_map] at hb2
      unfold validB
      rw [hb, show S.all isSignB = false from hb2]
      rfl
    rw [Bool.not_eq_false', List.all_map] at hb2
    have e12 := e1.trans e2
    have ok2 := ok.ex e12
    -- unlike names
    refine q_when (evt_test (K := K) (M := M) (evd_cmp (g := fun i j => decide (i < j)) (evd_lenSc (fun d => Sum.inr (sgU d).1) ok2 (hv e12) (by rw [List.length_map]; omega) fun M' d x H' hm ok' hd e dx Qg qg => ?_) (evd_lenL (eva_cons (hv e12) eva_nil)))) (fun hb3 H3 e3 => ?_) (fun hb3 H3 e3 => ?_)
    · obtain ⟨p, hp, rfl⟩ := mem d hd
      cases dx with
      | tup k1 k2 =>
        cases k2 with
        | cons r1 r2 =>
          cases r1
          exact qg _ H' (Ex.refl _) rfl (ev_op (ev_var rfl) ev_c (rv_ixT k1 (atI_nat (j := 0) rfl)))
    · refine q _ _ H3 (e12.trans e3) (.bl _) (fin _ ?_)
      rw [List.map_map, List.length_map] at hb3
      unfold validB
      rw [hb, show S.all isSignB = true from hb2, show decide (((sall (S.map fun p => Sum.inr p.1)).2 : Int) < (S.length : Int)) = true from hb3]
      rfl
    rw [List.map_map, List.length_map] at hb3
    have e13 := e12.trans e3
    have ok3 := ok.ex e13
    refine s_retP (K := K) (M := M) (evd_any (bs := S.map fun p => decide (p.2 = 0)) (eva_cons ?_ eva_nil)) fun v d H4 e4 dv pd => q v d H4 (e13.trans e4) dv ?_
    · refine (evd_lcL (fun _ => true) (fun d => .bool (decide ((sgU d).2 = 0))) ok3 (hv e13) hlen' fun M' d x H' hm ok' hd e dx Qg qg => ?_).mono fun d h => ?_
      · obtain ⟨p, hp, rfl⟩ := mem d hd
        exact qg _ H' (Ex.refl _) ⟨rfl, evt_yes, fun _ => evd_eqI (evd_ixT (j := 1) (evd_var rfl dx) evd_int rfl rfl) evd_int⟩
      · rw [h, filter_yes, List.map_map, List.map_map]
        rfl
    · rw [pd]
      refine fin _ ?_
      unfold validB
      rw [hb, show S.all isSignB = true from hb2, show decide (((sall (S.map fun p => Sum.inr p.1)).2 : Int) < (S.length : Int)) = false from hb3, List.any_map]
      rfl
end
end TH
set_option maxRecDepth 100000
set_option maxHeartbeats 4000000
namespace TH
open PySem L2 Evl
abbrev sInit : Stmt := inClass (top 23) 0
abbrev sMany : Stmt := inClass (top 23) 1
abbrev sHas : Stmt := inClass (top 23) 2
abbrev sNm : Stmt := inClass (top 23) 3
abbrev sKd : Stmt := inClass (top 23) 4
abbrev sNum : Stmt := inClass (top 23) 5
abbrev sLike : Stmt := inClass (top 23) 6
/-! ### a Book in the heap -/
theorem nk : ¬ (("_names" : Str) = "_kids") := by decide +kernel
def flds (l1 l2 : Addr) : List (Str × V) := putF "_kids" (.ref l2) (putF "_names" (.ref l1) [])
theorem flds_names (l1 l2 : Addr) : (flds l1 l2).lookup ("_names" : Str) = some (.ref l1) := by
  unfold flds
  rw [lookup_putF, if_neg nk, lookup_putF, if_pos rfl]
theorem flds_kids (l1 l2 : Addr) : (flds l1 l2).lookup ("_kids" : Str) = some (.ref l2) := by
  unfold flds
  rw [lookup_putF, if_pos rfl]
theorem flds_no (l1 l2 : Addr) {m : Str} (h1 : ¬ m = "_kids") (h2 : ¬ m = "_names") : (flds l1 l2).lookup m = none := by
  unfold flds
  rw [lookup_putF, if_neg h1, lookup_putF, if_neg h2]
  rfl
def BookAt (C : Addr) (M : Addr → Prop) (H : Hp) (p : Addr) (S : List Sg) : Prop :=
  ∃ dx l1 l2, H p = some (.ins C dx (flds l1 l2)) ∧ H l1 = some (.lst (S.map fun q => V.str q.1)) ∧ ¬ M l1 ∧ H l2 = some (.lst (S.map fun q => V.int q.2)) ∧ ¬ M l2
section
variable {K : PySem.W.Frag} {M M' : Addr → Prop} {H H' : Hp} {C p : Addr} {S : List Sg}
theorem BookAt.ex (h : BookAt C M H p S) (e : Ex H H') : BookAt C M H' p S := by
  obtain ⟨dx, l1, l2, h1, h2, h3, h4, h5⟩ := h
  exact ⟨dx, l1, l2, e _ _ h1, e _ _ h2, h3, e _ _ h4, h5⟩
theorem BookAt.weak (h : BookAt C M H p S) (m : ∀ a, M' a → M a) : BookAt C M' H p S := by
  obtain ⟨dx, l1, l2, h1, h2, h3, h4, h5⟩ := h
  exact ⟨dx, l1, l2, h1, h2, fun z => h3 (m _ z), h4, fun z => h5 (m _ z)⟩
theorem BookAt.more {D : Addr} (h : BookAt C M H p S) (hD : H D = none) : BookAt C (TH.more M D) H p S := by
  obtain ⟨dx, l1, l2, h1, h2, h3, h4, h5⟩ := h
  refine ⟨dx, l1, l2, h1, h2, fun z => ?_, h4, fun z => ?_⟩
  · rcases z with z | z
    · exact h3 z
    · rw [z, hD] at h2
      cases h2
  · rcases z with z | z
    · exact h5 z
    · rw [z, hD] at h4
      cases h4
theorem BookAt.upd {l : Addr} {ys : List V} {o : HO} (h : BookAt C M H p S) (hl : H l = some (.lst ys)) (m : M l) : BookAt C M (L2.upd H l o) p S := by
  obtain ⟨dx, l1, l2, h1, h2, h3, h4, h5⟩ := h
  refine ⟨dx, l1, l2, ?_, ?_, h3, ?_, h5⟩
  · rw [upd_ne (ne_of h1 hl (by intro z; cases z))]
    exact h1
  · rw [upd_ne (show l1 ≠ l from fun z => h3 (by rw [z]; exact m))]
    exact h2
  · rw [upd_ne (show l2 ≠ l from fun z => h5 (by rw [z]; exact m))]
    exact h4
theorem Dt.updI {v : V} {d : PyData} {l : Addr} {C dx : Addr} {fs : List (Str × V)} {o : HO} (h : Dt K M H v d) (hl : H l = some (.ins C dx fs)) : Dt K M (L2.upd H l o) v d := by
  refine Dt.move (fun a xs h n => ⟨by rw [upd_ne (ne_of h hl (by intro z; cases z))]; exact h, n⟩) (fun a xs h => ?_) d v h
  rcases h with (h | ⟨u, h⟩) | h
  · exact .inl (.inl (by rw [upd_ne (ne_of h hl (by intro z; cases z))]; exact h))
  · exact .inl (.inr ⟨u, by rw [upd_ne (ne_of h hl (by intro z; cases z))]; exact h⟩)
  · exact .inr h
end
/-! ### what the top has written -/
structure ExcT (K : PySem.W.Frag) (mg : Str → Option Value) (x : Str) (C : Addr) : Prop where
  g : mg x = some (.ref C)
  x : PySem.W.excIn K C [.type "ValueError", .type "Exception", .type "BaseException", .type "object"] "ValueError.__new__" = true
  k : PySem.W.keepIn K (.ref C) = true
  b : PySem.W.subIn K (.ref C) (.type "BaseException") = some true
  t : PySem.W.typeIn K (.ref C) = some (.type "type")
structure BookT (K : PySem.W.Frag) (mg : Str → Option Value) (C : Addr) : Prop where
  cl : Cls K C
  n1 : NoAttr K C "_names"
  n2 : NoAttr K C "_kids"
  g : mg "Book" = some (.ref C)
section
variable {K : PySem.W.Frag} {M : Addr → Prop} {H H' : Hp} {σ : L2.St} {te : TE} {P : PyData → Prop} {D : Ends} {tz : TS} {i : Nat} {f : Str}
theorem q_fldP (h : EvP K M te σ H P) (k : ∀ v d H1, Ex H H1 → Dt K M H1 v d → P d → ∃ p C dx fs, σ[i]? = some (some (.ref p)) ∧ H1 p = some (.ins C dx fs) ∧ Cls K C ∧ NoAttr K C f ∧ fs.length < 1000 ∧ tz D σ (upd H1 p (.ins C dx (putF f v fs)))) :
    tSeq (sFld K (tVar i) te f) tz D σ H := h.use fun v d H1 e dv pd => by
  obtain ⟨p, C, dx, fs, h1, h2, h3, h4, h5, h6⟩ := k v d H1 e dv pd
  exact ⟨_, h1, p, C, dx, fs, rfl, h2, h3, h4, h5, h6⟩
theorem s_fldP (h : EvP K M te σ H P) (k : ∀ v d H1, Ex H H1 → Dt K M H1 v d → P d → ∃ p C dx fs, σ[i]? = some (some (.ref p)) ∧ H1 p = some (.ins C dx fs) ∧ Cls K C ∧ NoAttr K C f ∧ fs.length < 1000 ∧ D.nx σ (upd H1 p (.ins C dx (putF f v fs)))) :
    sFld K (tVar i) te f D σ H := h.use fun v d H1 e dv pd => by
  obtain ⟨p, C, dx, fs, h1, h2, h3, h4, h5, h6⟩ := k v d H1 e dv pd
  exact ⟨_, h1, p, C, dx, fs, rfl, h2, h3, h4, h5, h6⟩
end
/-- Book(signs) -/
def spInit (K : PySem.W.Frag) (C CN : Addr) : Sp := fun vs H Q E => ∃ (M : Addr → Prop) (p dx : Addr) (v : V) (S : List Sg), Ok M H ∧ vs = [.ref p, v] ∧ H p = some (.ins C dx []) ∧ Dt K M H v (.list (S.map sgD)) ∧ S.length ≤ 100 ∧ (∀ q ∈ S, q.1.length ≤ 100000) ∧
  (validB S = true → ∀ H', BookAt C M H' p S → (∀ b o, H b = some o → b ≠ p → H' b = some o) → Q .non H') ∧ (validB S = false → ∀ H', Ex H H' → E (.ref CN) none H')
section
variable {P : Program} {w : World} {K : PySem.W.Frag} {mg : Str → Option Value} {base : Heap}
theorem scInit : FnScope ["self", "signs", "sign"] ["self", "signs"] (defScope sInit) := ⟨rfl, rfl, rfl, by decide +kernel, rfl, by decide +kernel, by decide +kernel⟩
theorem ok_init {f fN fS fA C CN : Addr} {fd fdN fdS fdA : FuncData} (F : Fun K "__init__" "Book.__init__" sInit f fd) (G : GlobS mg) (T : BookT K mg C) (TN : ExcT K mg "NoBook" CN)
    (FN : Fun K "is_name" "is_name" sName fN fdN) (mN : mg "is_name" = some (.ref fN)) (bN : Binds K fdN ["name", "longest"] [])
    (FS : Fun K "is_sign" "is_sign" sSign fS fdS) (mS : mg "is_sign" = some (.ref fS)) (bS : Binds K fdS ["sign"] [])
    (FA : Fun K "are_signs" "are_signs" sAre fA fdA) (mA : mg "are_signs" = some (.ref fA)) (bA : Binds K fdA ["signs"] []) :
    FnOk P w K mg base (L2.CX P w) 4 f fd ["self", "signs"] (spInit K C CN) := by
  have GA : FnOk P w K mg base CX0 3 fA fdA ["signs"] (spD K areA fun ds d => d = areF ds) := ok_are FA G FN mN bN FS mS bS
  refine F.okX scInit (fun vs H Q E h => ?_) (fun cdv A outer s H vs Q E hr h => ?_)
  · obtain ⟨M, p, dx, v, S, _, rfl, _⟩ := h
    rfl
  · obtain ⟨M, p, dx, v, S, ok, rfl, hp, hv, hlen, hz, qy, qn⟩ := h
    refine ⟨_, pss_cons (ps_if (pt_not (pt_val (pe_call GA hr rfl mA FA.kp bA .nil pass0 (pa_cons (pv 1) pa_nil)))) (pss_one (ps_raise rfl (takes_of rfl rfl rfl rfl) (pmk_own PySem.F.excBase_ValueError TN.x TN.g TN.k (raises_own TN.b TN.t) rfl))) pss_nil)
      (pss_cons (ps_fld (pv 0) (pe_lc (own := [("sign", 2)]) (g := gName 2) (tt := tYes) rfl scInit.nd (pi_list (pv 1)) (blkOk_by (N := ["self", "signs", "sign"]) (sc := defScope sInit) (by decide +kernel)) (fun _ _ _ _ _ => pg_name (i := 2) scInit.nd rfl (.inl rfl)) (fun _ _ _ _ _ => pts_nil)
          (fun _ _ _ _ _ => pe_ix (ix_tupK (K := K) rfl) (pv 2) pe_int (fun _ _ => rfl))) rfl)
      (pss_one (ps_fld (pv 0) (pe_lc (own := [("sign", 2)]) (g := gName 2) (tt := tYes) rfl scInit.nd (pi_list (pv 1)) (blkOk_by (N := ["self", "signs", "sign"]) (sc := defScope sInit) (by decide +kernel)) (fun _ _ _ _ _ => pg_name (i := 2) scInit.nd rfl (.inl rfl)) (fun _ _ _ _ _ => pts_nil)
          (fun _ _ _ _ _ => pe_ix (ix_tupK (K := K) rfl) (pv 2) pe_int (fun _ _ => rfl))) rfl))), ?_⟩
    have hlen' : (S.map sgD).length < sizeLine := by rw [List.length_map]; exact Nat.lt_of_le_of_lt hlen (by decide)
    have mem : ∀ d ∈ S.map sgD, ∃ p ∈ S, d = sgD p := fun d hd => by
      obtain ⟨p, hp, e⟩ := List.mem_map.mp hd
      exact ⟨p, hp, e.symm⟩
    refine q_when (evt_not (evt_B (K := K) (M := M) ((evd_call (F := areF) ok (eva_cons (evd_var rfl hv) eva_nil) ⟨S, rfl, hlen, hz⟩).mono fun d h => h.trans (areF_eq S)))) (fun hb H1 e1 => ?_) (fun hb H1 e1 => ?_)
    · rw [Bool.not_eq_true'] at hb
      exact qn hb H1 e1
    rw [Bool.not_eq_false'] at hb
    have ok1 := ok.ex e1
    refine q_fldP (K := K) (M := M) (P := (· = .list (S.map fun q => PyData.str q.1))) ?_ fun v1 d1 H2 e2 dv1 pd1 => ⟨p, C, dx, [], rfl, (e1.trans e2) _ _ hp, T.cl, T.n1, by decide, ?_⟩
    · refine (evd_lcL (fun _ => true) (fun d => .str (sgU d).1) ok1 (evd_var rfl (hv.ex e1)) hlen' fun M' d x H' hm ok' hd e dx Qg qg => ?_).mono fun d h => ?_
      · obtain ⟨p, hp, rfl⟩ := mem d hd
        exact qg _ H' (Ex.refl _) ⟨rfl, evt_yes, fun _ => evd_ixT (j := 0) (evd_var rfl dx) evd_int rfl rfl⟩
      · rw [h, filter_yes, List.map_map]
        rfl
    subst pd1
    cases dv1 with
    | lst g1 g2 g3 =>
    rename_i l1 xs1
    have g3 : xs1 = S.map fun q => V.str q.1 := by
      have := Dts.strs (S.map fun q => q.1) (by rw [List.map_map]; exact g3)
      rw [this, List.map_map]
      rfl
    subst g3
    have hp2 : H2 p = some (.ins C dx []) := (e1.trans e2) _ _ hp
    have hv3 := ((hv.ex (e1.trans e2)).updI (o := .ins C dx (putF "_names" (.ref l1) [])) hp2)
    have ok3 : Ok M (upd H2 p (.ins C dx (putF "_names" (.ref l1) []))) := fun l m => by
      by_cases e : l = p
      · rw [e, upd_same]
        simp
      · rw [upd_ne e]
        exact ok1.ex e2 l m
    refine s_fldP (K := K) (M := M) (P := (· = .list (S.map fun q => PyData.int q.2))) ?_ fun v2 d2 H3 e3 dv2 pd2 => ⟨p, C, dx, _, rfl, e3 _ _ upd_same, T.cl, T.n2, (by show 1 < 1000; decide), ?_⟩
    · refine (evd_lcL (fun _ => true) (fun d => .int (sgU d).2) ok3 (evd_var rfl hv3) hlen' fun M' d x H' hm ok' hd e dx Qg qg => ?_).mono fun d h => ?_
      · obtain ⟨p, hp, rfl⟩ := mem d hd
        exact qg _ H' (Ex.refl _) ⟨rfl, evt_yes, fun _ => evd_ixT (j := 1) (evd_var rfl dx) evd_int rfl rfl⟩
      · rw [h, filter_yes, List.map_map]
        rfl
    subst pd2
    cases dv2 with
    | lst k1 k2 k3 =>
    rename_i l2 xs2
    have k3 : xs2 = S.map fun q => V.int q.2 := by
      have := Dts.ints (S.map fun q => q.2) (by rw [List.map_map]; exact k3)
      rw [this, List.map_map]
      rfl
    subst k3
    have hp3 : H3 p = some (.ins C dx (putF "_names" (.ref l1) [])) := e3 _ _ upd_same
    have n1 : l1 ≠ p := ne_of g1 hp2 (by intro z; cases z)
    have n2 : l2 ≠ p := ne_of k1 hp3 (by intro z; cases z)
    refine qy hb _ ⟨dx, l1, l2, upd_same, ?_, g2, ?_, k2⟩ fun b o hb hbp => ?_
    · rw [upd_ne n1]
      exact e3 _ _ (by rw [upd_ne n1]; exact g1)
    · rw [upd_ne n2]
      exact k1
    · rw [upd_ne hbp]
      exact e3 _ _ (by rw [upd_ne hbp]; exact (e1.trans e2) _ _ hb)
end
end TH
set_option maxRecDepth 100000
set_option maxHeartbeats 4000000
namespace TH
open PySem L2 Evl
/-! ### what a Book tells -/
def numV (S : List Sg) (z : Str) : V := match S.findIdx? (fun q => decide (q.1 = z)) with
  | some j => .int j
  | none => .non
def spMany (C : Addr) : Sp := fun vs H Q _ => ∃ (M : Addr → Prop) (p : Addr) (S : List Sg), vs = [.ref p] ∧ BookAt C M H p S ∧ Q (.int S.length) H
def spNm (C : Addr) : Sp := fun vs H Q _ => ∃ (M : Addr → Prop) (p : Addr) (S : List Sg) (j : Nat) (q : Sg), vs = [.ref p, .int j] ∧ BookAt C M H p S ∧ S[j]? = some q ∧ Q (.str q.1) H
def spKd (C : Addr) : Sp := fun vs H Q _ => ∃ (M : Addr → Prop) (p : Addr) (S : List Sg) (j : Nat) (q : Sg), vs = [.ref p, .int j] ∧ BookAt C M H p S ∧ S[j]? = some q ∧ Q (.int q.2) H
def spNum (C : Addr) : Sp := fun vs H Q _ => ∃ (M : Addr → Prop) (p : Addr) (S : List Sg) (z : Str), vs = [.ref p, .str z] ∧ BookAt C M H p S ∧ ∀ H', Ex H H' → Q (numV S z) H'
def namesOk (S : List Sg) : Prop := ∀ q ∈ S, PyData.strOk q.1 = true
def spLike (C : Addr) : Sp := fun vs H Q _ => ∃ (M M' : Addr → Prop) (p p' : Addr) (S S' : List Sg), vs = [.ref p, .ref p'] ∧ BookAt C M H p S ∧ BookAt C M' H p' S' ∧ namesOk S ∧ namesOk S' ∧
  Q (.bl (decide (S.map (·.1) = S'.map (·.1)) && decide (S.map (·.2) = S'.map (·.2)))) H
theorem hu64 {A : Around} {k : Nat} (hr : Room k A) : A.units + 64 < cLine := by
  have := hr.un
  omega
theorem eqv_strs : ∀ zs ws : List Str, PyData.eqvAll (zs.map PyData.str) (ws.map PyData.str) = decide (zs = ws)
  | [], [] => by simp [PyData.eqvAll]
  | [], _ :: _ => by simp [PyData.eqvAll]
  | _ :: _, [] => by simp [PyData.eqvAll]
  | z :: zs, w :: ws => by
    rw [List.map_cons, List.map_cons, PyData.eqvAll, eqv_strs zs ws, PyData.eqv]
    by_cases h : z = w <;> by_cases h2 : zs = ws <;> simp [h, h2]
theorem eqv_ints : ∀ zs ws : List Int, PyData.eqvAll (zs.map PyData.int) (ws.map PyData.int) = decide (zs = ws)
  | [], [] => by simp [PyData.eqvAll]
  | [], _ :: _ => by simp [PyData.eqvAll]
  | _ :: _, [] => by simp [PyData.eqvAll]
  | z :: zs, w :: ws => by
    rw [List.map_cons, List.map_cons, PyData.eqvAll, eqv_ints zs ws, PyData.eqv]
    by_cases h : z = w <;> by_cases h2 : zs = ws <;> simp [h, h2]
theorem dpAll_strs {K : PySem.W.Frag} {H : Hp} : ∀ zs : List Str, DpAll K H (zs.map V.str) (zs.map PyData.str)
  | [] => .nil
  | z :: zs => .cons (.str z) (dpAll_strs zs)
theorem dpAll_ints {K : PySem.W.Frag} {H : Hp} : ∀ zs : List Int, DpAll K H (zs.map V.int) (zs.map PyData.int)
  | [] => .nil
  | z :: zs => .cons (.int z) (dpAll_ints zs)
theorem lay_strs : ∀ zs : List Str, (∀ z ∈ zs, PyData.strOk z = true) → PyData.canLayAll0 (zs.map PyData.str) = true
  | [], _ => rfl
  | z :: zs, h => by
    rw [List.map_cons, PyData.canLayAll0, PyData.canLay0, h z List.mem_cons_self, lay_strs zs fun y hy => h y (List.mem_cons_of_mem _ hy)]
    rfl
theorem lay_ints : ∀ zs : List Int, PyData.canLayAll0 (zs.map PyData.int) = true
  | [] => rfl
  | z :: zs => by
    rw [List.map_cons, PyData.canLayAll0, PyData.canLay0, lay_ints zs]
    rfl
theorem depth_strs : ∀ zs : List Str, PyData.depthAll (zs.map PyData.str) = 0
  | [] => rfl
  | z :: zs => by rw [List.map_cons, PyData.depthAll, PyData.depth, depth_strs zs]; rfl
theorem depth_ints : ∀ zs : List Int, PyData.depthAll (zs.map PyData.int) = 0
  | [] => rfl
  | z :: zs => by rw [List.map_cons, PyData.depthAll, PyData.depth, depth_ints zs]; rfl
theorem shaped_strs (zs : List Str) (h : ∀ z ∈ zs, PyData.strOk z = true) : SeqAt.shaped (.list (zs.map PyData.str)) = true := by
  unfold SeqAt.shaped
  rw [PyData.canLay0, lay_strs zs h, PyData.depth, depth_strs]
  rfl
theorem shaped_ints (zs : List Int) : SeqAt.shaped (.list (zs.map PyData.int)) = true := by
  unfold SeqAt.shaped
  rw [PyData.canLay0, lay_ints zs, PyData.depth, depth_ints]
  rfl
section
variable {P : Program} {w : World} {K : PySem.W.Frag} {mg : Str → Option Value} {base : Heap}
theorem scMany : FnScope ["self"] ["self"] (defScope sMany) := ⟨rfl, rfl, rfl, by decide +kernel, rfl, by decide +kernel, by decide +kernel⟩
theorem ok_many {f C : Addr} {fd : FuncData} (F : Fun K "many" "Book.many" sMany f fd) (G : GlobS mg) (T : BookT K mg C) : FnOk P w K mg base CX0 1 f fd ["self"] (spMany C) := by
  refine F.ok scMany (fun vs H Q E h => ?_) (fun cdv A outer s H vs Q E hr h => ?_)
  · obtain ⟨M, p, S, rfl, _⟩ := h
    rfl
  · obtain ⟨M, p, S, rfl, ⟨dx, l1, l2, h1, h2, h3, h4, h5⟩, q⟩ := h
    refine ⟨_, pss_one (ps_ret (pe_callB call_len_seq (by rfl) G.len PySem.boot_len (pa_cons (pe_fld (pv 0) rfl) pa_nil))), ?_⟩
    refine ⟨_, rfl, p, C, dx, _, _, rfl, h1, T.cl, T.n1, flds_names _ _, _, _, rfl, .inl (SqL.of h2), ?_⟩
    rw [List.length_map]
    exact q
theorem scNm : FnScope ["self", "sign"] ["self", "sign"] (defScope sNm) := ⟨rfl, rfl, rfl, by decide +kernel, rfl, by decide +kernel, by decide +kernel⟩
theorem ok_nm {f C : Addr} {fd : FuncData} (F : Fun K "name" "Book.name" sNm f fd) (T : BookT K mg C) : FnOk P w K mg base CX0 1 f fd ["self", "sign"] (spNm C) := by
  refine F.ok scNm (fun vs H Q E h => ?_) (fun cdv A outer s H vs Q E hr h => ?_)
  · obtain ⟨M, p, S, j, q, rfl, _⟩ := h
    rfl
  · obtain ⟨M, p, S, j, q, rfl, ⟨dx, l1, l2, h1, h2, h3, h4, h5⟩, hj, k⟩ := h
    refine ⟨_, pss_one (ps_ret (pe_ix ix_list (pe_fld (pv 0) rfl) (pv 1) (fun _ _ => rfl))), ?_⟩
    exact ⟨_, rfl, p, C, dx, _, _, rfl, h1, T.cl, T.n1, flds_names _ _, _, rfl, _, _, _, _, rfl, rfl, SqL.of h2, atI_nat (by rw [List.getElem?_map, hj]; rfl), k⟩
theorem scKd : FnScope ["self", "sign"] ["self", "sign"] (defScope sKd) := ⟨rfl, rfl, rfl, by decide +kernel, rfl, by decide +kernel, by decide +kernel⟩
theorem ok_kd {f C : Addr} {fd : FuncData} (F : Fun K "kids" "Book.kids" sKd f fd) (T : BookT K mg C) : FnOk P w K mg base CX0 1 f fd ["self", "sign"] (spKd C) := by
  refine F.ok scKd (fun vs H Q E h => ?_) (fun cdv A outer s H vs Q E hr h => ?_)
  · obtain ⟨M, p, S, j, q, rfl, _⟩ := h
    rfl
  · obtain ⟨M, p, S, j, q, rfl, ⟨dx, l1, l2, h1, h2, h3, h4, h5⟩, hj, k⟩ := h
    refine ⟨_, pss_one (ps_ret (pe_ix ix_list (pe_fld (pv 0) rfl) (pv 1) (fun _ _ => rfl))), ?_⟩
    exact ⟨_, rfl, p, C, dx, _, _, rfl, h1, T.cl, T.n2, flds_kids _ _, _, rfl, _, _, _, _, rfl, rfl, SqL.of h4, atI_nat (by rw [List.getElem?_map, hj]; rfl), k⟩
theorem scNum : FnScope ["self", "name", "sign", "known"] ["self", "name"] (defScope sNum) := ⟨rfl, rfl, rfl, by decide +kernel, rfl, by decide +kernel, by decide +kernel⟩
theorem ok_num {f C : Addr} {fd : FuncData} (F : Fun K "number" "Book.number" sNum f fd) (G : GlobS mg) (T : BookT K mg C) : FnOk P w K mg base CX0 1 f fd ["self", "name"] (spNum C) := by
  refine F.ok scNum (fun vs H Q E h => ?_) (fun cdv A outer s H vs Q E hr h => ?_)
  · obtain ⟨M, p, S, z, rfl, _⟩ := h
    rfl
  · obtain ⟨M, p, S, z, rfl, ⟨dx, l1, l2, h1, h2, h3, h4, h5⟩, q⟩ := h
    refine ⟨_, pss_cons (ps_for PassesOwn.never rfl (pi_enum (by rfl) G.enumerate (pa_cons (pe_fld (pv 0) rfl) pa_nil)) (pg_tup rfl (pgs_cons (pg_name (i := 2) scNum.nd rfl (.inl rfl)) (pgs_cons (pg_name (i := 3) scNum.nd rfl (.inl rfl)) pgs_nil)))
      (pss_one (ps_if (pt_cmpR op_eq (pv 3) (pv 1) (nomark _)) (pss_one (ps_ret (pv 2))) pss_nil))) (pss_one (ps_ret pe_non)), ?_⟩
    refine ⟨_, rfl, p, C, dx, _, _, rfl, h1, T.cl, T.n1, flds_names _ _, l1, _, rfl, SqL.of h2, ?_⟩
    refine for_it walk_enum (fun i σ' H' => Ex H H' ∧ i ≤ S.length ∧ (∃ u v, σ' = [some (.ref p), some (.str z), u, v]) ∧ ∀ j < i, ∀ q, S[j]? = some q → ¬ q.1 = z) ⟨Ex.refl H, Nat.zero_le _, ⟨none, none, rfl⟩, fun j hj => by omega⟩ (fun i σ' H' _ ⟨e, _⟩ => SqL.of (e _ _ h2)) ?_ ?_
    · rintro i x σ' H1 H' hi ⟨e, hiS, ⟨u, v, rfl⟩, hno⟩ ⟨t, a, b, rfl, ht, rfl, ha, hb⟩
      rw [List.length_map] at hi
      cases ha
      have hb : (S.map fun q => V.str q.1)[i]? = some b := hb
      rw [List.getElem?_map, List.getElem?_eq_getElem hi] at hb
      cases hb
      refine ⟨t, _, rfl, SqT.of upd_same, rfl, _, _, rfl, _, _, rfl, rfl, ?_⟩
      refine ⟨_, rfl, _, rfl, rfl, _, rfl, ite2 (fun c => ?_) (fun c => ?_)⟩
      · have c' : S[i].1 = z := by simpa using c
        refine ⟨_, rfl, ?_⟩
        have hf : S.findIdx? (fun q => decide (q.1 = z)) = some i := by
          rw [List.findIdx?_eq_some_iff_getElem]
          refine ⟨hi, by simpa using c', fun j hji => ?_⟩
          have := hno j hji S[j] (List.getElem?_eq_getElem (by omega))
          simpa using this
        have ev : numV S z = .int i := by unfold numV; rw [hf]
        rw [ev] at q
        exact q _ (e.trans (Ex.new ht))
      · have c' : ¬ S[i].1 = z := by simpa using c
        refine ⟨e.trans (Ex.new ht), hi, ⟨_, _, rfl⟩, fun j hj q hq => ?_⟩
        by_cases hji : j = i
        · subst hji
          rw [List.getElem?_eq_getElem hi] at hq
          cases hq
          exact c'
        · exact hno j (by omega) q hq
    · rintro σ' H' ⟨e, _, ⟨u, v, rfl⟩, hno⟩
      rw [List.length_map] at hno
      have hf : S.findIdx? (fun q => decide (q.1 = z)) = none := by
        rw [List.findIdx?_eq_none_iff]
        intro q hq
        obtain ⟨j, hj, rfl⟩ := List.getElem_of_mem hq
        have := hno j hj S[j] (List.getElem?_eq_getElem hj)
        simpa using this
      have ev : numV S z = .non := by unfold numV; rw [hf]
      rw [ev] at q
      exact q _ e
theorem scLike : FnScope ["self", "book"] ["self", "book"] (defScope sLike) := ⟨rfl, rfl, rfl, by decide +kernel, rfl, by decide +kernel, by decide +kernel⟩
theorem ok_like {f C : Addr} {fd : FuncData} (F : Fun K "is_like" "Book.is_like" sLike f fd) (T : BookT K mg C) : FnOk P w K mg base CX0 1 f fd ["self", "book"] (spLike C) := by
  refine F.ok scLike (fun vs H Q E h => ?_) (fun cdv A outer s H vs Q E hr h => ?_)
  · obtain ⟨M, M', p, p', S, S', rfl, _⟩ := h
    rfl
  · obtain ⟨M, M', p, p', S, S', rfl, ⟨dx, l1, l2, h1, h2, h3, h4, h5⟩, ⟨dy, m1, m2, g1, g2, g3, g4, g5⟩, n1, n2, q⟩ := h
    refine ⟨_, pss_one (ps_ret (pe_and (pe_cmpR (op_eqD (hu64 hr)) (pe_fld (pv 0) rfl) (pe_fld (pv 1) rfl) (nomark _)) (pe_one (pe_cmpR (op_eqD (hu64 hr)) (pe_fld (pv 0) rfl) (pe_fld (pv 1) rfl) (nomark _))))), ?_⟩
    have e1 : (S.map fun q => V.str q.1) = (S.map (·.1)).map V.str := by rw [List.map_map]; rfl
    have e2 : (S'.map fun q => V.str q.1) = (S'.map (·.1)).map V.str := by rw [List.map_map]; rfl
    have e3 : (S.map fun q => V.int q.2) = (S.map (·.2)).map V.int := by rw [List.map_map]; rfl
    have e4 : (S'.map fun q => V.int q.2) = (S'.map (·.2)).map V.int := by rw [List.map_map]; rfl
    have o1 : ∀ z ∈ S.map (·.1), PyData.strOk z = true := fun z hz => by
      obtain ⟨q, hq, rfl⟩ := List.mem_map.mp hz
      exact n1 q hq
    have o2 : ∀ z ∈ S'.map (·.1), PyData.strOk z = true := fun z hz => by
      obtain ⟨q, hq, rfl⟩ := List.mem_map.mp hz
      exact n2 q hq
    rw [e1] at h2
    rw [e2] at g2
    rw [e3] at h4
    rw [e4] at g4
    refine ⟨_, rfl, p, C, dx, _, _, rfl, h1, T.cl, T.n1, flds_names _ _, _, rfl, p', C, dy, _, _, rfl, g1, T.cl, T.n1, flds_names _ _, _, _, .lst (SqL.of h2) (dpAll_strs _), .lst (SqL.of g2) (dpAll_strs _), shaped_strs _ o1, shaped_strs _ o2, _, rfl, ?_⟩
    rw [PyData.eqv, eqv_strs]
    by_cases c : S.map (·.1) = S'.map (·.1)
    · rw [decide_eq_true c] at q ⊢
      refine iteT ?_
      refine ⟨_, rfl, p, C, dx, _, _, rfl, h1, T.cl, T.n2, flds_kids _ _, _, rfl, p', C, dy, _, _, rfl, g1, T.cl, T.n2, flds_kids _ _, _, _, .lst (SqL.of h4) (dpAll_ints _), .lst (SqL.of g4) (dpAll_ints _), shaped_ints _, shaped_ints _, ?_⟩
      rw [PyData.eqv, eqv_ints]
      exact q
    · rw [decide_eq_false c] at q ⊢
      exact iteF q
end
end TH
set_option maxRecDepth 100000
set_option maxHeartbeats 4000000
namespace TH
open PySem L2 Evl
section
variable {X : Cx} {K : PySem.W.Frag}
theorem pg_tupK {es : List Expr} {k : Nat} {t : TGs} {n : Nat} {pos : Pos} (hK : X.K = K) (hc : X.calm = true) (h : PGs X es t)
    (hn : (assignEach es X.env).length = n := by rfl) (hst : (assignEach es X.env).findIdx? (·.1) = none := by rfl) : PG X (.Tuple es k pos) (gTup K n t) := by
  subst hK
  exact pg_tup hc h hn hst
end
section
variable {K : PySem.W.Frag} {M : Addr → Prop} {H H1 H' : Hp} {σ : L2.St} {ta tb tc te tl : TE} {P : PyData → Prop}
/-- a draw -/
theorem evp_take {E : XK} {b : Addr} {n : Int} (hb : Ev tb σ H (.ref b)) (hx : H b = some (Box b)) (hn : EvD K M te σ H (.int n)) (n0 : 0 < n) (n1 : n.natAbs < 2 ^ 200) :
    EvP K M (tCall spTake [] E (tCons tb (tCons te tNil))) σ H (fun d => ∃ k : Int, d = .int k ∧ 0 ≤ k ∧ k < n) := fun H1 e Q q =>
  hb H1 e _ fun H2 e2 => hn H2 (e.trans e2) _ fun v d H3 e3 dv pd => by
    subst pd
    cases dv
    exact ⟨b, n, rfl, ((e.trans e2).trans e3) _ _ hx, n0, n1, fun k H4 k0 k1 e4 => q _ _ H4 ((e2.trans e3).trans e4) (.int k) ⟨k, rfl, k0, k1⟩⟩
/-- texts joined -/
theorem txt_join (ys : List Str) : (Txt.join "" ys).cps.toList = (ys.map fun y => y.cps.toList).flatten := by
  rw [TL.join_eq]
  have h : TL.tl (Str.join "" ys) = _ := TL.tl_join "" ys
  have e : TL.tl ("" : Str) = [] := by decide +kernel
  rw [e] at h
  refine h.trans ?_
  clear h
  induction ys with
  | nil => rfl
  | cons y ys ih =>
    cases ys with
    | nil =>
      show TL.tl y = y.cps.toList ++ []
      rw [List.append_nil]
    | cons z zs =>
      show TL.tl y ++ ([] ++ TL.joinL [] ((z :: zs).map TL.tl)) = y.cps.toList ++ _
      rw [ih]
      rfl
theorem evp_join {PY : List Str → Prop} (h : EvP K M te σ H (fun d => ∃ ys : List Str, d = .list (ys.map PyData.str) ∧ PY ys)) (hz : ∀ ys, PY ys → (ys.map (·.length)).sum ≤ 16777216) :
    EvP K M (tM1 (fun x xs H Q => ∃ a p, ∃ ys : List Str, x = .str a ∧ xs = [.ref p] ∧ (SqL K H p (ys.map V.str) ∨ SqT K H p (ys.map V.str)) ∧ (ys.map (·.length)).sum + ys.length * a.length ≤ 16777216 ∧ Q (.str (Txt.join a ys)) H) (tC (.str "")) te) σ H
      (fun d => ∃ ys, PY ys ∧ d = .str (Txt.join "" ys)) := fun H1 e Q q => ⟨⟨_, rfl⟩, h H1 e _ fun v d H2 e2 dv pd => by
    obtain ⟨ys, rfl, py⟩ := pd
    cases dv with
    | lst k1 k2 k3 =>
      have e := k3.strs
      subst e
      refine ⟨_, _, ys, rfl, rfl, .inl (sq_of k1), ?_, q _ _ H2 e2 (.str _) ⟨ys, py, rfl⟩⟩
      have e0 : ("" : Str).length = 0 := by decide +kernel
      rw [e0, Nat.mul_zero, Nat.add_zero]
      exact hz ys py⟩
/-- in, not in a list of texts -/
theorem inV_str (z : Str) (ys : List Str) : inV (.str z) (ys.map V.str) = decide (z ∈ ys) := by
  unfold inV
  rw [List.any_map, Bool.eq_iff_iff]
  simp only [List.any_eq_true, decide_eq_true_eq, Function.comp]
  constructor
  · rintro ⟨y, hy, h⟩
    have : y = z := by
      have h : (y == z) = true := h
      simpa using h
    subst this
    exact hy
  · intro h
    refine ⟨z, h, ?_⟩
    show (z == z) = true
    simp
theorem flat_strs (ys : List Str) : (ys.map V.str).all flatV = true := by
  rw [List.all_map, List.all_eq_true]
  intro y _
  rfl
theorem flat_ints (ys : List Int) : (ys.map V.int).all flatV = true := by
  rw [List.all_map, List.all_eq_true]
  intro y _
  rfl
theorem evd_notInS {z : Str} {ys : List Str} (ha : EvD K M ta σ H (.str z)) (hb : EvD K M tb σ H (.list (ys.map PyData.str))) : EvD K M (tOp (rIn K true) ta tb) σ H (.bool (!decide (z ∈ ys))) :=
  evp_op ha hb fun x y a b H1 e dx dy px py Q q => by
    subst px py
    cases dx
    cases dy with
    | lst k1 k2 k3 =>
      have e := k3.strs
      subst e
      refine ⟨_, _, rfl, .inl (sq_of k1), rfl, flat_strs ys, ?_⟩
      rw [inV_str]
      exact q _ _ H1 (Ex.refl _) (.bl _) rfl
theorem inV_int (z : Int) (ys : List Int) : inV (.int z) (ys.map V.int) = decide (z ∈ ys) := by
  unfold inV
  rw [List.any_map, Bool.eq_iff_iff]
  simp only [List.any_eq_true, decide_eq_true_eq, Function.comp]
  constructor
  · rintro ⟨y, hy, h⟩
    have : y = z := by
      have h : (y == z) = true := h
      simpa using h
    subst this
    exact hy
  · intro h
    refine ⟨z, h, ?_⟩
    show (z == z) = true
    simp
theorem evd_inI {z : Int} {ys : List Int} (ha : EvD K M ta σ H (.int z)) (hb : EvD K M tb σ H (.list (ys.map PyData.int))) : EvD K M (tOp (rIn K false) ta tb) σ H (.bool (decide (z ∈ ys))) :=
  evp_op ha hb fun x y a b H1 e dx dy px py Q q => by
    subst px py
    cases dx
    cases dy with
    | lst k1 k2 k3 =>
      have e := k3.ints
      subst e
      refine ⟨_, _, rfl, .inl (sq_of k1), rfl, flat_ints ys, ?_⟩
      rw [inV_int]
      exact q _ _ H1 (Ex.refl _) (.bl _) rfl
/-- min of a list of ints -/
theorem evp_min {ta : TA} {ns : List Int} (h : EvDA K M ta σ H [.list (ns.map PyData.int)]) (hn : 0 < ns.length) : EvP K M (tCB (rMin K) ta) σ H (fun d => ∃ m, d = .int m ∧ m ∈ ns ∧ ∀ y ∈ ns, m ≤ y) :=
  evp_cb h fun vs ds H1 e dv pd Q q => by
    subst pd
    cases dv with
    | cons h1 h2 =>
      cases h2
      cases h1 with
      | lst k1 k2 k3 =>
        have e := k3.ints
        subst e
        exact ⟨_, ns, rfl, sq_of k1, hn, fun m hm hl => q _ _ H1 (Ex.refl _) (.int m) ⟨m, rfl, hm, hl⟩⟩
/-- an int in a comparison, where the left one is not fixed -/
theorem evp_cmp {g : Int → Int → Bool} {PA PB : PyData → Prop} (ha : EvP K M ta σ H PA) (hb : EvP K M tb σ H PB) (hi : ∀ a, PA a → ∃ i, a = .int i) (hj : ∀ a, PB a → ∃ i, a = .int i) :
    EvP K M (tOp (rI0 fun i j => .bl (g i j)) ta tb) σ H (fun d => ∃ i j, PA (.int i) ∧ PB (.int j) ∧ d = .bool (g i j)) :=
  evp_I0 ha hb fun a b pa pb => by
    obtain ⟨i, rfl⟩ := hi a pa
    obtain ⟨j, rfl⟩ := hj b pb
    exact ⟨i, j, rfl, rfl, _, ⟨i, j, pa, pb, rfl⟩, fun _ => .bl _⟩
/-- a test that is one or the other -/
theorem EvP.test {D : Ends} {tu tw : TS} {tz : TS} {PB : Bool → Prop} (h : EvP K M te σ H (fun d => ∃ b, d = .bool b ∧ PB b)) (k : ∀ b H1, Ex H H1 → PB b → if b = true then tu { D with nx := tz D } σ H1 else tw { D with nx := tz D } σ H1) : tSeq (tIfS (tTest te) tu tw) tz D σ H :=
  h.use fun v d H1 e dv pd => by
    obtain ⟨b, rfl, pb⟩ := pd
    cases dv
    exact ⟨b, rfl, k b H1 e pb⟩
end
theorem EvPA.mono {K : PySem.W.Frag} {M : Addr → Prop} {ta : TA} {σ : L2.St} {H : Hp} {P Q : List PyData → Prop} (h : EvPA K M ta σ H P) (k : ∀ d, P d → Q d) : EvPA K M ta σ H Q := fun H1 e R q => h H1 e R fun v d H2 e2 hd hp => q v d H2 e2 hd (k d hp)
/-- nothing changes -/
abbrev MF : Addr → Prop := fun _ => False
theorem okF {H : Hp} : Ok MF H := fun _ h => h.elim
section
variable {K : PySem.W.Frag} {M : Addr → Prop} {H H' : Hp} {σ : L2.St} {te : TE} {P : PyData → Prop} {D : Ends} {tz : TS} {i i' : Nat} {l : Addr} {xs : List V}
/-- l.append(e) -/
theorem s_appP (hl : H l = some (.lst xs)) (hs : σ[i]? = some (some (.ref l))) (h : EvP K M te σ H P) (hz : xs.length < sizeLine) (k : ∀ v d H1, Ex H H1 → Dt K M H1 v d → P d → D.nx σ (upd H1 l (.lst (xs ++ [v])))) :
    tDrop (tBM K "list" rAppend (tVar i) (tCons te tNil)) D σ H :=
  ⟨_, hs, .inl ⟨rfl, _, SqL.of hl⟩, h.use fun v d H1 e dv pd => ⟨l, xs, v, rfl, rfl, e _ _ hl, hz, k v d H1 e dv pd⟩⟩
theorem q_appP (hl : H l = some (.lst xs)) (hs : σ[i]? = some (some (.ref l))) (h : EvP K M te σ H P) (hz : xs.length < sizeLine) (k : ∀ v d H1, Ex H H1 → Dt K M H1 v d → P d → tz D σ (upd H1 l (.lst (xs ++ [v])))) :
    tSeq (tDrop (tBM K "list" rAppend (tVar i) (tCons te tNil))) tz D σ H := s_appP (D := { D with nx := tz D }) hl hs h hz k
/-- l[j] = e -/
theorem s_setP {j : Nat} (hl : H l = some (.lst xs)) (hs : σ[i]? = some (some (.ref l))) (hj : σ[i']? = some (some (.int (j : Int)))) (hz : j < xs.length) (h : EvP K M te σ H P) (k : ∀ v d H1, Ex H H1 → Dt K M H1 v d → P d → D.nx σ (upd H1 l (.lst (xs.set j v)))) :
    tAsg te (gSub (tVar i) (tVar i') rSetL) D σ H := h.use fun v d H1 e dv pd => ⟨_, hs, _, hj, l, xs, j, j, rfl, rfl, e _ _ hl, ixN_nat hz, k v d H1 e dv pd⟩
end
/-- nothing but flat tuples and values -/
abbrev MT : Addr → Prop := fun _ => True
theorem Dts.flat {K : PySem.W.Frag} {M : Addr → Prop} {H : Hp} {vs : List V} {ds : List PyData} (h : Dts K MT H vs ds) : Dts K M H vs ds := h.weak fun _ _ => trivial
theorem Dt.flat {K : PySem.W.Frag} {M : Addr → Prop} {H : Hp} {v : V} {d : PyData} (h : Dt K MT H v d) : Dt K M H v d := h.weak fun _ _ => trivial
theorem sgs_flat {K : PySem.W.Frag} {M : Addr → Prop} {H : Hp} : ∀ {S : List Sg} {vs : List V}, Dts K M H vs (S.map sgD) → Dts K MT H vs (S.map sgD)
  | [], _, .nil => .nil
  | q :: S, _, .cons h t => by
    refine .cons ?_ (sgs_flat t)
    cases h with
    | tup h1 h2 =>
      cases h2 with
      | cons r1 r2 =>
        cases r1
        cases r2 with
        | cons r3 r4 =>
          cases r3
          cases r4
          exact .tup h1 (.cons (.str _) (.cons (.int _) .nil))
end TH
set_option maxRecDepth 100000
set_option maxHeartbeats 4000000
namespace TH
open PySem L2 Evl
abbrev sSigns : Stmt := top 29
/-! ### good books -/
structure NameOk (z : Str) : Prop where
  lo : 1 ≤ z.length
  hi : z.length ≤ 3
  az : ∀ c ∈ z.cps.toList, 97 ≤ c ∧ c ≤ 122
structure Good0 (S : List Sg) : Prop where
  len : S.length ≤ 6
  name : ∀ q ∈ S, NameOk q.1
  kids : ∀ q ∈ S, 0 ≤ q.2 ∧ q.2 ≤ 2
  nd : (S.map (·.1)).Nodup
structure Good (S : List Sg) : Prop extends Good0 S where
  ne : 1 ≤ S.length
  leaf : ∃ q ∈ S, q.2 = 0
theorem Good0.add {S : List Sg} {z : Str} {k : Int} (h : Good0 S) (hl : S.length < 6) (hz : NameOk z) (hk : 0 ≤ k ∧ k ≤ 2) (hn : z ∉ S.map (·.1)) : Good0 (S ++ [(z, k)]) := by
  refine ⟨by rw [List.length_append]; exact hl, fun q hq => ?_, fun q hq => ?_, ?_⟩
  · rcases List.mem_append.mp hq with hq | hq
    · exact h.name q hq
    · rw [List.mem_singleton.mp hq]
      exact hz
  · rcases List.mem_append.mp hq with hq | hq
    · exact h.kids q hq
    · rw [List.mem_singleton.mp hq]
      exact hk
  · rw [List.map_append, List.nodup_append]
    refine ⟨h.nd, by simp, fun a ha b hb => ?_⟩
    have : b = z := by simpa using hb
    rw [this]
    intro e
    rw [e] at ha
    exact hn ha
theorem Good0.zero {S : List Sg} {j : Nat} {q : Sg} (h : Good0 S) (hj : S[j]? = some q) : Good (S.set j (q.1, 0)) := by
  obtain ⟨hlt, rfl⟩ := List.getElem?_eq_some_iff.mp hj
  have hm : ∀ r ∈ S.set j (S[j].1, 0), r ∈ S ∨ r = (S[j].1, 0) := fun r hr => List.mem_or_eq_of_mem_set hr
  have em : (S.set j (S[j].1, 0)).map (·.1) = S.map (·.1) := by
    rw [List.map_set]
    exact List.set_getElem_self (as := S.map (·.1)) (by rw [List.length_map]; exact hlt) |> fun h => by rw [List.getElem_map] at h; exact h
  refine ⟨⟨by rw [List.length_set]; exact h.len, fun r hr => ?_, fun r hr => ?_, by rw [em]; exact h.nd⟩, by rw [List.length_set]; omega, (S[j].1, 0), ?_, rfl⟩
  · rcases hm r hr with hr | rfl
    · exact h.name r hr
    · exact h.name S[j] (List.getElem_mem hlt)
  · rcases hm r hr with hr | rfl
    · exact h.kids r hr
    · exact ⟨Int.le_refl _, (by show (0 : Int) ≤ 2; decide)⟩
  · exact List.mem_of_getElem? (i := j) (by rw [List.getElem?_set_self hlt])
/-- _law_signs -/
def spSigns (K : PySem.W.Frag) : Sp := fun vs H Q _ => ∃ b : Addr, vs = [.ref b] ∧ H b = some (Box b) ∧
  ∀ l xs S H', Good S → Ex H H' → H l = none → H' l = some (.lst xs) → Dts K MT H' xs (S.map sgD) → Q (.ref l) H'
structure GlobL (mg : Str → Option Value) : Prop extends GlobS mg where
  min : mg "min" = none
/-- one of the letters -/
theorem letter_at {k : Int} (h0 : 0 ≤ k) (h1 : k < 26) : ∃ c, atI ("abcdefghijklmnopqrstuvwxyz" : Str).cps.toList k = some c ∧ 97 ≤ c ∧ c ≤ 122 := by
  obtain ⟨j, rfl⟩ := Int.eq_ofNat_of_zero_le h0
  have hall : ∀ j : _root_.Fin 26, ∃ c, ("abcdefghijklmnopqrstuvwxyz" : Str).cps.toList[j.val]? = some c ∧ 97 ≤ c ∧ c ≤ 122 := by
    intro j
    have e : ("abcdefghijklmnopqrstuvwxyz" : Str).cps.toList = List.range' 97 26 := by decide +kernel
    rw [e, List.getElem?_range' (by exact j.isLt)]
    exact ⟨_, rfl, by omega, by have := j.isLt; omega⟩
  obtain ⟨c, hc, h⟩ := hall ⟨j, by omega⟩
  exact ⟨c, atI_nat hc, h⟩
theorem letters_len : ("abcdefghijklmnopqrstuvwxyz" : Str).length ≤ sizeLine := by
  have e : ("abcdefghijklmnopqrstuvwxyz" : Str).length = 26 := by decide +kernel
  rw [e]
  decide
theorem ones_name {ys : List Str} (h : ∀ y ∈ ys, ∃ c : Nat, y = ⟨#[c]⟩ ∧ 97 ≤ c ∧ c ≤ 122) (h1 : 1 ≤ ys.length) (h3 : ys.length ≤ 3) : NameOk (Txt.join "" ys) := by
  have e := txt_join ys
  have hl : (Txt.join "" ys).length = ys.length := by
    show (Txt.join "" ys).cps.size = _
    rw [← Array.length_toList, e]
    clear e h1 h3
    induction ys with
    | nil => rfl
    | cons y ys ih =>
      obtain ⟨c, rfl, _⟩ := h y List.mem_cons_self
      rw [List.map_cons, List.flatten_cons, List.length_append, ih fun z hz => h z (List.mem_cons_of_mem _ hz)]
      show 1 + ys.length = ys.length + 1
      omega
  refine ⟨by rw [hl]; exact h1, by rw [hl]; exact h3, fun c hc => ?_⟩
  rw [e] at hc
  obtain ⟨l, hl, hc⟩ := List.mem_flatten.mp hc
  obtain ⟨y, hy, rfl⟩ := List.mem_map.mp hl
  obtain ⟨d, rfl, hd⟩ := h y hy
  have : c = d := by simpa using hc
  rw [this]
  exact hd
section
variable {P : Program} {w : World} {K : PySem.W.Frag} {mg : Str → Option Value} {base : Heap}
abbrev nSigns : List Str := ["_law_box_here", "_law_letters", "_law_found", "_law_turn", "_law_name", "_law_spot", "_law_letter", "_law_one", "_law_kids"]
theorem scSigns : FnScope nSigns ["_law_box_here"] (defScope sSigns) := ⟨rfl, rfl, rfl, by decide +kernel, rfl, by decide +kernel, by decide +kernel⟩
theorem ok_signs {f fT : Addr} {fd fdT : FuncData} (F : Fun K "_law_signs" "_law_signs" sSigns f fd) (G : GlobL mg)
    (GT : FnOk P w K mg base CX0 2 fT fdT ["_law_box_here", "_law_count"] spTake) (FT : PySem.W.keepIn K (.ref fT) = true) (mT : mg "_law_take" = some (.ref fT)) (bT : Binds K fdT ["_law_box_here", "_law_count"] []) :
    FnOk P w K mg base CX0 3 f fd ["_law_box_here"] (spSigns K) := by
  refine F.ok scSigns (fun vs H Q E h => ?_) (fun cdv A outer s H vs Q E hr h => ?_)
  · obtain ⟨b, rfl, _⟩ := h
    rfl
  · obtain ⟨b, rfl, hb, q⟩ := h
    refine ⟨_, pss_cons (ps_asg (pe_tup (pa_cons pe_str (pa_cons (pe_lst pa_nil) pa_nil))) (pg_tup rfl (pgs_cons (pg_name (i := 1) scSigns.nd rfl (.inr rfl)) (pgs_cons (pg_name (i := 2) scSigns.nd rfl (.inl rfl)) pgs_nil))))
      (pss_cons (ps_for PassesOwn.never rfl (pi_range1 rfl G.range (pa_cons (pe_op op_add pe_int (pe_call GT hr rfl mT FT bT .nil pass0 (pa_cons (pv 0) (pa_cons pe_int pa_nil)))) pa_nil)) (pg_name (i := 3) scSigns.nd rfl (.inl rfl))
        (pss_cons (ps_set (i := 4) scSigns.nd rfl (.inl rfl) (pe_join pe_str (pe_lc (own := [("_law_letter", 6)]) (g := gName 6) (tt := tYes) rfl scSigns.nd
            (pi_range1 rfl G.range (pa_cons (pe_op op_add pe_int (pe_call GT hr rfl mT FT bT .nil pass0 (pa_cons (pv 0) (pa_cons pe_int pa_nil)))) pa_nil))
            (blkOk_by (N := nSigns) (sc := defScope sSigns) (by decide +kernel)) (fun _ _ _ _ _ => pg_name (i := 6) scSigns.nd rfl (.inl rfl)) (fun _ _ _ _ _ => pts_nil)
            (fun _ _ _ _ _ => pe_ix ix_str (pv 1) (pe_call GT hr rfl mT FT bT .nil pass0 (pa_cons (pv 0) (pa_cons pe_int pa_nil))) (fun _ _ => rfl)))))
        (pss_one (ps_if (pt_cmpR op_notIn_seq (pv 4) (pe_lc (own := [("_law_one", 7), ("_law_kids", 8)]) (tt := tYes) rfl scSigns.nd (pi_list (pv 2))
            (blkOk_by (N := nSigns) (sc := defScope sSigns) (by decide +kernel)) (fun _ _ _ _ _ => pg_tupK (K := K) (n := 2) rfl rfl (pgs_cons (pg_name (i := 7) scSigns.nd rfl (.inl rfl)) (pgs_cons (pg_name (i := 8) scSigns.nd rfl (.inl rfl)) pgs_nil))) (fun _ _ _ _ _ => pts_nil)
            (fun _ _ _ _ _ => pv 7)) (by rfl))
          (pss_one (ps_expr (pe_bm PySem.F.plainAttrs_list PySem.F.slot_list_append PySem.F.type_list_append mt_append (pv 2) (pa_cons (pe_tup (pa_cons (pv 4) (pa_cons (pe_call GT hr rfl mT FT bT .nil pass0 (pa_cons (pv 0) (pa_cons pe_int pa_nil))) pa_nil))) pa_nil)))) pss_nil))))
      (pss_cons (ps_set (i := 5) scSigns.nd rfl (.inl rfl) (pe_call GT hr rfl mT FT bT .nil pass0 (pa_cons (pv 0) (pa_cons (pe_callB call_len_seq (by rfl) G.len PySem.boot_len (pa_cons (pv 2) pa_nil)) pa_nil))))
      (pss_cons (ps_if (pt_cmpR op_gt (pe_callB (cr_min rfl) (by rfl) G.min (by decide +kernel) (pa_cons (pe_lc (own := [("_law_name", 4), ("_law_kids", 8)]) (tt := tYes) rfl scSigns.nd (pi_list (pv 2))
            (blkOk_by (N := nSigns) (sc := defScope sSigns) (by decide +kernel)) (fun _ _ _ _ _ => pg_tupK (K := K) (n := 2) rfl rfl (pgs_cons (pg_name (i := 4) scSigns.nd rfl (.inl rfl)) (pgs_cons (pg_name (i := 8) scSigns.nd rfl (.inl rfl)) pgs_nil))) (fun _ _ _ _ _ => pts_nil)
            (fun _ _ _ _ _ => pv 8)) pa_nil)) pe_int (nomark _))
          (pss_one (ps_asg (pe_tup (pa_cons (pe_ix ix_tup (pe_ix ix_list (pv 2) (pv 5) (fun _ _ => rfl)) pe_int (fun _ _ => rfl)) (pa_cons pe_int pa_nil))) (pg_sub (pv 2) (pv 5) set_list))) pss_nil)
      (pss_one (ps_ret (pv 2)))))), ?_⟩
    refine ⟨by decide, fun l hl => ⟨by show 2 ≤ sizeLine; decide, fun t ht => ⟨t, _, rfl, SqT.of upd_same, rfl, _, _, rfl, _, _, rfl, rfl, ?_⟩⟩⟩
    have e0 : Ex H (upd H l (.lst [])) := Ex.new hl
    have e1 : Ex H (upd (upd H l (.lst [])) t (.tup [.str "abcdefghijklmnopqrstuvwxyz", .ref l])) := e0.trans (Ex.new ht)
    have hl1 : (upd (upd H l (.lst [])) t (.tup [.str "abcdefghijklmnopqrstuvwxyz", .ref l])) l = some (.lst []) := by
      rw [upd_ne (ne_of_none upd_same ht)]
      exact upd_same
    generalize hG1 : upd (upd H l (.lst [])) t (.tup [.str "abcdefghijklmnopqrstuvwxyz", .ref l]) = H1 at e1 hl1
    -- for turn in range(1 + take(box, 6))
    refine ⟨_, rfl, b, 6, rfl, e1 _ _ hb, by decide, by decide, fun d6 H2 d60 d61 e2 => ⟨_, _, rfl, rfl, _, rfl, by omega, by omega, ?_⟩⟩
    refine for_range (lo := 0) (n := (1 + d6).toNat) (fun i σ' H' => Ex H H' ∧ ∃ xs S u v, σ' = [some (.ref b), some (.str "abcdefghijklmnopqrstuvwxyz"), some (.ref l), u, v, none, none, none, none] ∧ H' l = some (.lst xs) ∧ Dts K MT H' xs (S.map sgD) ∧ Good0 S ∧ S.length ≤ i ∧ (0 < i → 1 ≤ S.length))
      ⟨e1.trans e2, [], [], none, none, rfl, e2 _ _ hl1, .nil, ⟨by decide, fun _ h => (nomatch h), fun _ h => (nomatch h), List.nodup_nil⟩, Nat.le_refl _, fun h => absurd h (Nat.lt_irrefl _)⟩ ?_ ?_
    · rintro i σ' H3 hi ⟨e3, xs, S, u, v, rfl, hl3, dS, gS, lS, nS⟩
      have hb3 := e3 _ _ hb
      have hi6 : i < 6 := by omega
      -- the name
      refine q_asgP (K := K) (M := MF) (P := fun d => ∃ z, d = .str z ∧ NameOk z) ?_ fun vz dz H4 e4 dvz hz => ?_
      · refine (evp_join (PY := fun ys => (∀ y ∈ ys, ∃ c : Nat, y = ⟨#[c]⟩ ∧ 97 ≤ c ∧ c ≤ 122) ∧ 1 ≤ ys.length ∧ ys.length ≤ 3) ?_ fun ys hy => ?_).mono fun d ⟨ys, hy, e⟩ => ⟨_, e, ones_name hy.1 hy.2.1 hy.2.2⟩
        · refine (evp_lcR (PN := fun n => 1 ≤ n ∧ n ≤ 3) (fun _ => true) (fun _ d => ∃ c : Nat, d = .str ⟨#[c]⟩ ∧ 97 ≤ c ∧ c ≤ 122) okF ?_ (fun n hn => by omega) fun M' n j H' hm ok' pn hj e Qg qg => ?_).mono ?_
          · refine (evpa_cons (evp_I0 (P := fun d => ∃ n : Int, d = .int n ∧ 1 ≤ n ∧ n ≤ 3) evd_int (evp_take (ev_var rfl) hb3 evd_int (by decide) (by decide)) ?_) eva_nil).mono ?_
            · rintro a _ rfl ⟨k, rfl, k0, k1⟩
              exact ⟨1, k, rfl, rfl, _, ⟨1 + k, rfl, by omega, by omega⟩, fun _ => .int _⟩
            · rintro d ⟨a, ds, rfl, ⟨n, rfl, h⟩, rfl⟩
              exact ⟨n, rfl, h⟩
          · refine qg _ H' (Ex.refl _) ⟨rfl, evt_yes, fun _ => evp_op (evd_var rfl (.str _)) (evp_take (ev_var rfl) (e _ _ hb3) evd_int (by decide) (by decide)) fun x y a d H5 e5 dx dy px py Q q => ?_⟩
            obtain ⟨k, rfl, k0, k1⟩ := py
            subst px
            cases dx
            cases dy
            obtain ⟨c, hc, h⟩ := letter_at k0 k1
            exact ⟨_, k, c, rfl, rfl, letters_len, hc, q _ _ H5 (Ex.refl _) (.str _) ⟨c, rfl, h⟩⟩
          · rintro d ⟨n, es, pn, rfl, pr⟩
            rw [filter_yes] at pr
            have hlen := paired_len pr
            rw [List.length_range] at hlen
            have hm := paired_mem pr
            refine ⟨es.map fun d => match d with | .str z => z | _ => Str.empty, ?_, ?_, ?_, ?_⟩
            · congr 1
              rw [List.map_map]
              refine (List.map_id es).symm.trans (List.map_congr_left fun d hd => ?_)
              obtain ⟨_, _, c, rfl, _⟩ := hm d hd
              rfl
            · intro y hy
              obtain ⟨d, hd, rfl⟩ := List.mem_map.mp hy
              obtain ⟨_, _, c, rfl, h⟩ := hm d hd
              exact ⟨c, rfl, h⟩
            · rw [List.length_map]
              omega
            · rw [List.length_map]
              omega
        · have h1 : ∀ l : List Str, (∀ y ∈ l, ∃ c : Nat, y = ⟨#[c]⟩ ∧ 97 ≤ c ∧ c ≤ 122) → (l.map (·.length)).sum = l.length := by
            intro l
            induction l with
            | nil => intro _; rfl
            | cons y l ih =>
              intro h
              obtain ⟨c, rfl, _⟩ := h y List.mem_cons_self
              rw [List.map_cons, List.sum_cons, ih fun z hz => h z (List.mem_cons_of_mem _ hz), List.length_cons]
              show 1 + l.length = _
              omega
          rw [h1 ys hy.1]
          omega
      · obtain ⟨z, rfl, hz⟩ := hz
        cases dvz
        have hl4 := e4 _ _ hl3
        have dS4 := dS.ex e4
        have hb4 := e4 _ _ hb3
        -- if name not in [one for one, kids in found]
        refine s_when (evt_test (K := K) (M := MF) (evd_notInS (ys := S.map (·.1)) (evd_var rfl (.str z)) ?_)) (fun hn H5 e5 => ?_) (fun hn H5 e5 => ?_)
        · refine (evd_lcL (fun _ => true) (fun d => .str (sgU d).1) okF (evd_var rfl (.lst hl4 (fun h => h) dS4.flat)) (by rw [List.length_map]; exact Nat.lt_of_le_of_lt gS.len (by decide)) fun M' d x H' hm ok' hd e dx Qg qg => ?_).mono fun d h => ?_
          · obtain ⟨p, hp, rfl⟩ := List.mem_map.mp hd
            cases dx with
            | tup k1 k2 =>
              cases k2 with
              | cons r1 r2 =>
                cases r1
                cases r2 with
                | cons r3 r4 =>
                  cases r4
                  exact ⟨_, _, rfl, k1, rfl, _, _, rfl, _, _, rfl, rfl, qg _ H' (Ex.refl _) ⟨rfl, evt_yes, fun _ => evd_var rfl (.str _)⟩⟩
          · rw [h, filter_yes, List.map_map, List.map_map]
            rfl
        · have hn' : z ∉ S.map (·.1) := by simpa using hn
          refine s_appP (K := K) (M := MT) (P := fun d => ∃ k : Int, d = .tuple [.str z, .int k] ∧ 0 ≤ k ∧ k < 3) (e5 _ _ hl4) rfl ?_ (Nat.lt_of_le_of_lt (by rw [dS.length, List.length_map]; exact gS.len) (by decide)) fun v d H6 e6 dv hd => ?_
          · refine (evp_tup (evpa_cons (evd_var rfl (.str z)) (evpa_cons (evp_take (ev_var rfl) (e5 _ _ hb4) evd_int (by decide) (by decide)) eva_nil)) ?_).mono ?_
            · rintro ds ⟨a, ds, rfl, rfl, c, ds', rfl, _, rfl⟩
              show 2 ≤ sizeLine
              decide
            · rintro d ⟨ds, rfl, a, ds, rfl, rfl, c, ds', rfl, ⟨k, rfl, h⟩, rfl⟩
              exact ⟨k, rfl, h⟩
          · obtain ⟨k, rfl, k0, k1⟩ := hd
            have hl6 := (e5.trans e6) _ _ hl4
            refine ⟨Ex.mut ((e3.trans e4).trans (e5.trans e6)) hl, xs ++ [v], S ++ [(z, k)], _, _, rfl, upd_same, ?_, gS.add (by omega) hz ⟨k0, by omega⟩ hn', ?_, fun _ => ?_⟩
            · rw [List.map_append]
              exact ((dS4.ex (e5.trans e6)).append (.one dv)).upd hl6 trivial
            · rw [List.length_append]
              exact Nat.succ_le_succ lS
            · rw [List.length_append]
              exact Nat.le_add_left _ _
        · have hn' : z ∈ S.map (·.1) := by simpa using hn
          refine ⟨(e3.trans e4).trans e5, xs, S, _, _, rfl, e5 _ _ hl4, dS4.ex e5, gS, Nat.le_succ_of_le lS, fun _ => ?_⟩
          obtain ⟨p, hp, _⟩ := List.mem_map.mp hn'
          exact List.length_pos_of_mem hp
    · rintro σ' H3 ⟨e3, xs, S, u, v, rfl, hl3, dS, gS, lS, nS⟩
      have ne : 1 ≤ S.length := nS (by omega)
      have hb3 := e3 _ _ hb
      -- spot
      refine q_asgP (K := K) (M := MF) (evp_take (n := ((S.map sgD).length : Int)) (ev_var rfl) hb3 (evd_lenL (eva_cons (evd_var rfl (.lst hl3 (fun h => h) dS.flat)) eva_nil)) (by rw [List.length_map]; omega) (by rw [List.length_map]; exact Nat.lt_of_le_of_lt (show ((S.length : Nat) : Int).natAbs ≤ 6 by have := gS.len; omega) (by decide))) fun vz dz H4 e4 dvz hz => ?_
      obtain ⟨k, rfl, k0, k1⟩ := hz
      cases dvz
      rw [List.length_map] at k1
      obtain ⟨j, rfl⟩ := Int.eq_ofNat_of_zero_le k0
      have hj : j < S.length := by omega
      have hl4 := e4 _ _ hl3
      have dS4 := dS.ex e4
      have e04 := e3.trans e4
      -- min
      refine EvP.test (K := K) (M := MF) (PB := fun b => (b = true → ∀ p ∈ S, 0 < p.2) ∧ (b = false → ∃ p ∈ S, p.2 = 0)) ?_ fun c H5 e5 hc => ?_
      · refine (evp_cmp (g := fun i j => decide (j < i)) (evp_min (ns := S.map (·.2)) (eva_cons ?_ eva_nil) (by rw [List.length_map]; exact ne)) evd_int (fun a ⟨m, e, _⟩ => ⟨m, e⟩) (fun a e => ⟨0, e⟩)).mono ?_
        · refine (evd_lcL (fun _ => true) (fun d => .int (sgU d).2) okF (evd_var rfl (.lst hl4 (fun h => h) dS4.flat)) (by rw [List.length_map]; exact Nat.lt_of_le_of_lt gS.len (by decide)) fun M' d x H' hm ok' hd e dx Qg qg => ?_).mono fun d h => ?_
          · obtain ⟨p, hp, rfl⟩ := List.mem_map.mp hd
            cases dx with
            | tup k1 k2 =>
              cases k2 with
              | cons r1 r2 =>
                cases r1
                cases r2 with
                | cons r3 r4 =>
                  cases r4
                  cases r3
                  exact ⟨_, _, rfl, k1, rfl, _, _, rfl, _, _, rfl, rfl, qg _ H' (Ex.refl _) ⟨rfl, evt_yes, fun _ => evd_var rfl (.int _)⟩⟩
          · rw [h, filter_yes, List.map_map, List.map_map]
            rfl
        · rintro d ⟨m, z, ⟨m', em, hm, hall⟩, ez, rfl⟩
          cases em
          cases ez
          refine ⟨_, rfl, fun h p hp => ?_, fun h => ?_⟩
          · have h1 : 0 < m := of_decide_eq_true h
            exact Int.lt_of_lt_of_le h1 (hall _ (List.mem_map_of_mem hp))
          · have h1 : ¬ 0 < m := of_decide_eq_false h
            obtain ⟨p, hp, rfl⟩ := List.mem_map.mp hm
            exact ⟨p, hp, by have := (gS.kids p hp).1; omega⟩
      · have hl5 := e5 _ _ hl4
        have dS5 := dS4.ex e5
        cases c with
        | true =>
          have hjl : j < xs.length := by rw [dS.length, List.length_map]; exact hj
          have hSj : S[j]? = some S[j] := List.getElem?_eq_getElem hj
          refine iteT (s_setP (K := K) (M := MT) (P := (· = sgD (S[j].1, 0))) (j := j) hl5 rfl rfl hjl ?_ fun v d H6 e6 dv hd => ?_)
          · obtain ⟨vj, hvj, dvj⟩ := dS5.at (i := j) (d := sgD S[j]) (by rw [List.getElem?_map, hSj]; rfl)
            exact evd_tup (ds := [.str S[j].1, .int 0]) (eva_cons (evd_ixT (j := 0) (ds := [.str S[j].1, .int S[j].2]) (evd_of (ev_op (ev_var rfl) (ev_var rfl) (rv_ixL (sq_of hl5) (atI_nat hvj))) dvj) evd_int rfl rfl) (eva_cons evd_int eva_nil)) (by show 2 ≤ sizeLine; decide)
          · subst hd
            refine ⟨_, rfl, q l _ (S.set j (S[j].1, 0)) _ (gS.zero hSj) (Ex.mut ((e04.trans e5).trans e6) hl) hl upd_same ?_⟩
            rw [List.map_set]
            exact ((dS5.ex e6).set j dv).upd (e6 _ _ hl5) trivial
        | false =>
          exact iteF ⟨_, rfl, q l xs S H5 ⟨gS, ne, hc.2 rfl⟩ (e04.trans e5) hl hl5 dS5⟩
end
end TH
set_option maxRecDepth 100000
set_option maxHeartbeats 4000000
namespace TH
open PySem L2 Evl
abbrev sTells : Stmt := top 32
/-- a method that keeps its promise -/
def OneM (P : Program) (w : World) (K : PySem.W.Frag) (mg : Str → Option Value) (base : Heap) (C : Addr) (m : Str) (k : Nat) (ps : List Str) (sp : Sp) : Prop :=
  ∃ (f : Addr) (fd : FuncData), Meth K C m f ∧ FnOk P w K mg base CX0 k f fd ps sp ∧ Binds K fd ps []
/-- a def that keeps its promise -/
def OneF (P : Program) (w : World) (K : PySem.W.Frag) (mg : Str → Option Value) (base : Heap) (x : Str) (k : Nat) (ps : List Str) (sp : Sp) : Prop :=
  ∃ (f : Addr) (fd : FuncData), mg x = some (.ref f) ∧ PySem.W.keepIn K (.ref f) = true ∧ FnOk P w K mg base CX0 k f fd ps sp ∧ Binds K fd ps []
structure BookM (P : Program) (w : World) (K : PySem.W.Frag) (mg : Str → Option Value) (base : Heap) (C : Addr) : Prop where
  T : BookT K mg C
  many : OneM P w K mg base C "many" 1 ["self"] (spMany C)
  name : OneM P w K mg base C "name" 1 ["self", "sign"] (spNm C)
  kids : OneM P w K mg base C "kids" 1 ["self", "sign"] (spKd C)
  number : OneM P w K mg base C "number" 1 ["self", "name"] (spNum C)
  like : OneM P w K mg base C "is_like" 1 ["self", "book"] (spLike C)
theorem numV_some {S : List Sg} (nd : (S.map (·.1)).Nodup) {j : Nat} {q : Sg} (hj : S[j]? = some q) : numV S q.1 = .int j := by
  obtain ⟨hlt, rfl⟩ := List.getElem?_eq_some_iff.mp hj
  have hf : S.findIdx? (fun q => decide (q.1 = S[j].1)) = some j := by
    rw [List.findIdx?_eq_some_iff_getElem]
    refine ⟨hlt, by simp, fun i hij => ?_⟩
    have h1 : (S.map (·.1))[i]'(by rw [List.length_map]; omega) ≠ (S.map (·.1))[j]'(by rw [List.length_map]; exact hlt) := by
      intro e
      have := (List.getElem_inj nd).mp e
      omega
    rw [List.getElem_map, List.getElem_map] at h1
    simpa using h1
  unfold numV
  rw [hf]
theorem numV_none {S : List Sg} {z : Str} (h : ∀ q ∈ S, ¬ q.1 = z) : numV S z = .non := by
  have hf : S.findIdx? (fun q => decide (q.1 = z)) = none := by
    rw [List.findIdx?_eq_none_iff]
    intro q hq
    simpa using h q hq
  unfold numV
  rw [hf]
/-- _law_tells -/
def spTells (K : PySem.W.Frag) (C : Addr) : Sp := fun vs H Q _ => ∃ (M M' : Addr → Prop) (p : Addr) (v : V) (S : List Sg), vs = [.ref p, v] ∧ BookAt C M H p S ∧ Dt K M' H v (.list (S.map sgD)) ∧ Good S ∧ ∀ H', Ex H H' → Q (.bl true) H'
structure GlobT (mg : Str → Option Value) : Prop extends GlobL mg where
  bool : mg "bool" = none
  isinstance : mg "isinstance" = none
section
variable {P : Program} {w : World} {K : PySem.W.Frag} {mg : Str → Option Value} {base : Heap}
abbrev nTells : List Str := ["_law_book", "_law_signs_here", "_law_sign", "_law_name", "_law_kids", "_law_word", "_law_due"]
theorem scTells : FnScope nTells ["_law_book", "_law_signs_here"] (defScope sTells) := ⟨rfl, rfl, rfl, by decide +kernel, rfl, by decide +kernel, by decide +kernel⟩
theorem ok_tells {f C : Addr} {fd : FuncData} (F : Fun K "_law_tells" "_law_tells" sTells f fd) (G : GlobT mg) (B : BookM P w K mg base C) :
    FnOk P w K mg base CX0 2 f fd ["_law_book", "_law_signs_here"] (spTells K C) := by
  obtain ⟨T, ⟨f1, d1, m1, g1, b1⟩, ⟨f2, d2, m2, g2, b2⟩, ⟨f3, d3, m3, g3, b3⟩, ⟨f4, d4, m4, g4, b4⟩, _⟩ := B
  refine F.ok scTells (fun vs H Q E h => ?_) (fun cdv A outer s H vs Q E hr h => ?_)
  · obtain ⟨M, M', p, v, S, rfl, _⟩ := h
    rfl
  · obtain ⟨M, M', p, v, S, rfl, hB, hS, gS, q⟩ := h
    refine ⟨_, pss_cons (ps_if (PW.pt (pw_or (pt_cmpR op_ne (pe_meth0 (pv 0) T.cl m1 g1 hr b1 .nil pass0) (pe_callB call_len_seq (by rfl) G.len PySem.boot_len (pa_cons (pv 1) pa_nil)) (nomark _))
        (pw_or1 (pt_val (pe_callB call_isi (by rfl) G.isinstance (by decide +kernel) (pa_cons (pe_meth0 (pv 0) T.cl m1 g1 hr b1 .nil pass0) (pa_cons (pe_bltn (v := .ty "bool") (by rfl) G.bool (by decide +kernel) rfl) pa_nil))))))) (pss_one (ps_ret pe_bl)) pss_nil)
      (pss_cons (ps_for PassesOwn.never rfl (pi_enum (by rfl) G.enumerate (pa_cons (pv 1) pa_nil)) (pg_tup rfl (pgs_cons (pg_name (i := 2) scTells.nd rfl (.inl rfl)) (pgs_cons (pg_tup rfl (pgs_cons (pg_name (i := 3) scTells.nd rfl (.inl rfl)) (pgs_cons (pg_name (i := 4) scTells.nd rfl (.inl rfl)) pgs_nil))) pgs_nil)))
        (pss_one (ps_if (PW.pt (pw_or (pt_cmpR op_ne (pe_meth (pv 0) T.cl m2 g2 hr b2 .nil pass0 (pa_cons (pv 2) pa_nil)) (pv 3) (nomark _))
          (pw_or (pt_cmpR op_ne (pe_meth (pv 0) T.cl m3 g3 hr b3 .nil pass0 (pa_cons (pv 2) pa_nil)) (pv 4) (nomark _))
          (pw_or1 (pt_cmpR op_ne (pe_meth (pv 0) T.cl m4 g4 hr b4 .nil pass0 (pa_cons (pv 3) pa_nil)) (pv 2) (nomark _)))))) (pss_one (ps_ret pe_bl)) pss_nil)))
      (pss_cons (ps_for PassesOwn.never rfl (pi_list (pe_lst (pa_cons pe_str (pa_cons pe_str (pa_cons pe_str (pa_cons pe_str (pa_cons pe_str
          (pa_cons (pe_op op_add_str (pe_ix ix_tup (pe_ix ix_list (pv 1) pe_int (fun _ _ => rfl)) pe_int (fun _ _ => rfl)) pe_str)
          (pa_cons (pe_slice sl_str (pe_ix ix_tup (pe_ix ix_list (pv 1) (pe_un un_neg pe_int) (fun _ _ => rfl)) pe_int (fun _ _ => rfl)) po_none (po_some pe_int)) pa_nil))))))))) (pg_name (i := 5) scTells.nd rfl (.inl rfl))
        (pss_cons (ps_set (i := 6) scTells.nd rfl (.inl rfl) pe_non)
        (pss_cons (ps_for PassesOwn.never rfl (pi_enum (by rfl) G.enumerate (pa_cons (pv 1) pa_nil)) (pg_tup rfl (pgs_cons (pg_name (i := 2) scTells.nd rfl (.inl rfl)) (pgs_cons (pg_tup rfl (pgs_cons (pg_name (i := 3) scTells.nd rfl (.inl rfl)) (pgs_cons (pg_name (i := 4) scTells.nd rfl (.inl rfl)) pgs_nil))) pgs_nil)))
          (pss_one (ps_set (i := 6) scTells.nd rfl (.inl rfl) (pe_ifExp (pt_cmpR op_eq (pv 3) (pv 5) (nomark _)) (pv 2) (pv 6)))))
        (pss_one (ps_if (pt_cmpR op_ne (pe_meth (pv 0) T.cl m4 g4 hr b4 .nil pass0 (pa_cons (pv 5) pa_nil)) (pv 6) (nomark _)) (pss_one (ps_ret pe_bl)) pss_nil)))))
      (pss_one (ps_ret pe_bl)))), ?_⟩
    have pB := hB
    obtain ⟨dx, l1, l2, h1, h2, h3, h4, h5⟩ := pB
    cases hS with
    | lst hl hnm dS =>
    rename_i a xs
    have hx : xs.length = S.length := by rw [dS.length, List.length_map]
    have no : ∀ {m : Str}, ¬ m = "_kids" → ¬ m = "_names" → (flds l1 l2).lookup m = none := fun h h' => flds_no _ _ h h'
    -- many
    refine ⟨_, rfl, p, dx, _, rfl, h1, no (by decide +kernel) (by decide +kernel), M, p, S, rfl, hB, _, rfl, _, _, rfl, .inl (sq_of hl), rfl, _, rfl, iteNS (by rw [hx]) ?_⟩
    refine ⟨_, rfl, p, dx, _, rfl, h1, no (by decide +kernel) (by decide +kernel), M, p, S, rfl, hB, .int _, .ty "bool", .type "int", .type "bool", false, rfl, .ty _, .base (.int _), kit_ty (by decide +kernel), _, rfl, iteF ?_⟩
    -- the signs one by one
    refine ⟨_, rfl, a, xs, rfl, sq_of hl, ?_⟩
    refine for_it walk_enum (fun i σ' H' => Ex H H' ∧ ∃ u v w, σ' = [some (.ref p), some (.ref a), u, v, w, none, none]) ⟨Ex.refl H, none, none, none, rfl⟩ (fun i σ' H' _ ⟨e, _⟩ => sq_of (e _ _ hl)) ?_ ?_
    · rintro i x σ' H1 H' hi ⟨e, u, v, w', rfl⟩ ⟨t, c, d, rfl, ht, rfl, hc, hd⟩
      cases hc
      have hd : xs[i]? = some d := hd
      obtain ⟨dd, hdd, dt⟩ := dS.get hd
      rw [List.getElem?_map] at hdd
      cases hSi : S[i]? with
      | none =>
        rw [hSi] at hdd
        cases hdd
      | some r =>
      rw [hSi] at hdd
      cases hdd
      have e' := e.trans (Ex.new (o := .tup [.int (i : Int), d]) ht)
      cases dt.ex e' with
      | tup k1 k2 =>
      cases k2 with
      | cons r1 r2 =>
      cases r1
      cases r2 with
      | cons r3 r4 =>
      cases r3
      cases r4
      have hB' := hB.ex e'
      refine ⟨t, _, rfl, SqT.of upd_same, rfl, _, _, rfl, _, _, rfl, _, _, rfl, k1, rfl, _, _, rfl, _, _, rfl, rfl, rfl, ?_⟩
      refine ⟨_, rfl, p, dx, _, rfl, e' _ _ h1, no (by decide +kernel) (by decide +kernel), _, rfl, M, p, S, i, r, rfl, hB', hSi, _, rfl, rfl, _, rfl, iteNS rfl ?_⟩
      refine ⟨_, rfl, p, dx, _, rfl, e' _ _ h1, no (by decide +kernel) (by decide +kernel), _, rfl, M, p, S, i, r, rfl, hB', hSi, _, rfl, rfl, _, rfl, iteNS rfl ?_⟩
      refine ⟨_, rfl, p, dx, _, rfl, e' _ _ h1, no (by decide +kernel) (by decide +kernel), _, rfl, M, p, S, r.1, rfl, hB', fun H4 e4 => ?_⟩
      rw [numV_some gS.nd hSi]
      exact ⟨_, rfl, rfl, _, rfl, iteNS rfl ⟨e'.trans e4, _, _, _, rfl⟩⟩
    rintro σ' H1 ⟨e1, u, v, w', rfl⟩
    have hl1 := e1 _ _ hl
    have dS1 := dS.ex e1
    -- the words
    have first : ∃ r, S[0]? = some r := ⟨S[0]'(gS.ne), List.getElem?_eq_getElem _⟩
    obtain ⟨r0, hr0⟩ := first
    obtain ⟨x0, hx0, dx0⟩ := dS1.at (i := 0) (d := sgD r0) (by rw [List.getElem?_map, hr0]; rfl)
    have last : ∃ r, S[S.length - 1]? = some r := ⟨S[S.length - 1]'(by have := gS.ne; omega), List.getElem?_eq_getElem _⟩
    obtain ⟨rl, hrl⟩ := last
    obtain ⟨xl, hxl, dxl⟩ := dS1.at (i := S.length - 1) (d := sgD rl) (by rw [List.getElem?_map, hrl]; rfl)
    have hlast : atI xs (-1) = some xl := by
      have hlen : xs.length = (xs.length - 1) + 1 := by rw [hx]; have := gS.ne; omega
      have e : xs = xs.take (xs.length - 1) ++ [xl] := by
        have h := List.take_add_one (l := xs) (i := xs.length - 1)
        rw [← hlen, List.take_length, hx, hxl] at h
        rw [hx]
        exact h
      rw [e]
      exact atI_last _ _
    have n0 := gS.name r0 (List.mem_of_getElem? hr0)
    have nl := gS.name rl (List.mem_of_getElem? hrl)
    cases dx0 with
    | tup a1 a2 =>
    cases a2 with
    | cons r1 r2 =>
    cases r1
    cases dxl with
    | tup c1 c2 =>
    cases c2 with
    | cons s1 s2 =>
    cases s1
    have hl0 : r0.1.length + ("a" : Str).length ≤ sizeLine := by
      have : ("a" : Str).length = 1 := by decide +kernel
      have := n0.hi
      exact Nat.le_trans (show _ ≤ 4 by omega) (by decide)
    refine ⟨_, rfl, a, xs, 0, _, rfl, rfl, sq_of hl1, atI_nat (j := 0) hx0, _, _, 0, _, rfl, rfl, a1, atI_nat (j := 0) rfl, _, _, rfl, rfl, hl0, ?_⟩
    refine ⟨_, rfl, _, rfl, a, xs, -1, _, rfl, rfl, sq_of hl1, hlast, _, _, 0, _, rfl, rfl, c1, atI_nat (j := 0) rfl, _, rfl, _, rfl, Nat.le_trans nl.hi (by decide), (by show 7 ≤ sizeLine; decide), fun l hlf => ⟨l, rfl, ⟨_, SqL.of upd_same⟩, ?_⟩⟩
    refine for_list (K := K) (a := l) (fun i σ' H' => Ex H H' ∧ H' l = some (.lst _) ∧ ∃ u v w x y, σ' = [some (.ref p), some (.ref a), u, v, w, x, y]) ⟨e1.trans (Ex.new hlf), upd_same, _, _, _, _, _, rfl⟩ (fun i σ' H' _ h => sq_of h.2.1) ?_ ?_
    · rintro i x σ' H2 hi ⟨e2, hl2, u, v, w', x', y', rfl⟩
      have hm := List.mem_of_getElem? hi
      have hw : ∃ z : Str, x = .str z := by
        simp only [List.mem_cons, List.not_mem_nil, or_false] at hm
        rcases hm with rfl | rfl | rfl | rfl | rfl | rfl | rfl
        all_goals exact ⟨_, rfl⟩
      obtain ⟨z, rfl⟩ := hw
      -- due
      refine ⟨_, rfl, a, xs, rfl, sq_of (e2 _ _ hl), ?_⟩
      refine for_it walk_enum (fun i σ' H' => Ex H H' ∧ H' l = some (.lst _) ∧ i ≤ S.length ∧ ∃ u v w y, σ' = [some (.ref p), some (.ref a), u, v, w, some (.str z), some y] ∧ ((y = .non ∧ ∀ j < i, ∀ r, S[j]? = some r → ¬ r.1 = z) ∨ ∃ (j : Nat) (r : Sg), S[j]? = some r ∧ r.1 = z ∧ y = .int (j : Int)))
        ⟨e2, hl2, Nat.zero_le _, _, _, _, .non, rfl, .inl ⟨rfl, fun j hj => by omega⟩⟩ (fun i σ' H' _ h => sq_of (h.1 _ _ hl)) ?_ ?_
      · rintro i x σ' H3 H' hi ⟨e3, hl3, hiS, u, v, w', y, rfl, hy⟩ ⟨t, c, d, rfl, ht, rfl, hc, hd⟩
        cases hc
        have hd : xs[i]? = some d := hd
        obtain ⟨dd, hdd, dt⟩ := dS.get hd
        rw [List.getElem?_map] at hdd
        cases hSi : S[i]? with
        | none =>
          rw [hSi] at hdd
          cases hdd
        | some r =>
        rw [hSi] at hdd
        cases hdd
        have e' := e3.trans (Ex.new (o := .tup [.int (i : Int), d]) ht)
        have hl' := (Ex.new (o := .tup [.int (i : Int), d]) ht) _ _ hl3
        cases dt.ex e' with
        | tup k1 k2 =>
        cases k2 with
        | cons r1 r2 =>
        cases r1
        cases r2 with
        | cons r3 r4 =>
        cases r3
        cases r4
        refine ⟨t, _, rfl, SqT.of upd_same, rfl, _, _, rfl, _, _, rfl, _, _, rfl, k1, rfl, _, _, rfl, _, _, rfl, rfl, rfl, ?_⟩
        refine ⟨_, rfl, _, rfl, rfl, _, rfl, ite2 (fun cc => ?_) (fun cc => ?_)⟩
        · have cc' : r.1 = z := by simpa using cc
          exact ⟨_, rfl, e', hl', by rw [← hx]; exact hi, _, _, _, _, rfl, .inr ⟨i, r, hSi, cc', rfl⟩⟩
        · have cc' : ¬ r.1 = z := by simpa using cc
          refine ⟨_, rfl, e', hl', by rw [← hx]; exact hi, _, _, _, _, rfl, ?_⟩
          rcases hy with ⟨hy, hno⟩ | hy
          · refine .inl ⟨hy, fun j hj r' hr' => ?_⟩
            by_cases hji : j = i
            · rw [hji, hSi] at hr'
              cases hr'
              exact cc'
            · exact hno j (by omega) r' hr'
          · exact .inr hy
      · rintro σ' H3 ⟨e3, hl3, _, u, v, w', y, rfl, hy⟩
        refine ⟨_, rfl, p, dx, _, rfl, e3 _ _ h1, no (by decide +kernel) (by decide +kernel), _, rfl, M, p, S, z, rfl, hB.ex e3, fun H4 e4 => ?_⟩
        have hy' : numV S z = y := by
          rcases hy with ⟨rfl, hno⟩ | ⟨j, r, hj, rfl, rfl⟩
          · refine numV_none fun r hr => ?_
            obtain ⟨j, hj, rfl⟩ := List.getElem_of_mem hr
            exact hno j (by rw [hx]; exact hj) _ (List.getElem?_eq_getElem hj)
          · exact numV_some gS.nd hj
        rw [hy']
        have hsc : scal y y = true := by
          rcases hy with ⟨rfl, _⟩ | ⟨j, r, _, _, rfl⟩
          · rfl
          · rfl
        exact ⟨_, rfl, hsc, _, rfl, iteNS rfl ⟨e3.trans e4, e4 _ _ hl3, _, _, _, _, _, rfl⟩⟩
    · rintro σ' H2 ⟨e2, _, u, v, w', x', y', rfl⟩
      exact q H2 e2
end
end TH
set_option maxRecDepth 100000
set_option maxHeartbeats 4000000
namespace TH
open PySem L2 Evl
/-! ### which lists are books -/
theorem ca : ("a" : Str).cps.toList = [97] := by decide +kernel
theorem cz : ("z" : Str).cps.toList = [122] := by decide +kernel
theorem okc_iff (c : Nat) : okc c = true ↔ 97 ≤ c ∧ c ≤ 122 := by
  unfold okc
  rw [ca, cz]
  simp only [Bool.and_eq_true, Bool.not_eq_true', decide_eq_false_iff_not, List.cons_lt_cons_iff, List.not_lt_nil, and_false, or_false]
  omega
theorem nameB_iff (z : Str) : isNameB z = true ↔ NameOk z := by
  unfold isNameB
  simp only [Bool.and_eq_true, decide_eq_true_eq, List.all_eq_true, okc_iff]
  constructor
  · rintro ⟨⟨h1, h2⟩, h3⟩
    exact ⟨by omega, by omega, h3⟩
  · rintro ⟨h1, h2, h3⟩
    exact ⟨⟨by omega, by omega⟩, h3⟩
theorem nodup_key (S : List Sg) : (S.map fun p => (Sum.inr p.1 : Key)).Nodup ↔ (S.map (·.1)).Nodup := by
  have e : (S.map fun p => (Sum.inr p.1 : Key)) = (S.map (·.1)).map Sum.inr := by rw [List.map_map]; rfl
  rw [e]
  constructor
  · intro h
    exact List.Pairwise.of_map Sum.inr (fun a b hab e => hab (by rw [e])) h
  · intro h
    exact List.Pairwise.map _ (fun a b hab e => hab (Sum.inr.inj e)) h
theorem valid_split (S : List Sg) : validB S = true ↔ (1 ≤ S.length ∧ S.length ≤ 6) ∧ (∀ p ∈ S, isSignB p = true) ∧ (S.map (·.1)).Nodup ∧ ∃ p ∈ S, p.2 = 0 := by
  unfold validB
  have h := sall_lt (S.map fun p => (Sum.inr p.1 : Key))
  rw [List.length_map] at h
  have h2 : ((sall (S.map fun p => (Sum.inr p.1 : Key))).2 : Int) < (S.length : Int) ↔ ¬ (S.map (·.1)).Nodup := by
    rw [← nodup_key, ← h]
    exact Int.ofNat_lt
  simp only [Bool.and_eq_true, decide_eq_true_eq, List.all_eq_true, Bool.not_eq_true', decide_eq_false_iff_not, List.any_eq_true]
  rw [h2, Classical.not_not]
  constructor
  · rintro ⟨⟨a, b⟩, c, d, e⟩
    exact ⟨⟨by omega, by omega⟩, c, d, e⟩
  · rintro ⟨⟨a, b⟩, c, d, e⟩
    exact ⟨⟨by omega, by omega⟩, c, d, e⟩
theorem sign_iff (p : Sg) : isSignB p = true ↔ NameOk p.1 ∧ 0 ≤ p.2 ∧ p.2 ≤ 2 := by
  unfold isSignB
  simp only [Bool.and_eq_true, decide_eq_true_eq, nameB_iff]
theorem valid_good {S : List Sg} (h : Good S) : validB S = true := by
  rw [valid_split]
  exact ⟨⟨h.ne, h.len⟩, fun p hp => (sign_iff p).mpr ⟨h.name p hp, h.kids p hp⟩, h.nd, h.leaf⟩
theorem bad_of {S : List Sg} (h : ¬ ((1 ≤ S.length ∧ S.length ≤ 6) ∧ (∀ p ∈ S, isSignB p = true) ∧ (S.map (·.1)).Nodup ∧ ∃ p ∈ S, p.2 = 0)) : validB S = false := by
  rw [← Bool.not_eq_true, valid_split]
  exact h
theorem bad_sign {S : List Sg} {p : Sg} (hp : p ∈ S) (h : ¬ (NameOk p.1 ∧ 0 ≤ p.2 ∧ p.2 ≤ 2)) : validB S = false :=
  bad_of fun z => h ((sign_iff p).mp (z.2.1 p hp))
/-- what may be told again and held against another -/
structure Sane (S : List Sg) : Prop where
  len : S.length ≤ 100
  name : ∀ q ∈ S, q.1.length ≤ 1000
  ok : ∀ q ∈ S, PyData.strOk q.1 = true
theorem strOk_iff (z : Str) : PyData.strOk z = true ↔ ∀ c ∈ z.cps.toList, c < 0x110000 := by
  unfold PyData.strOk
  rw [← Array.all_toList, List.all_eq_true]
  simp only [decide_eq_true_eq]
theorem NameOk.strOk {z : Str} (h : NameOk z) : PyData.strOk z = true := by
  rw [strOk_iff]
  intro c hc
  have := (h.az c hc).2
  omega
theorem Good0.sane {S : List Sg} (h : Good0 S) : Sane S :=
  ⟨Nat.le_trans h.len (by decide), fun q hq => Nat.le_trans (h.name q hq).hi (by decide), fun q hq => (h.name q hq).strOk⟩
theorem Sane.append {S T : List Sg} (h : Sane S) (k : Sane T) (hl : S.length + T.length ≤ 100) : Sane (S ++ T) :=
  ⟨by rw [List.length_append]; exact hl, fun q hq => (List.mem_append.mp hq).elim (h.name q) (k.name q), fun q hq => (List.mem_append.mp hq).elim (h.ok q) (k.ok q)⟩
theorem Sane.sub {S T : List Sg} (h : Sane S) (hs : ∀ q ∈ T, q ∈ S) (hl : T.length ≤ 100) : Sane T := ⟨hl, fun q hq => h.name q (hs q hq), fun q hq => h.ok q (hs q hq)⟩
theorem Sane.one {q : Sg} (h1 : q.1.length ≤ 1000) (h2 : PyData.strOk q.1 = true) : Sane [q] :=
  ⟨by show 1 ≤ 100; decide, fun r hr => by rw [List.mem_singleton.mp hr]; exact h1, fun r hr => by rw [List.mem_singleton.mp hr]; exact h2⟩
/-- one sign of the list otherwise -/
def bent (S : List Sg) (j : Nat) (q : Sg) : List Sg := S.take j ++ [q] ++ S.drop (j + 1)
theorem bent_mem (S : List Sg) (j : Nat) (q : Sg) : q ∈ bent S j q := by
  unfold bent
  exact List.mem_append_left _ (List.mem_append_right _ (List.mem_singleton.mpr rfl))
theorem Sane.bent {S : List Sg} {j : Nat} {q : Sg} (h : Sane S) (hl : S.length ≤ 50) (h1 : q.1.length ≤ 1000) (h2 : PyData.strOk q.1 = true) : Sane (bent S j q) := by
  have h3 := Sane.one h1 h2
  unfold TH.bent
  have l1 : (S.take j).length ≤ 50 := Nat.le_trans (by rw [List.length_take]; exact Nat.min_le_right _ _) hl
  have l2 : (S.drop (j + 1)).length ≤ 49 := by rw [List.length_drop]; omega
  refine ((h.sub (fun q hq => List.mem_of_mem_take hq) (by omega)).append h3 ?_).append (h.sub (fun q hq => List.mem_of_mem_drop hq) (by omega)) ?_
  · show (S.take j).length + 1 ≤ 100
    omega
  · rw [List.length_append]
    show (S.take j).length + 1 + (S.drop (j + 1)).length ≤ 100
    omega
/-- parts of lists -/
theorem cutG_take {α : Type} (xs : List α) (j : Nat) : cutG xs none (some (j : Int)) = xs.take j := by
  unfold cutG
  rw [HT.sIx_none, HT.sIx_nat, List.drop_zero, Nat.sub_zero, List.take_eq_take_min]
  rw [Nat.min_assoc, Nat.min_self, ← List.take_eq_take_min]
theorem cutG_drop {α : Type} (xs : List α) (j : Nat) : cutG xs (some (j : Int)) none = xs.drop j := by
  unfold cutG
  rw [HT.sIx_none, HT.sIx_nat]
  by_cases h : j ≤ xs.length
  · rw [Nat.min_eq_left h]
    exact List.take_of_length_le (by rw [List.length_drop]; omega)
  · rw [Nat.min_eq_right (by omega), List.drop_eq_nil_of_le (Nat.le_refl _), List.drop_eq_nil_of_le (by omega), List.take_nil]
theorem cutS_len (z : Str) (lo hi : Option Int) : (cutS z lo hi).length ≤ z.length := by
  show (cutS z lo hi).cps.size ≤ _
  unfold cutS
  rw [List.size_toArray, List.length_take, List.length_drop, Array.length_toList]
  show _ ≤ z.cps.size
  omega
theorem cutS_mem (z : Str) (lo hi : Option Int) : ∀ c ∈ (cutS z lo hi).cps.toList, c ∈ z.cps.toList := by
  intro c hc
  exact List.mem_of_mem_drop (List.mem_of_mem_take hc)
theorem app_len (x y : Str) : (x ++ y).length = x.length + y.length := by
  show (x ++ y).cps.size = _
  rw [Str.cps_append, Array.size_append]
  rfl
theorem app_mem (x y : Str) (c : Nat) : c ∈ (x ++ y).cps.toList ↔ c ∈ x.cps.toList ∨ c ∈ y.cps.toList := by
  rw [Str.cps_append, Array.toList_append, List.mem_append]
theorem strOk_app {x y : Str} (h : PyData.strOk x = true) (k : PyData.strOk y = true) : PyData.strOk (x ++ y) = true := by
  rw [strOk_iff] at *
  intro c hc
  rcases (app_mem x y c).mp hc with hc | hc
  · exact h c hc
  · exact k c hc
theorem strOk_cut {x : Str} (lo hi : Option Int) (h : PyData.strOk x = true) : PyData.strOk (cutS x lo hi) = true := by
  rw [strOk_iff] at *
  exact fun c hc => h c (cutS_mem x lo hi c hc)
end TH
set_option maxRecDepth 100000
set_option maxHeartbeats 4000000
namespace TH
open PySem L2 Evl
/-! ### texts: 'a' * n, an item -/
section
variable {X : Cx}
def rMulS : R2 := fun x y H Q => ∃ (z : Str) (n : Int), x = .str z ∧ y = .int n ∧ MulOk z n ∧ Q (.str (Txt.mul z n)) H
theorem op_mulS : OpR X (binaryOp .Mult) rMulS := by
  intro pins s σ H x y v u Q I rx ry h
  obtain ⟨z, n, rfl, rfl, hok, q⟩ := h
  obtain ⟨t, rfl⟩ := rx
  obtain ⟨t', rfl⟩ := ry
  exact SB.mul hok fun t2 k => ⟨_, H, I.kept (t' := k) fun _ _ z => z, (show RelV (.str _) _ from ⟨t2, rfl⟩), q⟩
end
theorem fold_rep (A : Array Nat) : ∀ (n : Nat) (acc : Array Nat), ((List.replicate n A).foldl (· ++ ·) acc).toList = acc.toList ++ (List.replicate n A.toList).flatten
  | 0, acc => by simp
  | n + 1, acc => by
    rw [List.replicate_succ, List.foldl_cons, fold_rep A n, Array.toList_append, List.replicate_succ, List.flatten_cons, List.append_assoc]
theorem mul_a {n : Int} (h : 4 ≤ n) : (Txt.mul "a" n).cps.toList = List.replicate n.toNat 97 := by
  have e1 : ("a" : Str).length = 1 := by decide +kernel
  unfold Txt.mul
  have hc : (n == 1 || ("a" : Str).length == 0) = false := by
    rw [e1]
    simp only [Bool.or_eq_false_iff, beq_eq_false_iff_ne]
    exact ⟨by omega, by omega⟩
  rw [if_neg (by omega), hc, if_neg Bool.false_ne_true]
  show ((List.replicate n.toNat ("a" : Str).cps).foldl (· ++ ·) #[]).toList = _
  rw [fold_rep, ca]
  show (List.replicate n.toNat [97]).flatten = _
  generalize n.toNat = k
  induction k with
  | zero => rfl
  | succ k ih => rw [List.replicate_succ, List.flatten_cons, ih, List.replicate_succ]; rfl
theorem mulOk_a {n : Int} (h : 4 ≤ n) (h2 : n ≤ 1000) : MulOk "a" n := by
  have e1 : ("a" : Str).length = 1 := by decide +kernel
  refine ⟨by simp only [Bool.or_eq_false_iff, decide_eq_false_iff_not]; omega, fun _ _ => ?_, fun _ _ => ?_⟩
  · rw [e1]
    have : (1 : Int) ≤ (2 ^ 63 - 1) / n := Int.le_ediv_of_mul_le (by omega) (by omega)
    omega
  · rw [e1]
    unfold Builtin.Str.tooLong
    have e2 : sizeLine = 16777216 := by decide
    first
      | (simp only [decide_eq_false_iff_not]; omega)
      | (rw [decide_eq_false_iff_not]; omega)
section
variable {K : PySem.W.Frag} {M : Addr → Prop} {H H1 H' : Hp} {σ : L2.St} {ta tb tc te tl t1 t2 tx ty : TE} {P : PyData → Prop}
theorem evd_ixS {z : Str} {i : Int} {j c : Nat} (ha : EvD K M ta σ H (.str z)) (hb : EvD K M tb σ H (.int i)) (hz : z.length ≤ sizeLine) (hi : i = (j : Int)) (hj : z.cps.toList[j]? = some c) : EvD K M (tOp rIxS ta tb) σ H (.str ⟨#[c]⟩) :=
  evp_op ha hb fun x y a b H1 e dx dy px py Q q => by
    subst px py
    cases dx
    cases dy
    exact ⟨z, i, c, rfl, rfl, hz, by rw [hi]; exact atI_nat hj, q _ _ H1 (Ex.refl _) (.str _) rfl⟩
/-- an item of a text at a drawn place -/
theorem evp_ixS {z : Str} {PB : PyData → Prop} (ha : EvD K M ta σ H (.str z)) (hb : EvP K M tb σ H PB) (hz : z.length ≤ sizeLine) (hi : ∀ d, PB d → ∃ k : Int, d = .int k ∧ 0 ≤ k ∧ k < z.length) :
    EvP K M (tOp rIxS ta tb) σ H (fun d => ∃ c ∈ z.cps.toList, d = .str ⟨#[c]⟩) :=
  evp_op ha hb fun x y a b H1 e dx dy px py Q q => by
    obtain ⟨k, rfl, k0, k1⟩ := hi b py
    subst px
    cases dx
    cases dy
    obtain ⟨j, rfl⟩ := Int.eq_ofNat_of_zero_le k0
    have hj : j < z.cps.toList.length := by
      rw [Array.length_toList]
      exact Int.ofNat_lt.mp k1
    exact ⟨z, _, z.cps.toList[j], rfl, rfl, hz, atI_nat (List.getElem?_eq_getElem hj), q _ _ H1 (Ex.refl _) (.str _) ⟨_, List.getElem_mem hj, rfl⟩⟩
/-- texts together, not fixed -/
theorem evp_addS {PA PB : PyData → Prop} (ha : EvP K M ta σ H PA) (hb : EvP K M tb σ H PB) (hi : ∀ d, PA d → ∃ z : Str, d = .str z ∧ z.length ≤ 1000) (hj : ∀ d, PB d → ∃ z : Str, d = .str z ∧ z.length ≤ 1000) :
    EvP K M (tOp (fun x y H Q => ∃ i j, x = .str i ∧ y = .str j ∧ i.length + j.length ≤ sizeLine ∧ Q (.str (i ++ j)) H) ta tb) σ H (fun d => ∃ x y : Str, d = .str (x ++ y) ∧ PA (.str x) ∧ PB (.str y)) :=
  evp_op ha hb fun x y a b H1 e dx dy px py Q q => by
    obtain ⟨z, rfl, hz⟩ := hi a px
    obtain ⟨z', rfl, hz'⟩ := hj b py
    cases dx
    cases dy
    exact ⟨z, z', rfl, rfl, Nat.le_trans (show _ ≤ 2000 by omega) (by decide), q _ _ H1 (Ex.refl _) (.str _) ⟨z, z', rfl, px, py⟩⟩
/-- signs[:j] + [(z, k)] + signs[j + 1:] -/
theorem evd_bent {S : List Sg} {j : Nat} {q : Sg} (ok : Ok M H) (h1 : EvD K M t1 σ H (.list (S.map sgD))) (h2 : EvD K M t2 σ H (.int (j : Int))) (hq : EvD K M tx σ H (sgD q)) (hl : S.length ≤ 100) :
    EvD K M (tOp rCat (tOp rCat (tSl (rSlL K) t1 tNoPart (tPart t2)) (tLst (tCons tx tNil))) (tSl (rSlL K) t1 (tPart (tOp (rI0 fun i j => .int (i + j)) t2 (tC (.int 1)))) tNoPart)) σ H (.list ((bent S j q).map sgD)) := by
  have l1 : (S.take j).length ≤ 100 := Nat.le_trans (by rw [List.length_take]; exact Nat.min_le_right _ _) hl
  have l2 : (S.drop (j + 1)).length ≤ 100 := by rw [List.length_drop]; omega
  have e1 : cutG (S.map sgD) none (some (j : Int)) = (S.take j).map sgD := by rw [cutG_take, List.map_take]
  have e2 : cutG (S.map sgD) (some ((j : Int) + 1)) none = (S.drop (j + 1)).map sgD := by
    have := cutG_drop (S.map sgD) (j + 1)
    rw [List.map_drop]
    exact this
  have a1 := evd_slL ok h1 evo_none (evo_some h2)
  have a2 := evd_lst (ds := [sgD q]) ok (eva_cons hq eva_nil) (by show 1 ≤ sizeLine; decide)
  have a3 := evd_slL ok h1 (evo_some (evd_add h2 (evd_int (i := 1)))) evo_none
  rw [e1] at a1
  rw [e2] at a3
  have a4 := evd_cat ok a1 a2 (by rw [List.length_map]; show _ + 1 ≤ _; exact Nat.le_trans (show _ ≤ 101 by omega) (by decide))
  have a5 := evd_cat ok a4 a3 (by rw [List.length_append, List.length_map, List.length_map]; show _ + 1 + _ ≤ _; exact Nat.le_trans (show _ ≤ 201 by omega) (by decide))
  unfold bent
  rw [List.map_append, List.map_append]
  exact a5
end
/-! ### a list of lists that is filled -/
def lD (S : List Sg) : PyData := .list (S.map sgD)
def FoundAt (K : PySem.W.Frag) (M : Addr → Prop) (B : List Sg → Prop) (n : Nat) (H : Hp) (l : Addr) : Prop :=
  ∃ (ls : List (List Sg)) (xs : List V), H l = some (.lst xs) ∧ Dts K (more M l) H xs (ls.map lD) ∧ (∀ T ∈ ls, B T) ∧ ls.length ≤ n
section
variable {K : PySem.W.Frag} {M : Addr → Prop} {B : List Sg → Prop} {n : Nat} {H H0 H' : Hp} {σ : L2.St} {te : TE} {P : PyData → Prop} {D : Ends} {tz : TS} {i : Nat} {l : Addr}
theorem FoundAt.ex (h : FoundAt K M B n H l) (e : Ex H H') : FoundAt K M B n H' l := by
  obtain ⟨ls, xs, h1, h2, h3, h4⟩ := h
  exact ⟨ls, xs, e _ _ h1, h2.ex e, h3, h4⟩
theorem FoundAt.ok (h : FoundAt K M B n H l) (ok : Ok M H0) (e : Ex H0 H) : Ok (more M l) H := fun a m => by
  rcases m with m | rfl
  · exact ok.ex e a m
  · obtain ⟨ls, xs, h1, _⟩ := h
    rw [h1]
    simp
theorem s_found (h0 : H0 l = none) (e0 : Ex H0 H) (f : FoundAt K M B n H l) (hs : σ[i]? = some (some (.ref l))) (h : EvP K (more M l) te σ H (fun d => ∃ T, d = lD T ∧ B T)) (hz : n < 1000)
    (k : ∀ H2, Ex H0 H2 → FoundAt K M B (n + 1) H2 l → D.nx σ H2) : tDrop (tBM K "list" rAppend (tVar i) (tCons te tNil)) D σ H := by
  obtain ⟨ls, xs, h1, h2, h3, h4⟩ := f
  refine s_appP h1 hs h (Nat.lt_of_le_of_lt (by rw [h2.length, List.length_map]; exact h4) (Nat.lt_trans hz (by decide))) fun v d H1 e dv hd => ?_
  obtain ⟨T, rfl, hT⟩ := hd
  refine k _ (Ex.mut (e0.trans e) h0) ⟨ls ++ [T], xs ++ [v], upd_same, ?_, fun U hU => ?_, by rw [List.length_append]; exact Nat.succ_le_succ h4⟩
  · rw [List.map_append]
    exact ((h2.ex e).append (.one dv)).upd (e _ _ h1) (.inr rfl)
  · rcases List.mem_append.mp hU with hU | hU
    · exact h3 U hU
    · rw [List.mem_singleton.mp hU]
      exact hT
theorem q_found (h0 : H0 l = none) (e0 : Ex H0 H) (f : FoundAt K M B n H l) (hs : σ[i]? = some (some (.ref l))) (h : EvP K (more M l) te σ H (fun d => ∃ T, d = lD T ∧ B T)) (hz : n < 1000)
    (k : ∀ H2, Ex H0 H2 → FoundAt K M B (n + 1) H2 l → tz D σ H2) : tSeq (tDrop (tBM K "list" rAppend (tVar i) (tCons te tNil))) tz D σ H := s_found (D := { D with nx := tz D }) h0 e0 f hs h hz k
/-- found = [..], the lists in it new or old -/
theorem q_newFound {t : TA} (h : EvPA K M t σ H (fun ds => ∃ ls : List (List Sg), ds = ls.map lD ∧ (∀ T ∈ ls, B T) ∧ ls.length ≤ n)) (hn : n ≤ 1000)
    (k : ∀ l H0, Ex H H0 → H0 l = none → ∀ H2, Ex H0 H2 → FoundAt K M B n H2 l → tz D (σ.set i (some (.ref l))) H2) : tSeq (tAsg (tLst t) (gName i)) tz D σ H := by
  refine h.use fun vs ds H1 e dv hd => ?_
  obtain ⟨ls, rfl, h1, h2⟩ := hd
  refine ⟨by rw [dv.length, List.length_map]; exact Nat.le_trans h2 (Nat.le_trans hn (by decide)), fun p hp => ?_⟩
  exact k p H1 e hp _ (Ex.new hp) ⟨ls, vs, upd_same, (dv.more hp).ex (Ex.new hp), h1, h2⟩
theorem evd_neg {ta : TE} {i : Int} (ha : EvD K M ta σ H (.int i)) : EvD K M (tUn (rU fun i => .int (-i)) ta) σ H (.int (-i)) := fun H1 e Q q =>
  ha H1 e _ fun v d H2 e2 dv pd => by
    subst pd
    cases dv
    exact ⟨i, rfl, q _ _ H2 e2 (.int _) rfl⟩
theorem evd_max2 {ta : TA} {i j : Int} (h : EvDA K M ta σ H [.int i, .int j]) : EvD K M (tCB (fun xs H Q => ∃ i j, xs = [.int i, .int j] ∧ Q (.int (if j > i then j else i)) H) ta) σ H (.int (if j > i then j else i)) :=
  evp_cb h fun vs ds H1 e dv pd Q q => by
    subst pd
    cases dv with
    | cons r1 r2 =>
      cases r2 with
      | cons r3 r4 =>
        cases r1
        cases r3
        cases r4
        exact ⟨i, j, rfl, q _ _ H1 (Ex.refl _) (.int _) rfl⟩
/-- two names at once -/
theorem q_par {ta tb : TE} {j : Nat} {PA PB : PyData → Prop} (ha : EvP K M ta σ H PA) (hb : EvP K M tb σ H PB)
    (k : ∀ v d v' d' H1, Ex H H1 → Dt K M H1 v d → PA d → Dt K M H1 v' d' → PB d' → tz D ((σ.set i (some v)).set j (some v')) H1) : tSeq (tPar i j (tCons ta (tCons tb tNil))) tz D σ H :=
  ha.use fun v d H1 e1 dv pd => (hb.ex e1).use fun v' d' H2 e2 dv' pd' => ⟨v, v', rfl, k v d v' d' H2 (e1.trans e2) (dv.ex e2) pd dv' pd'⟩
theorem evp_cat {ta tb : TE} {PA PB : PyData → Prop} (ok : Ok M H) (ha : EvP K M ta σ H PA) (hb : EvP K M tb σ H PB) (hi : ∀ d, PA d → ∃ ds, d = .list ds ∧ ds.length ≤ 1000) (hj : ∀ d, PB d → ∃ ds, d = .list ds ∧ ds.length ≤ 1000) :
    EvP K M (tOp rCat ta tb) σ H (fun d => ∃ ds es, d = .list (ds ++ es) ∧ PA (.list ds) ∧ PB (.list es)) :=
  evp_op ha hb fun x y a b H1 e dx dy px py Q q => by
    obtain ⟨ds, rfl, hd⟩ := hi a px
    obtain ⟨es, rfl, he⟩ := hj b py
    cases dx with
    | lst h1 h2 h3 =>
      cases dy with
      | lst k1 k2 k3 => exact ⟨_, _, _, _, rfl, rfl, h1, k1, by rw [h3.length, k3.length]; exact Nat.le_trans (show _ ≤ 2000 by omega) (by decide), fun p hp => q _ _ _ (Ex.new hp) (.lst upd_same ((ok.ex e).new hp) ((h3.append k3).ex (Ex.new hp))) ⟨ds, es, rfl, px, py⟩⟩
/-- for x in a list of data: found.append(..) -/
theorem q_forFound {tl te : TE} {j m : Nat} {PL : List PyData → Prop} {o : Option V} (h0 : H0 l = none) (ok0 : Ok M H0) (e0 : Ex H0 H) (f : FoundAt K M B n H l) (hl : EvP K (more M l) tl σ H (fun d => ∃ ds, d = .list ds ∧ PL ds)) (hm : ∀ ds, PL ds → ds.length ≤ m)
    (hs : ∀ u, (σ.set j u)[i]? = some (some (.ref l))) (hj : σ[j]? = some o) (hn : n + m < 1000)
    (hb : ∀ ds d v H', PL ds → d ∈ ds → Ex H0 H' → Ok (more M l) H' → Dt K (more M l) H' v d → EvP K (more M l) te (σ.set j (some v)) H' (fun d => ∃ T, d = lD T ∧ B T))
    (k : ∀ u H', Ex H0 H' → FoundAt K M B (n + m) H' l → tz D (σ.set j u) H') :
    tSeq (tFor (iList K tl) (gName j) (tDrop (tBM K "list" rAppend (tVar i) (tCons te tNil)))) tz D σ H := by
  refine hl.use fun v d H1 e1 dv hd => ?_
  obtain ⟨ds, rfl, hpl⟩ := hd
  cases dv with
  | lst a1 a2 a3 =>
  rename_i a xs
  have hσ : σ.set j o = σ := by
    obtain ⟨hlt, e⟩ := List.getElem?_eq_some_iff.mp hj
    rw [← e]
    exact List.set_getElem_self hlt
  have nal : a ≠ l := fun z => a2 (.inr z)
  refine ⟨a, rfl, ⟨_, sq_of a1⟩, for_list (K := K) (a := a) (xs := xs) (fun q σ' H' => Ex H0 H' ∧ H' a = some (.lst xs) ∧ Dts K (more M l) H' xs ds ∧ FoundAt K M B (n + q) H' l ∧ q ≤ m ∧ ∃ u, σ' = σ.set j u)
    ⟨e0.trans e1, a1, a3, f.ex e1, Nat.zero_le _, o, hσ.symm⟩ (fun q σ' H' _ h => sq_of h.2.1) ?_ ?_⟩
  · rintro q x σ' H2 hq ⟨e2, h2, d2, f2, hqm, u, rfl⟩
    obtain ⟨d, hd, dx⟩ := d2.get hq
    have lt : q < m := by
      have h3 := (List.getElem?_eq_some_iff.mp hd).1
      have h4 := hm ds hpl
      omega
    have hsx : (σ.set j u).set j (some x) = σ.set j (some x) := by rw [List.set_set]
    show tDrop _ _ ((σ.set j u).set j (some x)) H2
    rw [hsx]
    obtain ⟨ls, ys, g1, g2, g3, g4⟩ := f2
    refine s_appP g1 (hs _) (hb ds d x H2 hpl (List.mem_of_getElem? hd) e2 (FoundAt.ok ⟨ls, ys, g1, g2, g3, g4⟩ ok0 e2) dx) (Nat.lt_of_le_of_lt (by rw [g2.length, List.length_map]; exact g4) (Nat.lt_trans (show n + q < 1000 by omega) (by decide))) fun v d' H3 e3 dv hd' => ?_
    obtain ⟨T, rfl, hT⟩ := hd'
    refine ⟨Ex.mut (e2.trans e3) h0, by rw [upd_ne nal]; exact e3 _ _ h2, (d2.ex e3).upd (e3 _ _ g1) (.inr rfl), ⟨ls ++ [T], ys ++ [v], upd_same, ?_, fun U hU => ?_, by rw [List.length_append]; exact Nat.succ_le_succ g4⟩, lt, _, rfl⟩
    · rw [List.map_append]
      exact ((g2.ex e3).append (.one dv)).upd (e3 _ _ g1) (.inr rfl)
    · rcases List.mem_append.mp hU with hU | hU
      · exact g3 U hU
      · rw [List.mem_singleton.mp hU]
        exact hT
  · rintro σ' H2 ⟨e2, h2, d2, f2, hqm, u, rfl⟩
    obtain ⟨ls, ys, g1, g2, g3, g4⟩ := f2
    exact k u H2 e2 ⟨ls, ys, g1, g2, g3, by omega⟩
end
end TH
set_option maxRecDepth 100000
set_option maxHeartbeats 4000000
namespace TH
open PySem L2 Evl
abbrev sBent : Stmt := top 30
/-- what no book is told by, but may be handed in -/
def Bad (S : List Sg) : Prop := Sane S ∧ validB S = false
def spBent (K : PySem.W.Frag) : Sp := fun vs H Q _ => ∃ (M : Addr → Prop) (b : Addr) (v : V) (S : List Sg), vs = [.ref b, v] ∧ Ok M H ∧ H b = some (Box b) ∧ Dt K M H v (.list (S.map sgD)) ∧ Good S ∧
  ∀ (u : V) (ls : List (List Sg)) (H' : Hp), Ex H H' → Dt K M H' u (.list (ls.map lD)) → (∀ T ∈ ls, Bad T) → ls.length ≤ 100 → Q u H'
structure GlobB (mg : Str → Option Value) : Prop extends GlobT mg where
  max : mg "max" = none
theorem odd_bad : ∀ c ∈ (" !#$&'()*+,-./0123456789:;<=>?@ABYZ[]^_`{|}~\t\n\"\\" : Str).cps.toList, okc c = false ∧ c < 0x110000 := by
  have e : (" !#$&'()*+,-./0123456789:;<=>?@ABYZ[]^_`{|}~\t\n\"\\" : Str).cps.toList.all (fun c => !(decide (97 ≤ c) && decide (c ≤ 122)) && decide (c < 0x110000)) = true := by decide +kernel
  intro c hc
  have h := List.all_eq_true.mp e c hc
  simp only [Bool.and_eq_true, Bool.not_eq_true', Bool.and_eq_false_iff, decide_eq_false_iff_not, decide_eq_true_eq] at h
  refine ⟨?_, h.2⟩
  rw [← Bool.not_eq_true, okc_iff]
  omega
theorem odd_len : (" !#$&'()*+,-./0123456789:;<=>?@ABYZ[]^_`{|}~\t\n\"\\" : Str).length = 48 := by decide +kernel
theorem abcd_len : ("abcd" : Str).length = 4 := by decide +kernel
theorem name_no {z : Str} (h : 3 < z.length ∨ z.length = 0 ∨ ∃ c ∈ z.cps.toList, okc c = false) : ¬ NameOk z := by
  intro n
  rcases h with h | h | ⟨c, hc, h⟩
  · have := n.hi
    omega
  · have := n.lo
    omega
  · rw [(okc_iff c).mpr (n.az c hc)] at h
    cases h
theorem q_one (c : Nat) : (("q" : Str) ++ (⟨#[c]⟩ : Str)).length = 2 := by
  rw [app_len]
  have : ("q" : Str).length = 1 := by decide +kernel
  rw [this]
  rfl
theorem ok_lit {z : Str} (h : z.cps.toList.all (fun c => decide (c < 0x110000)) = true) : PyData.strOk z = true := by
  rw [strOk_iff]
  intro c hc
  exact of_decide_eq_true (List.all_eq_true.mp h c hc)
theorem q_ok {c : Nat} (h : c < 0x110000) : PyData.strOk (("q" : Str) ++ (⟨#[c]⟩ : Str)) = true := by
  refine strOk_app (ok_lit (by decide +kernel)) ?_
  rw [strOk_iff]
  intro d hd
  have : d = c := by simpa using hd
  omega
theorem bad_long {S : List Sg} (h : 6 < S.length) : validB S = false := bad_of fun z => by omega
section
variable {P : Program} {w : World} {K : PySem.W.Frag} {mg : Str → Option Value} {base : Heap}
abbrev nBent : List Str := ["_law_box_here", "_law_signs_here", "_law_spot", "_law_far", "_law_name", "_law_kids", "_law_odd", "_law_found", "_law_bad", "_law_cut", "_law_count", "_law_turn", "_law_letter", "_law_one", "_law_some"]
theorem scBent : FnScope nBent ["_law_box_here", "_law_signs_here"] (defScope sBent) := ⟨rfl, rfl, rfl, by decide +kernel, rfl, by decide +kernel, by decide +kernel⟩
theorem ok_bent {f fT : Addr} {fd fdT : FuncData} (F : Fun K "_law_bent" "_law_bent" sBent f fd) (G : GlobB mg)
    (GT : FnOk P w K mg base CX0 2 fT fdT ["_law_box_here", "_law_count"] spTake) (FT : PySem.W.keepIn K (.ref fT) = true) (mT : mg "_law_take" = some (.ref fT)) (bT : Binds K fdT ["_law_box_here", "_law_count"] []) :
    FnOk P w K mg base CX0 3 f fd ["_law_box_here", "_law_signs_here"] (spBent K) := by
  refine F.ok scBent (fun vs H Q E h => ?_) (fun cdv A outer s H vs Q E hr h => ?_)
  · obtain ⟨M, b, v, S, rfl, _⟩ := h
    rfl
  · obtain ⟨M, b, v, S, rfl, ok, hb, dS, gS, q⟩ := h
    refine ⟨_, pss_cons (ps_par (i := 2) (j := 3) (by rfl) scBent.nd rfl rfl (by decide) rfl rfl
          (pa_cons (pe_call GT hr rfl mT FT bT .nil pass0 (pa_cons (pv 0) (pa_cons (pe_callB call_len_seq (by rfl) G.len PySem.boot_len (pa_cons (pv 1) pa_nil)) pa_nil)))
          (pa_cons (pe_call GT hr rfl mT FT bT .nil pass0 (pa_cons (pv 0) (pa_cons (pe_op op_pow pe_int pe_int) pa_nil))) pa_nil)) (by rfl))
      (pss_cons (ps_asg (pe_ix ix_list (pv 1) (pv 2) (fun _ _ => rfl)) (pg_tup rfl (pgs_cons (pg_name (i := 4) scBent.nd rfl (.inl rfl)) (pgs_cons (pg_name (i := 5) scBent.nd rfl (.inl rfl)) pgs_nil))))
      (pss_cons (ps_set (i := 6) scBent.nd rfl (.inl rfl) pe_str)
      (pss_cons (ps_set (i := 7) scBent.nd rfl (.inl rfl) (pe_lst (pa_cons (pe_lst pa_nil) (pa_cons (pe_op op_cat (pv 1) (pe_lc (own := [("_law_turn", 11)]) (g := gName 11) (tt := tYes) rfl scBent.nd
            (pi_range1 rfl G.range (pa_cons (pe_op op_add pe_int (pe_call GT hr rfl mT FT bT .nil pass0 (pa_cons (pv 0) (pa_cons pe_int pa_nil)))) pa_nil))
            (blkOk_by (N := nBent) (sc := defScope sBent) (by decide +kernel)) (fun _ _ _ _ _ => pg_name (i := 11) scBent.nd rfl (.inl rfl)) (fun _ _ _ _ _ => pts_nil)
            (fun _ _ _ _ _ => pe_tup (pa_cons (pe_op op_add_str pe_str (pe_ix ix_str pe_str (pv 11) (fun _ _ => rfl))) (pa_cons pe_int pa_nil))))) pa_nil))))
      (pss_cons (ps_expr (pe_bm PySem.F.plainAttrs_list PySem.F.slot_list_append PySem.F.type_list_append mt_append (pv 7) (pa_cons (pe_slice sl_list (pe_op op_cat (pv 1) (pe_lc (own := [("_law_letter", 12)]) (g := gName 12) (tt := tYes) rfl scBent.nd (pi_str pe_str)
            (blkOk_by (N := nBent) (sc := defScope sBent) (by decide +kernel)) (fun _ _ _ _ _ => pg_name (i := 12) scBent.nd rfl (.inl rfl)) (fun _ _ _ _ _ => pts_nil)
            (fun _ _ _ _ _ => pe_tup (pa_cons (pe_op op_add_str pe_str (pv 12)) (pa_cons pe_int pa_nil))))) po_none (po_some pe_int)) pa_nil)))
      (pss_cons (ps_expr (pe_bm PySem.F.plainAttrs_list PySem.F.slot_list_append PySem.F.type_list_append mt_append (pv 7) (pa_cons (pe_lc (own := [("_law_one", 13), ("_law_some", 14)]) (tt := tYes) rfl scBent.nd (pi_list (pv 1))
            (blkOk_by (N := nBent) (sc := defScope sBent) (by decide +kernel)) (fun _ _ _ _ _ => pg_tupK (K := K) (n := 2) rfl rfl (pgs_cons (pg_name (i := 13) scBent.nd rfl (.inl rfl)) (pgs_cons (pg_name (i := 14) scBent.nd rfl (.inl rfl)) pgs_nil))) (fun _ _ _ _ _ => pts_nil)
            (fun _ _ _ _ _ => pe_tup (pa_cons (pv 13) (pa_cons (pe_callB (call_max2 rfl) (by rfl) G.max (by decide +kernel) (pa_cons pe_int (pa_cons (pv 14) pa_nil))) pa_nil)))) pa_nil)))
      (pss_cons (ps_for PassesOwn.never rfl (pi_list (pe_lst (pa_cons pe_str (pa_cons (pe_op op_add_str (pv 4) (pe_slice sl_str pe_str (po_some (pe_op op_sub (pe_callB call_len_str (by rfl) G.len PySem.boot_len (pa_cons (pv 4) pa_nil)) pe_int)) po_none))
            (pa_cons (pe_op op_mulS pe_str (pe_op op_add pe_int (pe_call GT hr rfl mT FT bT .nil pass0 (pa_cons (pv 0) (pa_cons pe_int pa_nil))))) pa_nil))))) (pg_name (i := 8) scBent.nd rfl (.inl rfl))
          (pss_one (ps_expr (pe_bm PySem.F.plainAttrs_list PySem.F.slot_list_append PySem.F.type_list_append mt_append (pv 7) (pa_cons (pe_op op_cat (pe_op op_cat (pe_slice sl_list (pv 1) po_none (po_some (pv 2))) (pe_lst (pa_cons (pe_tup (pa_cons (pv 8) (pa_cons (pv 5) pa_nil))) pa_nil))) (pe_slice sl_list (pv 1) (po_some (pe_op op_add (pv 2) pe_int)) po_none)) pa_nil)))))
      (pss_cons (ps_set (i := 9) scBent.nd rfl (.inl rfl) (pe_call GT hr rfl mT FT bT .nil pass0 (pa_cons (pv 0) (pa_cons (pe_callB call_len_str (by rfl) G.len PySem.boot_len (pa_cons (pv 4) pa_nil)) pa_nil))))
      (pss_cons (ps_set (i := 8) scBent.nd rfl (.inl rfl) (pe_op op_add_str (pe_op op_add_str (pe_slice sl_str (pv 4) po_none (po_some (pv 9))) (pe_ix ix_str (pv 6) (pe_call GT hr rfl mT FT bT .nil pass0 (pa_cons (pv 0) (pa_cons (pe_callB call_len_str (by rfl) G.len PySem.boot_len (pa_cons (pv 6) pa_nil)) pa_nil))) (fun _ _ => rfl))) (pe_slice sl_str (pv 4) (po_some (pe_op op_add (pv 9) pe_int)) po_none)))
      (pss_cons (ps_expr (pe_bm PySem.F.plainAttrs_list PySem.F.slot_list_append PySem.F.type_list_append mt_append (pv 7) (pa_cons (pe_op op_cat (pe_op op_cat (pe_slice sl_list (pv 1) po_none (po_some (pv 2))) (pe_lst (pa_cons (pe_tup (pa_cons (pv 8) (pa_cons (pv 5) pa_nil))) pa_nil))) (pe_slice sl_list (pv 1) (po_some (pe_op op_add (pv 2) pe_int)) po_none)) pa_nil)))
      (pss_cons (ps_for PassesOwn.never rfl (pi_list (pe_lst (pa_cons (pe_un un_neg pe_int) (pa_cons pe_int (pa_cons (pe_op op_add pe_int (pv 3)) (pa_cons (pe_op op_sub (pe_un un_neg pe_int) (pv 3)) pa_nil)))))) (pg_name (i := 10) scBent.nd rfl (.inl rfl))
          (pss_one (ps_expr (pe_bm PySem.F.plainAttrs_list PySem.F.slot_list_append PySem.F.type_list_append mt_append (pv 7) (pa_cons (pe_op op_cat (pe_op op_cat (pe_slice sl_list (pv 1) po_none (po_some (pv 2))) (pe_lst (pa_cons (pe_tup (pa_cons (pv 4) (pa_cons (pv 10) pa_nil))) pa_nil))) (pe_slice sl_list (pv 1) (po_some (pe_op op_add (pv 2) pe_int)) po_none)) pa_nil)))))
      (pss_cons (ps_set (i := 9) scBent.nd rfl (.inl rfl) (pe_call GT hr rfl mT FT bT .nil pass0 (pa_cons (pv 0) (pa_cons (pe_op op_add (pe_callB call_len_seq (by rfl) G.len PySem.boot_len (pa_cons (pv 1) pa_nil)) pe_int) pa_nil))))
      (pss_one (ps_ret (pe_op op_cat (pv 7) (pe_lst (pa_cons (pe_op op_cat (pe_op op_cat (pe_slice sl_list (pv 1) po_none (po_some (pv 9))) (pe_lst (pa_cons (pe_tup (pa_cons (pv 4) (pa_cons (pe_call GT hr rfl mT FT bT .nil pass0 (pa_cons (pv 0) (pa_cons pe_int pa_nil))) pa_nil))) pa_nil))) (pe_slice sl_list (pv 1) (po_some (pv 9)) po_none)) pa_nil)))))))))))))))), ?_⟩
    have sS := gS.toGood0.sane
    have l6 := gS.len
    have hSl : (S.map sgD).length = S.length := List.length_map _
    -- spot, far
    refine q_par (K := K) (M := MF) (PA := fun d => ∃ j : Nat, d = .int (j : Int) ∧ j < S.length) (PB := fun d => ∃ k : Int, d = .int k ∧ 0 ≤ k) ?_ ?_ fun v1 d1 v2 d2 H1 e1 dv1 hd1 dv2 hd2 => ?_
    · refine (evp_take (n := ((S.map sgD).length : Int)) (ev_var rfl) hb (evd_lenL (eva_cons (evd_var rfl (dS.weak fun _ h => h.elim)) eva_nil)) (by rw [hSl]; have := gS.ne; omega) (by rw [hSl]; exact Nat.lt_of_le_of_lt (show ((S.length : Nat) : Int).natAbs ≤ 6 by omega) (by decide))).mono ?_
      rintro d ⟨k, rfl, k0, k1⟩
      obtain ⟨j, rfl⟩ := Int.eq_ofNat_of_zero_le k0
      exact ⟨j, rfl, by rw [hSl] at k1; omega⟩
    · refine (evp_take (n := (10 : Int) ^ 28) (ev_var rfl) hb ?_ (by decide) (by decide)).mono fun d ⟨k, e, k0, _⟩ => ⟨k, e, k0⟩
      exact (evp_I (P := (· = .int ((10 : Int) ^ 28))) evd_int evd_int fun a b pa pb => ⟨10, 28, pa, pb, ⟨by decide, by decide, by decide⟩, _, rfl, fun _ => .int _⟩)
    obtain ⟨j, rfl, hj⟩ := hd1
    obtain ⟨far, rfl, hfar⟩ := hd2
    cases dv1
    cases dv2
    -- name, kids
    have hSj : S[j]? = some S[j] := List.getElem?_eq_getElem hj
    have nj := gS.name S[j] (List.getElem_mem hj)
    have kj := gS.kids S[j] (List.getElem_mem hj)
    have pS := dS.ex e1
    cases pS with
    | lst a1 a2 a3 =>
    rename_i a xs
    obtain ⟨x, hx, dx⟩ := a3.at (i := j) (d := sgD S[j]) (by rw [List.getElem?_map, hSj]; rfl)
    cases dx with
    | tup c1 c2 =>
    cases c2 with
    | cons r1 r2 =>
    cases r1
    cases r2 with
    | cons r3 r4 =>
    cases r3
    cases r4
    rename_i pj
    refine ⟨_, rfl, _, rfl, a, xs, _, .ref pj, rfl, rfl, sq_of a1, atI_nat hx, pj, _, rfl, c1, rfl, _, _, rfl, _, _, rfl, rfl, ?_⟩
    dsimp only
    refine q_asg ev_c fun H2 e2 => ?_
    have e02 := e1.trans e2
    -- found = [[], ..]
    refine q_newFound (K := K) (M := M) (B := Bad) (n := 2) ?_ (by decide) fun l H3 e3 hl H4 e4 f4 => ?_
    · refine (evpa_cons (evd_lst (ok.ex e02) eva_nil (by decide)) (evpa_cons (evp_cat (PB := fun d => ∃ T : List Sg, d = lD T ∧ 7 ≤ T.length ∧ T.length ≤ 8 ∧ Sane T) (ok.ex e02) (evd_var rfl (dS.ex e02)) ?_ (fun d e => ⟨_, e, by rw [hSl]; omega⟩) ?_) eva_nil)).mono ?_
      · refine (evp_lcR (PN := fun n => 7 ≤ n ∧ n ≤ 8) (fun _ => true) (fun i d => d = sgD (("q" : Str) ++ (⟨#[97 + i]⟩ : Str), 0)) (ok.ex e02) ?_ (fun n hn => by omega) fun M' n i H' hm ok' pn hi e Qg qg => ?_).mono ?_
        · refine (evpa_cons (evp_I0 (P := fun d => ∃ n : Int, d = .int n ∧ 7 ≤ n ∧ n ≤ 8) evd_int (evp_take (ev_var rfl) (e02 _ _ hb) evd_int (by decide) (by decide)) ?_) eva_nil).mono ?_
          · rintro a _ rfl ⟨k, rfl, k0, k1⟩
            exact ⟨7, k, rfl, rfl, _, ⟨7 + k, rfl, by omega, by omega⟩, fun _ => .int _⟩
          · rintro d ⟨a, ds, rfl, ⟨n, rfl, h⟩, rfl⟩
            exact ⟨n, rfl, h⟩
        · have e8 : ("abcdefgh" : Str).cps.toList = List.range' 97 8 := by decide +kernel
          have e9 : ("abcdefgh" : Str).length = 8 := by decide +kernel
          have hq1 : ("q" : Str).length = 1 := by decide +kernel
          refine qg _ H' (Ex.refl _) ⟨rfl, evt_yes, fun _ => evd_tup (ds := [.str _, .int 0]) (eva_cons (evd_addS evd_str (evd_ixS (j := i) evd_str (evd_var rfl (.int _)) (by rw [e9]; decide) rfl ?_) ?_) (eva_cons evd_int eva_nil)) (by show 2 ≤ sizeLine; decide)⟩
          · rw [e8, List.getElem?_range' (by omega)]
            simp
          · rw [hq1]
            show 1 + 1 ≤ sizeLine
            decide
        · rintro d ⟨n, es, pn, rfl, pr⟩
          rw [filter_yes] at pr
          have hes := paired_map pr
          subst hes
          refine ⟨(List.range n.toNat).map fun i => (("q" : Str) ++ (⟨#[97 + i]⟩ : Str), 0), ?_, ?_, ?_, ?_⟩
          · unfold lD
            rw [List.map_map]
            rfl
          · rw [List.length_map, List.length_range]
            omega
          · rw [List.length_map, List.length_range]
            omega
          · refine ⟨by rw [List.length_map, List.length_range]; omega, fun q hq => ?_, fun q hq => ?_⟩
            · obtain ⟨i, hi, rfl⟩ := List.mem_map.mp hq
              show (("q" : Str) ++ (⟨#[97 + i]⟩ : Str)).length ≤ 1000
              rw [q_one]
              decide
            · obtain ⟨i, hi, rfl⟩ := List.mem_map.mp hq
              have := List.mem_range.mp hi
              exact q_ok (by omega)
      · rintro d ⟨T, rfl, h1, h2, _⟩
        exact ⟨_, rfl, by rw [List.length_map]; omega⟩
      · rintro ds ⟨a, ds, rfl, rfl, c, ds', rfl, ⟨d1, d2, rfl, p1, ⟨T, p2, h7, h8, sT⟩⟩, rfl⟩
        refine ⟨[[], S ++ T], ?_, ?_, Nat.le_refl _⟩
        · injection p1 with p1
          unfold lD at p2
          injection p2 with p2
          rw [p1, p2, ← List.map_append]
          rfl
        · intro U hU
          rcases List.mem_cons.mp hU with rfl | hU
          · exact ⟨⟨by decide, (fun _ h => nomatch h), (fun _ h => nomatch h)⟩, bad_of fun z => absurd z.1.1 (by decide)⟩
          · rw [List.mem_singleton.mp hU]
            exact ⟨sS.append sT (by omega), bad_long (by rw [List.length_append]; omega)⟩
    have e03 := e02.trans e3
    have hv : ∀ {H'}, Ex H3 H' → Dt K (more M l) H' (.ref a) (.list (S.map sgD)) := fun e => ((dS.ex e03).more hl).ex e
    have ok3 := ok.ex e03
    have hSz : (S.map sgD).length < sizeLine := by rw [hSl]; exact Nat.lt_of_le_of_lt l6 (by decide)
    -- seven signs
    refine q_found hl e4 f4 rfl ?_ (by decide) fun H5 e5 f5 => ?_
    · have hf : ("abcdef" : Str).cps.toList = [97, 98, 99, 100, 101, 102] := by decide +kernel
      have hq1 : ("q" : Str).length = 1 := by decide +kernel
      refine (evd_slL (f4.ok ok3 e4) (evd_cat (es := [97, 98, 99, 100, 101, 102].map fun c => sgD (("q" : Str) ++ (⟨#[c]⟩ : Str), 0)) (f4.ok ok3 e4) (evd_var rfl (hv e4)) ?_ ?_) evo_none (evo_some (evd_int (i := 7)))).mono ?_
      · refine (evd_lcS (fun _ => true) (fun c => sgD (("q" : Str) ++ (⟨#[c]⟩ : Str), 0)) (f4.ok ok3 e4) evd_str (by rw [show ("abcdef" : Str).length = 6 from by decide +kernel]; decide) fun M' c H' hm ok' hc e Qg qg => ?_).mono fun d h => ?_
        · refine qg _ H' (Ex.refl _) ⟨rfl, evt_yes, fun _ => evd_tup (ds := [.str _, .int 0]) (eva_cons (evd_addS evd_str (evd_var rfl (.str _)) ?_) (eva_cons evd_int eva_nil)) (by show 2 ≤ sizeLine; decide)⟩
          rw [hq1]
          show 1 + 1 ≤ sizeLine
          decide
        · rw [h, filter_yes, hf]
      · rw [hSl]
        show S.length + 6 ≤ sizeLine
        exact Nat.le_trans (show _ ≤ 12 by omega) (by decide)
      · rintro d rfl
        have e7 := cutG_take (S.map sgD ++ [97, 98, 99, 100, 101, 102].map fun c => sgD (("q" : Str) ++ (⟨#[c]⟩ : Str), 0)) 7
        refine ⟨(S ++ [97, 98, 99, 100, 101, 102].map fun c => (("q" : Str) ++ (⟨#[c]⟩ : Str), 0)).take 7, ?_, ?_, bad_long ?_⟩
        · unfold lD
          rw [List.map_take, List.map_append, List.map_map]
          exact congrArg PyData.list e7
        · refine (sS.append (T := [97, 98, 99, 100, 101, 102].map fun c => (("q" : Str) ++ (⟨#[c]⟩ : Str), 0)) ⟨by show 6 ≤ 100; decide, fun q hq => ?_, fun q hq => ?_⟩ ?_).sub (fun q hq => List.mem_of_mem_take hq) (by rw [List.length_take]; omega)
          · obtain ⟨c, hc, rfl⟩ := List.mem_map.mp hq
            show (("q" : Str) ++ (⟨#[c]⟩ : Str)).length ≤ 1000
            rw [q_one]
            decide
          · obtain ⟨c, hc, rfl⟩ := List.mem_map.mp hq
            refine q_ok ?_
            simp only [List.mem_cons, List.not_mem_nil, or_false] at hc
            omega
          · show S.length + 6 ≤ 100
            omega
        · rw [List.length_take, List.length_append]
          show 6 < min 7 (S.length + 6)
          have := gS.ne
          omega
    -- no sign without kids
    refine q_found hl e5 f5 rfl ?_ (by decide) fun H6 e6 f6 => ?_
    · refine (evd_lcL (fun _ => true) (fun d => sgD ((sgU d).1, if (sgU d).2 > 1 then (sgU d).2 else 1)) (f5.ok ok3 e5) (evd_var rfl (hv e5)) hSz fun M' d x H' hm ok' hd e dx Qg qg => ?_).mono fun d h => ?_
      · obtain ⟨p, hp, rfl⟩ := List.mem_map.mp hd
        cases dx with
        | tup k1 k2 =>
        cases k2 with
        | cons r1 r2 =>
        cases r1
        cases r2 with
        | cons r3 r4 =>
        cases r4
        cases r3
        exact ⟨_, _, rfl, k1, rfl, _, _, rfl, _, _, rfl, rfl, qg _ H' (Ex.refl _) ⟨rfl, evt_yes, fun _ => evd_tup (ds := [.str _, .int _]) (eva_cons (evd_var rfl (.str _)) (eva_cons (evd_max2 (eva_cons evd_int (eva_cons (evd_var rfl (.int _)) eva_nil))) eva_nil)) (by show 2 ≤ sizeLine; decide)⟩⟩
      · refine ⟨S.map fun q => (q.1, if q.2 > 1 then q.2 else 1), ?_, ⟨by rw [List.length_map]; omega, fun q hq => ?_, fun q hq => ?_⟩, bad_of fun z => ?_⟩
        · rw [h, filter_yes]
          unfold lD
          rw [List.map_map, List.map_map]
          rfl
        · obtain ⟨p, hp, rfl⟩ := List.mem_map.mp hq
          exact sS.name p hp
        · obtain ⟨p, hp, rfl⟩ := List.mem_map.mp hq
          exact sS.ok p hp
        · obtain ⟨p, hp, hz⟩ := z.2.2.2
          obtain ⟨r, hr, rfl⟩ := List.mem_map.mp hp
          dsimp only at hz
          split at hz <;> omega
    -- a bad name
    have hnl : S[j].1.length ≤ sizeLine := Nat.le_trans nj.hi (by decide)
    refine q_forFound (m := 3) (o := none) (PL := fun ds => ds.length ≤ 3 ∧ ∀ d ∈ ds, ∃ z : Str, d = .str z ∧ z.length ≤ 1000 ∧ PyData.strOk z = true ∧ ¬ NameOk z) hl ok3 e6 f6 ?_ (fun ds h => h.1) (fun _ => rfl) rfl (by decide) ?_ fun u7 H7 e7 f7 => ?_
    · refine (evp_lst (f6.ok ok3 e6) (evpa_cons evd_str (evpa_cons (evd_addS (evd_var rfl (.str _)) (evd_slS evd_str (by rw [abcd_len]; decide) (evo_some (evd_sub (evd_lenS (eva_cons (evd_var rfl (.str S[j].1)) eva_nil) hnl) (evd_int (i := 1)))) evo_none) ?_)
          (evpa_cons (evp_op (P := fun d => ∃ n : Int, d = .str (Txt.mul "a" n) ∧ 4 ≤ n ∧ n ≤ 93) evd_str (evp_I0 (P := fun d => ∃ n : Int, d = .int n ∧ 4 ≤ n ∧ n ≤ 93) evd_int (evp_take (ev_var rfl) ((e03.trans e6) _ _ hb) evd_int (by decide) (by decide)) ?_) ?_) eva_nil))) ?_).mono ?_
      · have h1 := cutS_len "abcd" (some ((S[j].1.length : Int) - 1)) none
        rw [abcd_len] at h1
        have h2 := nj.hi
        exact Nat.le_trans (show _ ≤ 7 by omega) (by decide)
      · rintro _ _ rfl ⟨k, rfl, k0, k1⟩
        exact ⟨4, k, rfl, rfl, _, ⟨4 + k, rfl, by omega, by omega⟩, fun _ => .int _⟩
      · intro x y a b H1 e dx dy px py Q q
        obtain ⟨n, rfl, n0, n1⟩ := py
        subst px
        cases dx
        cases dy
        exact ⟨_, n, rfl, rfl, mulOk_a n0 (by omega), q _ _ H1 (Ex.refl _) (.str _) ⟨n, rfl, n0, n1⟩⟩
      · rintro ds ⟨_, _, rfl, rfl, _, _, rfl, rfl, _, _, rfl, _, rfl⟩
        show 3 ≤ sizeLine
        decide
      · rintro d ⟨ds, rfl, _, _, rfl, rfl, _, _, rfl, rfl, _, _, rfl, ⟨n, rfl, n0, n1⟩, rfl⟩
        refine ⟨_, rfl, Nat.le_refl _, fun d hd => ?_⟩
        simp only [List.mem_cons, List.not_mem_nil, or_false] at hd
        rcases hd with rfl | rfl | rfl
        · exact ⟨_, rfl, by decide +kernel, by decide +kernel, name_no (.inr (.inl (by decide +kernel)))⟩
        · have h2 := nj.hi
          have h3 := nj.lo
          have hc : (cutS "abcd" (some ((S[j].1.length : Int) - 1)) none).length = 5 - S[j].1.length := by
            have k0 : ∀ k : Nat, k < 4 → (cutS "abcd" (some ((k : Nat) : Int)) none).length = 4 - k := by
              intro k hk
              show ((cutS "abcd" (some ((k : Nat) : Int)) none).cps).size = _
              unfold cutS
              rw [List.size_toArray, List.length_take, List.length_drop, Array.length_toList, HT.sIx_nat, HT.sIx_none]
              show min (("abcd" : Str).length - min k ("abcd" : Str).length) (("abcd" : Str).length - min k ("abcd" : Str).length) = _
              rw [abcd_len]
              omega
            have e1 : (S[j].1.length : Int) - 1 = ((S[j].1.length - 1 : Nat) : Int) := by omega
            rw [e1, k0 _ (by omega)]
            omega
          refine ⟨_, rfl, ?_, strOk_app nj.strOk (strOk_cut _ _ (ok_lit (by decide +kernel))), name_no (.inl ?_)⟩
          · rw [app_len, hc]
            omega
          · rw [app_len, hc]
            omega
        · have hm := mul_a n0
          have hl : (Txt.mul "a" n).length = n.toNat := by
            show (Txt.mul "a" n).cps.size = _
            rw [← Array.length_toList, hm, List.length_replicate]
          refine ⟨_, rfl, by rw [hl]; omega, ?_, name_no (.inl (by rw [hl]; omega))⟩
          rw [strOk_iff, hm]
          intro c hc
          rw [(List.mem_replicate.mp hc).2]
          decide
    · rintro ds d u H' ⟨_, hp⟩ hd e okm du
      obtain ⟨z, rfl, z1, z2, z3⟩ := hp d hd
      cases du
      refine (evd_bent (q := (z, S[j].2)) okm (evd_var rfl (hv e)) (evd_var rfl (.int _)) (evd_tup (ds := [.str z, .int S[j].2]) (eva_cons (evd_var rfl (.str _)) (eva_cons (evd_var rfl (.int _)) eva_nil)) (by show 2 ≤ sizeLine; decide)) (by omega)).mono fun d h => ?_
      exact ⟨bent S j (z, S[j].2), h, sS.bent (by omega) z1 z2, bad_sign (bent_mem _ _ _) fun h => z3 h.1⟩
    -- a sign that is none
    refine q_asgP (K := K) (M := MF) (P := fun d => ∃ c : Nat, d = .int (c : Int)) ?_ fun v8 d8 H8 e8 dv8 hd8 => ?_
    · refine (evp_take (n := (S[j].1.length : Int)) (ev_var rfl) ((e03.trans e7) _ _ hb) (evd_lenS (eva_cons (evd_var rfl (.str S[j].1)) eva_nil) hnl) (by have := nj.lo; omega) (Nat.lt_of_le_of_lt (show ((S[j].1.length : Nat) : Int).natAbs ≤ 3 by have := nj.hi; omega) (by decide))).mono ?_
      rintro d ⟨k, rfl, k0, k1⟩
      obtain ⟨c, rfl⟩ := Int.eq_ofNat_of_zero_le k0
      exact ⟨c, rfl⟩
    obtain ⟨cut, rfl⟩ := hd8
    cases dv8
    have e38 := e7.trans e8
    refine q_asgP (K := K) (M := MF) (P := fun d => ∃ z : Str, d = .str z ∧ z.length ≤ 1000 ∧ PyData.strOk z = true ∧ ¬ NameOk z) ?_ fun v9 d9 H9 e9 dv9 hd9 => ?_
    · have hs : ∀ lo hi, (cutS S[j].1 lo hi).length ≤ 3 := fun lo hi => Nat.le_trans (cutS_len _ lo hi) nj.hi
      refine (evp_addS (evp_addS (evd_slS (evd_var rfl (.str S[j].1)) hnl evo_none (evo_some (evd_var rfl (.int _)))) (evp_ixS (evd_var rfl (.str _)) (evp_take (ev_var rfl) ((e03.trans e38) _ _ hb) (evd_lenS (eva_cons (evd_var rfl (.str _)) eva_nil) (by rw [odd_len]; decide)) (by rw [odd_len]; decide) (by rw [odd_len]; decide)) (by rw [odd_len]; decide) (fun d h => h)) ?_ ?_)
        (evd_slS (evd_var rfl (.str S[j].1)) hnl (evo_some (evd_add (evd_var rfl (.int _)) (evd_int (i := 1)))) evo_none) ?_ ?_).mono ?_
      · intro d e
        exact ⟨_, e, Nat.le_trans (hs _ _) (by decide)⟩
      · rintro d ⟨c, hc, rfl⟩
        exact ⟨_, rfl, by show 1 ≤ 1000; decide⟩
      · rintro d ⟨x, y, rfl, ex, c, hc, ey⟩
        injection ex with ex
        injection ey with ey
        refine ⟨_, rfl, ?_⟩
        rw [app_len, ex, ey]
        have := hs none (some (cut : Int))
        show _ + 1 ≤ 1000
        omega
      · intro d e
        exact ⟨_, e, Nat.le_trans (hs _ _) (by decide)⟩
      · rintro d ⟨x, y, rfl, ⟨x', y', ex, ex', c, hc, ey'⟩, ey⟩
        injection ex with ex
        injection ex' with ex'
        injection ey' with ey'
        injection ey with ey
        have hob := odd_bad c hc
        have h1 := hs none (some (cut : Int))
        have h2 := hs (some ((cut : Int) + 1)) none
        refine ⟨_, rfl, ?_, ?_, name_no (.inr (.inr ⟨c, ?_, hob.1⟩))⟩
        · rw [ex, ex', ey', ey, app_len, app_len]
          show _ + 1 + _ ≤ 1000
          omega
        · rw [ex, ex', ey', ey]
          refine strOk_app (strOk_app (strOk_cut _ _ nj.strOk) ?_) (strOk_cut _ _ nj.strOk)
          rw [strOk_iff]
          intro d hd
          have : d = c := by simpa using hd
          have := hob.2
          omega
        · rw [ex, ex', ey', ey, app_mem, app_mem]
          exact .inl (.inr (by simp))
    obtain ⟨z9, rfl, z1, z2, z3⟩ := hd9
    cases dv9
    have e39 := e38.trans e9
    have f9 := (f7.ex e8).ex e9
    refine q_found hl e39 f9 rfl ?_ (by decide) fun H10 e10 f10 => ?_
    · refine (evd_bent (q := (z9, S[j].2)) (f9.ok ok3 e39) (evd_var rfl (hv e39)) (evd_var rfl (.int _)) (evd_tup (ds := [.str z9, .int S[j].2]) (eva_cons (evd_var rfl (.str _)) (eva_cons (evd_var rfl (.int _)) eva_nil)) (by show 2 ≤ sizeLine; decide)) (by omega)).mono fun d h => ?_
      exact ⟨bent S j (z9, S[j].2), h, sS.bent (by omega) z1 z2, bad_sign (bent_mem _ _ _) fun h => z3 h.1⟩
    -- a number of kids that is none
    refine q_forFound (m := 4) (o := none) (PL := (· = [.int (-1), .int 3, .int (4 + far), .int (-2 - far)])) hl ok3 e10 f10 ?_ (fun ds h => by rw [h]; exact Nat.le_refl _) (fun _ => rfl) rfl (by decide) ?_ fun u11 H11 e11 f11 => ?_
    · refine (evd_lst (f10.ok ok3 e10) (eva_cons (evd_neg (evd_int (i := 1))) (eva_cons evd_int (eva_cons (evd_add evd_int (evd_var rfl (.int _))) (eva_cons (evd_sub (evd_neg (evd_int (i := 2))) (evd_var rfl (.int _))) eva_nil)))) (by show 4 ≤ sizeLine; decide)).mono fun d h => ⟨_, h, rfl⟩
    · rintro ds d u H' rfl hd e okm du
      have hk : ∃ k : Int, d = .int k ∧ (k < 0 ∨ 2 < k) := by
        simp only [List.mem_cons, List.not_mem_nil, or_false] at hd
        rcases hd with rfl | rfl | rfl | rfl
        · exact ⟨_, rfl, .inl (by decide)⟩
        · exact ⟨_, rfl, .inr (by decide)⟩
        · exact ⟨_, rfl, .inr (by omega)⟩
        · exact ⟨_, rfl, .inl (by omega)⟩
      obtain ⟨k, rfl, hk⟩ := hk
      cases du
      refine (evd_bent (q := (S[j].1, k)) okm (evd_var rfl (hv e)) (evd_var rfl (.int _)) (evd_tup (ds := [.str S[j].1, .int k]) (eva_cons (evd_var rfl (.str _)) (eva_cons (evd_var rfl (.int _)) eva_nil)) (by show 2 ≤ sizeLine; decide)) (by omega)).mono fun d h => ?_
      exact ⟨bent S j (S[j].1, k), h, sS.bent (by omega) (Nat.le_trans nj.hi (by decide)) nj.strOk, bad_sign (bent_mem _ _ _) fun h => by have h := h.2; dsimp only at h; omega⟩
    -- a name twice
    refine q_asgP (K := K) (M := MF) (P := fun d => ∃ c : Nat, d = .int (c : Int)) ?_ fun v12 d12 H12 e12 dv12 hd12 => ?_
    · refine (evp_take (n := ((S.map sgD).length : Int) + 1) (ev_var rfl) ((e03.trans e11) _ _ hb) (evd_add (evd_lenL (eva_cons (evd_var rfl ((dS.weak (M' := MF) fun _ h => h.elim).ex (e03.trans e11))) eva_nil)) evd_int) (by omega) (by rw [hSl]; exact Nat.lt_of_le_of_lt (show ((S.length : Nat) + 1 : Int).natAbs ≤ 7 by omega) (by decide))).mono ?_
      rintro d ⟨k, rfl, k0, k1⟩
      obtain ⟨c, rfl⟩ := Int.eq_ofNat_of_zero_le k0
      exact ⟨c, rfl⟩
    obtain ⟨cut2, rfl⟩ := hd12
    cases dv12
    have e312 := e11.trans e12
    have okR := ok3.ex e312
    obtain ⟨ls, ys, g1, g2, g3, g4⟩ := f11.ex e12
    have hfound : Dt K M H12 (.ref l) (.list (ls.map lD)) := .lst g1 (ok3.new hl) (g2.weak more_sub)
    have hvR : Dt K M H12 (.ref a) (.list (S.map sgD)) := dS.ex (e03.trans e312)
    have hT : ∀ k : Int, 0 ≤ k → k < 3 → Bad (S.take cut2 ++ [(S[j].1, k)] ++ S.drop cut2) := by
      intro k k0 k1
      have t1 : (S.take cut2).length ≤ 6 := Nat.le_trans (by rw [List.length_take]; exact Nat.min_le_right _ _) l6
      have t2 : (S.drop cut2).length ≤ 6 := by rw [List.length_drop]; omega
      refine ⟨((sS.sub (fun q hq => List.mem_of_mem_take hq) (by omega)).append (Sane.one (q := (S[j].1, k)) (Nat.le_trans nj.hi (by decide)) nj.strOk) ?_).append (sS.sub (fun q hq => List.mem_of_mem_drop hq) (by omega)) ?_, bad_of fun z => ?_⟩
      · show _ + 1 ≤ 100
        omega
      · rw [List.length_append]
        show _ + 1 + _ ≤ 100
        omega
      · have nd := z.2.2.1
        rw [List.map_append, List.map_append, List.nodup_append] at nd
        obtain ⟨nd1, _, nd2⟩ := nd
        rw [List.nodup_append] at nd1
        have hm : S[j] ∈ S.take cut2 ++ S.drop cut2 := by
          rw [List.take_append_drop]
          exact List.getElem_mem hj
        rcases List.mem_append.mp hm with hm | hm
        · exact nd1.2.2 S[j].1 (List.mem_map_of_mem (f := (·.1)) hm) S[j].1 (List.mem_singleton.mpr rfl) rfl
        · exact nd2 S[j].1 (List.mem_append_right _ (List.mem_singleton.mpr rfl)) S[j].1 (List.mem_map_of_mem (f := (·.1)) hm) rfl
    have c1 : cutG (S.map sgD) none (some (cut2 : Int)) = (S.take cut2).map sgD := by rw [cutG_take, List.map_take]
    have c2 : cutG (S.map sgD) (some (cut2 : Int)) none = (S.drop cut2).map sgD := by rw [cutG_drop, List.map_drop]
    have t1 : (S.take cut2).length ≤ 6 := Nat.le_trans (by rw [List.length_take]; exact Nat.min_le_right _ _) l6
    have t2 : (S.drop cut2).length ≤ 6 := by rw [List.length_drop]; omega
    refine s_retP (K := K) (M := M) (evp_cat okR (evd_var rfl hfound) (evp_lst (PL := fun ds => ∃ T, ds = [lD T] ∧ Bad T) okR ((evpa_cons (evp_cat okR (evp_cat okR (evd_slL okR (evd_var rfl hvR) evo_none (evo_some (evd_var rfl (.int _))))
        (evp_lst okR (evpa_cons (evp_tup (evpa_cons (evd_var rfl (.str S[j].1)) (evpa_cons (evp_take (ev_var rfl) ((e03.trans e312) _ _ hb) evd_int (by decide) (by decide)) eva_nil)) ?_) eva_nil) ?_) ?_ ?_)
        (evd_slL okR (evd_var rfl hvR) (evo_some (evd_var rfl (.int _))) evo_none) ?_ ?_) eva_nil).mono ?_) ?_) ?_ ?_) fun v d H13 e13 dv hd => ?_
    · rintro ds ⟨_, _, rfl, rfl, _, _, rfl, _, rfl⟩
      show 2 ≤ sizeLine
      decide
    · rintro ds ⟨_, _, rfl, _, rfl⟩
      show 1 ≤ sizeLine
      decide
    · intro d e
      rw [c1] at e
      exact ⟨_, e, by rw [List.length_map]; omega⟩
    · rintro d ⟨ds, rfl, _, _, rfl, _, rfl⟩
      exact ⟨_, rfl, by show 1 ≤ 1000; decide⟩
    · rintro d ⟨ds, es, rfl, e1, ds', e2, _, _, rfl, _, rfl⟩
      rw [c1] at e1
      injection e1 with e1
      injection e2 with e2
      refine ⟨_, rfl, ?_⟩
      rw [e1, e2, List.length_append, List.length_map]
      show _ + 1 ≤ 1000
      omega
    · intro d e
      rw [c2] at e
      exact ⟨_, e, by rw [List.length_map]; omega⟩
    · rintro ds ⟨d, _, rfl, ⟨as, bs, rfl, ⟨cs, es, e0, e1, ds', e2, x, _, rfl, ⟨_, rfl, _, _, rfl, rfl, _, _, rfl, ⟨k, rfl, k0, k1⟩, rfl⟩, rfl⟩, e3⟩, rfl⟩
      rw [c1] at e1
      rw [c2] at e3
      injection e0 with e0
      injection e1 with e1
      injection e2 with e2
      injection e3 with e3
      refine ⟨_, ?_, hT k k0 k1⟩
      rw [e0, e1, e2, e3]
      unfold lD
      rw [List.map_append, List.map_append]
      rfl
    · rintro ds ⟨T, rfl, _⟩
      show 1 ≤ sizeLine
      decide
    · rintro d rfl
      exact ⟨_, rfl, by rw [List.length_map]; omega⟩
    · rintro d ⟨ds, rfl, T, rfl, _⟩
      exact ⟨_, rfl, by show 1 ≤ 1000; decide⟩
    · obtain ⟨ds, es, rfl, e1, ds', e2, T, rfl, bT⟩ := hd
      injection e1 with e1
      injection e2 with e2
      subst e1
      subst e2
      refine q v (ls ++ [T]) H13 ((e03.trans e312).trans e13) ?_ ?_ ?_
      · rw [List.map_append]
        exact dv
      · intro U hU
        rcases List.mem_append.mp hU with hU | hU
        · exact g3 U hU
        · rw [List.mem_singleton.mp hU]
          exact bT
      · rw [List.length_append]
        show _ + 1 ≤ 100
        omega
end
end TH
set_option maxRecDepth 100000
set_option maxHeartbeats 4000000
namespace TH
open PySem L2 Evl
/-! ### books that are not alike -/
theorem nodup_sub {α : Type} [DecidableEq α] : ∀ {l m : List α}, l.Nodup → (∀ x ∈ l, x ∈ m) → l.length ≤ m.length
  | [], _, _, _ => Nat.zero_le _
  | x :: l, m, nd, h => by
    obtain ⟨h1, h2⟩ := List.nodup_cons.mp nd
    have hx := h x List.mem_cons_self
    have ih := nodup_sub (m := m.erase x) h2 fun y hy => (List.mem_erase_of_ne (fun e => h1 (by rw [← e]; exact hy))).mpr (h y (List.mem_cons_of_mem _ hy))
    rw [List.length_erase_of_mem hx] at ih
    have := List.length_pos_of_mem hx
    rw [List.length_cons]
    omega
def sevens : List Str := ["zzz", "zz", "z", "zy", "zx", "zw", "zv"]
theorem sevens_ok : ∀ z ∈ sevens, NameOk z := fun z hz => by
  have h : ∀ z ∈ sevens, isNameB z = true := by decide +kernel
  exact (nameB_iff z).mp (h z hz)
theorem sevens_nd : sevens.Nodup := by decide +kernel
theorem fresh_ex {ns : List Str} (h : ns.length ≤ 6) : ∃ z, (sevens.filter fun z => !decide (z ∈ ns))[0]? = some z ∧ z ∉ ns ∧ NameOk z := by
  cases e : sevens.filter fun z => !decide (z ∈ ns) with
  | nil =>
    have h1 : ∀ z ∈ sevens, z ∈ ns := fun z hz => by
      by_cases hm : z ∈ ns
      · exact hm
      · have : z ∈ sevens.filter fun z => !decide (z ∈ ns) := List.mem_filter.mpr ⟨hz, by simpa using hm⟩
        rw [e] at this
        cases this
    have h2 := nodup_sub sevens_nd h1
    have h3 : sevens.length = 7 := rfl
    omega
  | cons z l =>
    have hm : z ∈ sevens.filter fun z => !decide (z ∈ ns) := by rw [e]; exact List.mem_cons_self
    obtain ⟨h1, h2⟩ := List.mem_filter.mp hm
    exact ⟨z, rfl, by simpa using h2, sevens_ok z h1⟩
def Near (S T : List Sg) : Prop := Good0 T ∧ T ≠ S
theorem Good0.of {S T : List Sg} (h : Good0 S) (hl : T.length ≤ 6) (hm : ∀ q ∈ T, q ∈ S ∨ (NameOk q.1 ∧ 0 ≤ q.2 ∧ q.2 ≤ 2)) (nd : (T.map (·.1)).Nodup) : Good0 T :=
  ⟨hl, fun q hq => (hm q hq).elim (h.name q) (·.1), fun q hq => (hm q hq).elim (h.kids q) (·.2), nd⟩
theorem nodup_mid {A B : List Str} {z : Str} (h : (A ++ B).Nodup) (hA : z ∉ A) (hB : z ∉ B) : (A ++ [z] ++ B).Nodup := by
  obtain ⟨h1, h2, h3⟩ := List.nodup_append.mp h
  rw [List.nodup_append]
  refine ⟨?_, h2, fun a ha b hb => ?_⟩
  · rw [List.nodup_append]
    refine ⟨h1, by simp, fun a ha b hb => ?_⟩
    rw [List.mem_singleton.mp hb]
    intro e
    exact hA (by rw [← e]; exact ha)
  · rcases List.mem_append.mp ha with ha | ha
    · exact h3 a ha b hb
    · rw [List.mem_singleton.mp ha]
      intro e
      exact hB (by rw [e]; exact hb)
theorem out_nd {S : List Sg} {j : Nat} (nd : (S.map (·.1)).Nodup) : ((S.take j).map (·.1) ++ (S.drop (j + 1)).map (·.1)).Nodup := by
  rw [← List.map_append, ← List.eraseIdx_eq_take_drop_succ]
  exact ((List.eraseIdx_sublist S j).map _).nodup nd
theorem mem_take_names {S : List Sg} {j : Nat} {z : Str} (h : z ∉ S.map (·.1)) : z ∉ (S.take j).map (·.1) := fun hm => by
  obtain ⟨q, hq, rfl⟩ := List.mem_map.mp hm
  exact h (List.mem_map_of_mem (f := (·.1)) (List.mem_of_mem_take hq))
theorem mem_drop_names {S : List Sg} {j : Nat} {z : Str} (h : z ∉ S.map (·.1)) : z ∉ (S.drop j).map (·.1) := fun hm => by
  obtain ⟨q, hq, rfl⟩ := List.mem_map.mp hm
  exact h (List.mem_map_of_mem (f := (·.1)) (List.mem_of_mem_drop hq))
theorem bent_len {S : List Sg} {j : Nat} {q : Sg} (hj : j < S.length) : (bent S j q).length = S.length := by
  unfold bent
  rw [List.length_append, List.length_append, List.length_take, List.length_drop]
  show min j S.length + 1 + _ = _
  omega
theorem bent_mem2 {S : List Sg} {j : Nat} {q r : Sg} (h : r ∈ bent S j q) : r ∈ S ∨ r = q := by
  unfold bent at h
  rcases List.mem_append.mp h with h | h
  · rcases List.mem_append.mp h with h | h
    · exact .inl (List.mem_of_mem_take h)
    · exact .inr (List.mem_singleton.mp h)
  · exact .inl (List.mem_of_mem_drop h)
theorem near_name {S : List Sg} {j : Nat} {z : Str} {k : Int} (h : Good0 S) (hj : j < S.length) (hz : NameOk z) (hn : z ∉ S.map (·.1)) (hk : 0 ≤ k ∧ k ≤ 2) : Near S (bent S j (z, k)) := by
  refine ⟨h.of (by rw [bent_len hj]; exact h.len) (fun q hq => (bent_mem2 hq).imp id fun e => by rw [e]; exact ⟨hz, hk⟩) ?_, fun e => hn ?_⟩
  · unfold bent
    rw [List.map_append, List.map_append]
    exact nodup_mid (out_nd h.nd) (mem_take_names hn) (mem_drop_names hn)
  · have := bent_mem S j (z, k)
    rw [e] at this
    exact List.mem_map_of_mem (f := (·.1)) this
theorem near_tail {S : List Sg} {z : Str} {k : Int} (h : Good0 S) (hz : NameOk z) (hn : z ∉ S.map (·.1)) (hk : 0 ≤ k ∧ k ≤ 2) : Near S (S.take 5 ++ [(z, k)]) := by
  refine ⟨h.of ?_ (fun q hq => ?_) ?_, fun e => hn ?_⟩
  · rw [List.length_append, List.length_take]
    show min 5 _ + 1 ≤ 6
    omega
  · rcases List.mem_append.mp hq with hq | hq
    · exact .inl (List.mem_of_mem_take hq)
    · rw [List.mem_singleton.mp hq]
      exact .inr ⟨hz, hk⟩
  · rw [List.map_append]
    have h1 : ((S.take 5).map (·.1)).Nodup := ((List.take_sublist 5 S).map _).nodup h.nd
    have := nodup_mid (A := (S.take 5).map (·.1)) (B := []) (by rw [List.append_nil]; exact h1) (mem_take_names hn) (by simp)
    rw [List.append_nil] at this
    exact this
  · have : (z, k) ∈ S.take 5 ++ [(z, k)] := List.mem_append_right _ (List.mem_singleton.mpr rfl)
    rw [e] at this
    exact List.mem_map_of_mem (f := (·.1)) this
theorem bent_set {S : List Sg} {j : Nat} {q : Sg} (hj : j < S.length) : bent S j q = S.set j q := by
  rw [List.set_eq_take_append_cons_drop, if_pos hj]
  unfold bent
  rw [List.append_assoc]
  rfl
theorem near_kids {S : List Sg} {j : Nat} (h : Good0 S) (hj : j < S.length) : Near S (bent S j (S[j].1, (S[j].2 + 1) % 3)) := by
  have hk := h.kids S[j] (List.getElem_mem hj)
  rw [bent_set hj]
  have em : (S.set j (S[j].1, (S[j].2 + 1) % 3)).map (·.1) = S.map (·.1) := by
    rw [List.map_set]
    have := List.set_getElem_self (as := S.map (·.1)) (i := j) (by rw [List.length_map]; exact hj)
    rw [List.getElem_map] at this
    exact this
  refine ⟨h.of (by rw [List.length_set]; exact h.len) (fun q hq => ?_) (by rw [em]; exact h.nd), fun e => ?_⟩
  · rcases List.mem_or_eq_of_mem_set hq with hq | rfl
    · exact .inl hq
    · exact .inr ⟨h.name S[j] (List.getElem_mem hj), by show 0 ≤ (S[j].2 + 1) % 3; omega, by show (S[j].2 + 1) % 3 ≤ 2; omega⟩
  · have h1 : (S.set j (S[j].1, (S[j].2 + 1) % 3))[j]? = S[j]? := by rw [e]
    rw [List.getElem?_set_self hj, List.getElem?_eq_getElem hj] at h1
    injection h1 with h1
    have h2 : (S[j].2 + 1) % 3 = S[j].2 := congrArg Prod.snd h1
    omega
theorem near_turn {S : List Sg} (h : Good0 S) (hl : 1 < S.length) : Near S (S.drop 1 ++ S.take 1) := by
  match S, hl, h with
  | a :: c :: R, hl, h =>
    show Near _ (c :: R ++ [a])
    have nd := h.nd
    refine ⟨h.of ?_ (fun q hq => ?_) ?_, fun e => ?_⟩
    · have := h.len
      rw [List.length_append]
      exact this
    · refine .inl ?_
      rcases List.mem_append.mp hq with hq | hq
      · exact List.mem_cons_of_mem _ hq
      · rw [List.mem_singleton.mp hq]
        exact List.mem_cons_self
    · rw [List.map_append]
      rw [List.map_cons] at nd
      obtain ⟨n1, n2⟩ := List.nodup_cons.mp nd
      have := nodup_mid (A := (c :: R).map (·.1)) (B := []) (z := a.1) (by rw [List.append_nil]; exact n2) n1 (by simp)
      rw [List.append_nil] at this
      exact this
    · have e1 : c = a := by
        have := congrArg List.head? e
        simpa using this
      rw [e1] at nd
      simp at nd
theorem near_less {S : List Sg} {j : Nat} (h : Good0 S) (hj : j < S.length) : Near S (S.take j ++ S.drop (j + 1)) := by
  have hlen : (S.take j ++ S.drop (j + 1)).length + 1 = S.length := by
    rw [List.length_append, List.length_take, List.length_drop]
    omega
  refine ⟨h.of (by have := h.len; omega) (fun q hq => ?_) ?_, fun e => ?_⟩
  · rcases List.mem_append.mp hq with hq | hq
    · exact .inl (List.mem_of_mem_take hq)
    · exact .inl (List.mem_of_mem_drop hq)
  · rw [List.map_append]
    exact out_nd h.nd
  · rw [e] at hlen
    omega
section
variable {K : PySem.W.Frag} {M : Addr → Prop} {B : List Sg → Prop} {n : Nat} {H H0 H' : Hp} {σ : L2.St} {te : TE} {P : PyData → Prop} {D : Ends} {tz : TS} {i : Nat} {l : Addr}
/-- found[j] = .. -/
theorem s_setFound {j : Nat} (h0 : H0 l = none) (e0 : Ex H0 H) (f : FoundAt K M B n H l) (hs : σ[i]? = some (some (.ref l))) (hj : ∃ (ls : List (List Sg)) (xs : List V), H l = some (.lst xs) ∧ Dts K (more M l) H xs (ls.map lD) ∧ (∀ T ∈ ls, B T) ∧ ls.length ≤ n ∧ j < ls.length)
    (h : EvP K (more M l) te σ H (fun d => ∃ T, d = lD T ∧ B T)) (k : ∀ H2, Ex H0 H2 → FoundAt K M B n H2 l → D.nx σ H2) : tAsg te (gSub (tVar i) (tC (.int (j : Int))) rSetL) D σ H := by
  obtain ⟨ls, xs, h1, h2, h3, h4, h5⟩ := hj
  refine h.use fun v d H1 e dv hd => ?_
  obtain ⟨T, rfl, hT⟩ := hd
  refine ⟨_, hs, l, xs, j, j, rfl, rfl, e _ _ h1, ixN_nat (by rw [h2.length, List.length_map]; exact h5), k _ (Ex.mut (e0.trans e) h0) ⟨ls.set j T, xs.set j v, upd_same, ?_, fun U hU => ?_, by rw [List.length_set]; exact h4⟩⟩
  · rw [List.map_set]
    exact ((h2.ex e).set j dv).upd (e _ _ h1) (.inr rfl)
  · rcases List.mem_or_eq_of_mem_set hU with hU | rfl
    · exact h3 U hU
    · exact hT
/-- the same, all of it told: exactly the lists -/
theorem q_newFoundE {t : TA} (h : EvPA K M t σ H (fun ds => ∃ ls : List (List Sg), ds = ls.map lD ∧ (∀ T ∈ ls, B T) ∧ ls.length = n)) (hn : n ≤ 1000)
    (k : ∀ l H0, Ex H H0 → H0 l = none → ∀ H2, Ex H0 H2 → (∃ (ls : List (List Sg)) (xs : List V), H2 l = some (.lst xs) ∧ Dts K (more M l) H2 xs (ls.map lD) ∧ (∀ T ∈ ls, B T) ∧ ls.length = n) → tz D (σ.set i (some (.ref l))) H2) : tSeq (tAsg (tLst t) (gName i)) tz D σ H := by
  refine h.use fun vs ds H1 e dv hd => ?_
  obtain ⟨ls, rfl, h1, h2⟩ := hd
  refine ⟨by rw [dv.length, List.length_map, h2]; exact Nat.le_trans hn (by decide), fun p hp => ?_⟩
  exact k p H1 e hp _ (Ex.new hp) ⟨ls, vs, upd_same, (dv.more hp).ex (Ex.new hp), h1, h2⟩
end
end TH
set_option maxRecDepth 100000
set_option maxHeartbeats 4000000
namespace TH
open PySem L2 Evl
abbrev sOthers : Stmt := top 31
def spOthers (K : PySem.W.Frag) : Sp := fun vs H Q _ => ∃ (M : Addr → Prop) (b : Addr) (v : V) (S : List Sg), vs = [.ref b, v] ∧ Ok M H ∧ H b = some (Box b) ∧ Dt K M H v (.list (S.map sgD)) ∧ Good S ∧
  ∀ (u : V) (ls : List (List Sg)) (H' : Hp), Ex H H' → Dt K M H' u (.list (ls.map lD)) → (∀ T ∈ ls, Good T ∧ T ≠ S) → ls.length ≤ 100 → Q u H'
section
variable {P : Program} {w : World} {K : PySem.W.Frag} {mg : Str → Option Value} {base : Heap}
abbrev nOthers : List Str := ["_law_box_here", "_law_signs_here", "_law_spot", "_law_name", "_law_kids", "_law_fresh", "_law_found", "_law_more_here", "_law_one", "_law_other", "_law_some", "_law_count"]
theorem scOthers : FnScope nOthers ["_law_box_here", "_law_signs_here"] (defScope sOthers) := ⟨rfl, rfl, rfl, by decide +kernel, rfl, by decide +kernel, by decide +kernel⟩
theorem ok_others {f fT : Addr} {fd fdT : FuncData} (F : Fun K "_law_others" "_law_others" sOthers f fd) (G : GlobT mg)
    (GT : FnOk P w K mg base CX0 2 fT fdT ["_law_box_here", "_law_count"] spTake) (FT : PySem.W.keepIn K (.ref fT) = true) (mT : mg "_law_take" = some (.ref fT)) (bT : Binds K fdT ["_law_box_here", "_law_count"] []) :
    FnOk P w K mg base CX0 3 f fd ["_law_box_here", "_law_signs_here"] (spOthers K) := by
  refine F.ok scOthers (fun vs H Q E h => ?_) (fun cdv A outer s H vs Q E hr h => ?_)
  · obtain ⟨M, b, v, S, rfl, _⟩ := h
    rfl
  · obtain ⟨M, b, v, S, rfl, ok, hb, dS, gS, q⟩ := h
    refine ⟨_, pss_cons (ps_set (i := 2) scOthers.nd rfl (.inl rfl) (pe_call GT hr rfl mT FT bT .nil pass0 (pa_cons (pv 0) (pa_cons (pe_callB call_len_seq (by rfl) G.len PySem.boot_len (pa_cons (pv 1) pa_nil)) pa_nil))))
      (pss_cons (ps_asg (pe_ix ix_list (pv 1) (pv 2) (fun _ _ => rfl)) (pg_tup rfl (pgs_cons (pg_name (i := 3) scOthers.nd rfl (.inl rfl)) (pgs_cons (pg_name (i := 4) scOthers.nd rfl (.inl rfl)) pgs_nil))))
      (pss_cons (ps_set (i := 5) scOthers.nd rfl (.inl rfl) (pe_lst (pa_cons pe_str (pa_cons pe_str (pa_cons pe_str (pa_cons pe_str (pa_cons pe_str (pa_cons pe_str (pa_cons pe_str pa_nil)))))))))
      (pss_cons (ps_set (i := 5) scOthers.nd rfl (.inl rfl) (pe_ix ix_list (pe_lc (own := [("_law_one", 8)]) (g := gName 8) rfl scOthers.nd (pi_list (pv 5))
            (blkOk_by (N := nOthers) (sc := defScope sOthers) (by decide +kernel)) (fun _ _ _ _ _ => pg_name (i := 8) scOthers.nd rfl (.inl rfl))
            (fun _ _ _ _ _ => pts_one (pt_cmpR (op_notIn_seqK (K := K) rfl) (pv 8) (pe_lc (own := [("_law_other", 9), ("_law_some", 10)]) (tt := tYes) rfl scOthers.nd (pi_listK (K := K) rfl (pv 1))
              (by exact blkOk_by (N := nOthers) (sc := { kind := .function, names := [(".0", .local), ("_law_one", .local), ("_law_signs_here", .cell)], isGenerator := false, isCoroutine := false }) (by decide +kernel))
              (fun _ _ _ _ _ => pg_tupK (K := K) (n := 2) rfl rfl (pgs_cons (pg_name (i := 9) scOthers.nd rfl (.inl rfl)) (pgs_cons (pg_name (i := 10) scOthers.nd rfl (.inl rfl)) pgs_nil))) (fun _ _ _ _ _ => pts_nil)
              (fun _ _ _ _ _ => pv 9)) (by rfl)))
            (fun _ _ _ _ _ => pv 8)) pe_int (fun _ _ => rfl)))
      (pss_cons (ps_set (i := 6) scOthers.nd rfl (.inl rfl) (pe_lst (pa_cons (pe_op op_cat (pe_op op_cat (pe_slice sl_list (pv 1) po_none (po_some (pv 2))) (pe_lst (pa_cons (pe_tup (pa_cons (pv 5) (pa_cons (pv 4) pa_nil))) pa_nil))) (pe_slice sl_list (pv 1) (po_some (pe_op op_add (pv 2) pe_int)) po_none))
            (pa_cons (pe_op op_cat (pe_slice sl_list (pv 1) po_none (po_some pe_int)) (pe_lst (pa_cons (pe_tup (pa_cons (pv 5) (pa_cons pe_int pa_nil))) pa_nil))) pa_nil))))
      (pss_cut (ps_if (pt_cmpR op_eq (pe_callB call_len_seq (by rfl) G.len PySem.boot_len (pa_cons (pv 1) pa_nil)) pe_int (nomark _))
          (pss_one (ps_asg (pe_op op_cat (pe_slice sl_list (pv 1) po_none (po_some pe_int)) (pe_lst (pa_cons (pe_tup (pa_cons (pv 5) (pa_cons (pe_ix ix_tup (pe_ix ix_list (pv 1) pe_int (fun _ _ => rfl)) pe_int (fun _ _ => rfl)) pa_nil))) pa_nil))) (pg_sub (pv 6) pe_int set_list))) pss_nil)
      (pss_cons (ps_set (i := 7) scOthers.nd rfl (.inl rfl) (pe_op op_cat (pe_op op_cat (pe_slice sl_list (pv 1) po_none (po_some (pv 2))) (pe_lst (pa_cons (pe_tup (pa_cons (pv 3) (pa_cons (pe_op op_mod (pe_op op_add (pv 4) pe_int) pe_int) pa_nil))) pa_nil))) (pe_slice sl_list (pv 1) (po_some (pe_op op_add (pv 2) pe_int)) po_none)))
      (pss_cons (ps_expr (pe_bm PySem.F.plainAttrs_list PySem.F.slot_list_append PySem.F.type_list_append mt_append (pv 6) (pa_cons (pv 7) pa_nil)))
      (pss_cut (ps_if (pt_cmpR op_gt (pe_callB call_len_seq (by rfl) G.len PySem.boot_len (pa_cons (pv 1) pa_nil)) pe_int (nomark _))
          (pss_cons (ps_expr (pe_bm PySem.F.plainAttrs_list PySem.F.slot_list_append PySem.F.type_list_append mt_append (pv 6) (pa_cons (pe_op op_cat (pe_slice sl_list (pv 1) (po_some pe_int) po_none) (pe_slice sl_list (pv 1) po_none (po_some pe_int))) pa_nil)))
          (pss_one (ps_expr (pe_bm PySem.F.plainAttrs_list PySem.F.slot_list_append PySem.F.type_list_append mt_append (pv 6) (pa_cons (pe_op op_cat (pe_slice sl_list (pv 1) po_none (po_some (pv 2))) (pe_slice sl_list (pv 1) (po_some (pe_op op_add (pv 2) pe_int)) po_none)) pa_nil))))) pss_nil)
      (pss_one (ps_ret (pe_lc (own := [("_law_some", 10)]) (g := gName 10) rfl scOthers.nd (pi_list (pv 6))
            (blkOk_by (N := nOthers) (sc := defScope sOthers) (by decide +kernel)) (fun _ _ _ _ _ => pg_name (i := 10) scOthers.nd rfl (.inl rfl))
            (fun _ _ _ _ _ => pts_one (pt_cmpR (op_in_seqK (K := K) rfl) pe_int (pe_lc (own := [("_law_one", 8), ("_law_count", 11)]) (tt := tYes) rfl scOthers.nd (pi_listK (K := K) rfl (pv 10))
              (by exact blkOk_by (N := nOthers) (sc := { kind := .function, names := [(".0", .local), ("_law_some", .local)], isGenerator := false, isCoroutine := false }) (by decide +kernel))
              (fun _ _ _ _ _ => pg_tupK (K := K) (n := 2) rfl rfl (pgs_cons (pg_name (i := 8) scOthers.nd rfl (.inl rfl)) (pgs_cons (pg_name (i := 11) scOthers.nd rfl (.inl rfl)) pgs_nil))) (fun _ _ _ _ _ => pts_nil)
              (fun _ _ _ _ _ => pv 11)) (by rfl)))
            (fun _ _ _ _ _ => pv 10)))))))))))), ?_⟩
    have l6 := gS.len
    have g0 := gS.toGood0
    have hSl : (S.map sgD).length = S.length := List.length_map _
    -- spot
    refine q_asgP (K := K) (M := MF) (P := fun d => ∃ j : Nat, d = .int (j : Int) ∧ j < S.length) ?_ fun v1 d1 H1 e1 dv1 hd1 => ?_
    · refine (evp_take (n := ((S.map sgD).length : Int)) (ev_var rfl) hb (evd_lenL (eva_cons (evd_var rfl (dS.weak fun _ h => h.elim)) eva_nil)) (by rw [hSl]; have := gS.ne; omega) (by rw [hSl]; exact Nat.lt_of_le_of_lt (show ((S.length : Nat) : Int).natAbs ≤ 6 by omega) (by decide))).mono ?_
      rintro d ⟨k, rfl, k0, k1⟩
      obtain ⟨j, rfl⟩ := Int.eq_ofNat_of_zero_le k0
      exact ⟨j, rfl, by rw [hSl] at k1; omega⟩
    obtain ⟨j, rfl, hj⟩ := hd1
    cases dv1
    have hSj : S[j]? = some S[j] := List.getElem?_eq_getElem hj
    have nj := gS.name S[j] (List.getElem_mem hj)
    have kj := gS.kids S[j] (List.getElem_mem hj)
    have pS := dS.ex e1
    cases pS with
    | lst a1 a2 a3 =>
    rename_i a xs
    obtain ⟨x, hx, dx⟩ := a3.at (i := j) (d := sgD S[j]) (by rw [List.getElem?_map, hSj]; rfl)
    cases dx with
    | tup c1 c2 =>
    cases c2 with
    | cons r1 r2 =>
    cases r1
    cases r2 with
    | cons r3 r4 =>
    cases r3
    cases r4
    rename_i pj
    refine ⟨_, rfl, _, rfl, a, xs, _, .ref pj, rfl, rfl, sq_of a1, atI_nat hx, pj, _, rfl, c1, rfl, _, _, rfl, _, _, rfl, rfl, ?_⟩
    dsimp only
    have okH := ok.ex e1
    have hSz : (S.map sgD).length < sizeLine := by rw [hSl]; exact Nat.lt_of_le_of_lt l6 (by decide)
    -- seven names
    refine q_asgP (K := K) (M := M) (P := (· = .list (sevens.map PyData.str))) ?_ fun v2 d2 H2 e2 dv2 hd2 => ?_
    · exact (evd_lst okH (eva_cons evd_str (eva_cons evd_str (eva_cons evd_str (eva_cons evd_str (eva_cons evd_str (eva_cons evd_str (eva_cons evd_str eva_nil))))))) (by show 7 ≤ sizeLine; decide)).mono fun d h => h
    subst hd2
    have e02 := e1.trans e2
    have ok2 := ok.ex e02
    -- one that is not there
    obtain ⟨z, hz0, hzn, hzk⟩ := fresh_ex (ns := S.map (·.1)) (by rw [List.length_map]; exact l6)
    refine q_asgP (K := K) (M := M) (P := (· = .str z)) ?_ fun v3 d3 H3 e3 dv3 hd3 => ?_
    · refine evd_ixL (ds := (sevens.filter fun z => !decide (z ∈ S.map (·.1))).map PyData.str) (j := 0) ?_ evd_int rfl (by rw [List.getElem?_map, hz0]; rfl)
      refine (evd_lcL (fun d => match d with | .str z => !decide (z ∈ S.map (·.1)) | _ => false) (fun d => d) ok2 (evd_var rfl dv2) (by show 7 < sizeLine; decide) fun M' d x H' hm ok' hd e dx Qg qg => ?_).mono fun d h => ?_
      · obtain ⟨y, hy, rfl⟩ := List.mem_map.mp hd
        refine qg _ H' (Ex.refl _) ⟨rfl, evt_test (evd_notInS (evd_var rfl dx) ?_), fun _ => evd_var rfl dx⟩
        refine (evd_lcL (fun _ => true) (fun d => .str (sgU d).1) ok' (evd_var rfl ((hm _ _ (dS.ex e02)).ex (Ex.refl _))) hSz fun M2 d2 x2 H2' hm2 ok2' hd2 e2' dx2 Qg2 qg2 => ?_).mono fun d h => ?_
        · obtain ⟨p, hp, rfl⟩ := List.mem_map.mp hd2
          cases dx2 with
          | tup k1 k2 =>
          cases k2 with
          | cons r1 r2 =>
          cases r1
          cases r2 with
          | cons r3 r4 =>
          cases r4
          cases r3
          exact ⟨_, _, rfl, k1, rfl, _, _, rfl, _, _, rfl, rfl, qg2 _ H2' (Ex.refl _) ⟨rfl, evt_yes, fun _ => evd_var rfl (.str _)⟩⟩
        · rw [h, filter_yes, List.map_map, List.map_map]
          rfl
      · rw [h, List.map_id', List.filter_map]
        rfl
    subst hd3
    cases dv3
    have e03 := e02.trans e3
    have ok3 := ok.ex e03
    have c5 : cutG (S.map sgD) none (some (5 : Int)) = (S.take 5).map sgD := by
      rw [List.map_take]
      exact cutG_take (S.map sgD) 5
    have t5 : (S.take 5).length ≤ 6 := by rw [List.length_take]; omega
    have tail : ∀ {M' : Addr → Prop} {σ' : L2.St} {H' : Hp} {tk : TE} {k : Int}, Ok M' H' → σ'[1]? = some (some (.ref a)) → σ'[5]? = some (some (.str z)) → Dt K M' H' (.ref a) (.list (S.map sgD)) → EvD K M' tk σ' H' (.int k) →
        EvD K M' (tOp rCat (tSl (rSlL K) (tVar 1) tNoPart (tPart (tC (.int 5)))) (tLst (tCons (tTup (tCons (tVar 5) (tCons tk tNil))) tNil))) σ' H' (lD (S.take 5 ++ [(z, k)])) := by
      intro M' σ' H' tk k okm s1 s5 dm hk
      have a1 := evd_slL okm (evd_var s1 dm) evo_none (evo_some (evd_int (i := 5)))
      rw [c5] at a1
      have a2 := evd_lst (ds := [sgD (z, k)]) okm (eva_cons (evd_tup (ds := [.str z, .int k]) (eva_cons (evd_var s5 (.str z)) (eva_cons hk eva_nil)) (by show 2 ≤ sizeLine; decide)) eva_nil) (by show 1 ≤ sizeLine; decide)
      have a3 := evd_cat okm a1 a2 (by rw [List.length_map]; show _ + 1 ≤ sizeLine; exact Nat.le_trans (show _ ≤ 7 by omega) (by decide))
      unfold lD
      rw [List.map_append]
      exact a3
    -- found
    refine q_newFoundE (K := K) (M := M) (B := Near S) (n := 2) ?_ (by decide) fun l H4 e4 hl H5 e5 f5 => ?_
    · refine (eva_cons (evd_bent (q := (z, S[j].2)) ok3 (evd_var rfl (dS.ex e03)) (evd_var rfl (.int _)) (evd_tup (ds := [.str z, .int S[j].2]) (eva_cons (evd_var rfl (.str z)) (eva_cons (evd_var rfl (.int _)) eva_nil)) (by show 2 ≤ sizeLine; decide)) (by omega)) (eva_cons (tail ok3 rfl rfl (dS.ex e03) evd_int) eva_nil)).mono ?_
      rintro ds rfl
      refine ⟨[bent S j (z, S[j].2), S.take 5 ++ [(z, 0)]], rfl, fun T hT => ?_, rfl⟩
      rcases List.mem_cons.mp hT with rfl | hT
      · exact near_name g0 hj hzk hzn kj
      · rw [List.mem_singleton.mp hT]
        exact near_tail g0 hzk hzn ⟨by decide, by decide⟩
    have e04 := e03.trans e4
    have ok4 := ok.ex e04
    have hv : ∀ {H'}, Ex H4 H' → Dt K (more M l) H' (.ref a) (.list (S.map sgD)) := fun e => ((dS.ex e04).more hl).ex e
    have okm : ∀ {n H'}, Ex H4 H' → FoundAt K M (Near S) n H' l → Ok (more M l) H' := fun e f => f.ok ok4 e
    have f5' : FoundAt K M (Near S) 2 H5 l := by
      obtain ⟨ls, ys, g1, g2, g3, g4⟩ := f5
      exact ⟨ls, ys, g1, g2, g3, by omega⟩
    -- if there are six signs
    refine q_cut (M := fun σ' H' => σ' = [some (.ref b), some (.ref a), some (.int j), some (.str S[j].1), some (.int S[j].2), some (.str z), some (.ref l), none, none, none, none, none] ∧ Ex H4 H' ∧ FoundAt K M (Near S) 2 H' l) ?_ ?_
    · refine s_when (evt_test (K := K) (M := more M l) (evd_eqI (evd_lenL (eva_cons (evd_var rfl (hv e5)) eva_nil)) evd_int)) (fun c H6 e6 => ?_) (fun c H6 e6 => ⟨rfl, e5.trans e6, f5'.ex e6⟩)
      have c6 : S.length = 6 := by
        have := of_decide_eq_true c
        rw [hSl] at this
        omega
      have h5 : 5 < S.length := by omega
      have hS5 : S[5]? = some S[5] := List.getElem?_eq_getElem h5
      have e56 := e5.trans e6
      refine s_setFound (j := 1) (B := Near S) (n := 2) hl e56 (f5'.ex e6) rfl ?_ ?_ fun H7 e7 f7 => ⟨rfl, e7, f7⟩
      · obtain ⟨ls, ys, g1, g2, g3, g4⟩ := f5
        exact ⟨ls, ys, e6 _ _ g1, g2.ex e6, g3, by omega, by omega⟩
      · refine (tail (k := S[5].2) (okm e56 (f5'.ex e6)) rfl rfl (hv e56) (evd_ixT (ds := [.str S[5].1, .int S[5].2]) (j := 1) (evd_ixL (d := sgD S[5]) (j := 5) (evd_var rfl (hv e56)) evd_int rfl (by rw [List.getElem?_map, hS5]; rfl)) evd_int rfl rfl)).mono fun d h => ⟨_, h, near_tail g0 hzk hzn (gS.kids S[5] (List.getElem_mem h5))⟩
    rintro σ' H6 ⟨rfl, e6, f6⟩
    -- another number of kids
    refine q_asgP (K := K) (M := more M l) (P := (· = lD (bent S j (S[j].1, (S[j].2 + 1) % 3)))) ?_ fun v7 d7 H7 e7 dv7 hd7 => ?_
    · refine evd_bent (q := (S[j].1, (S[j].2 + 1) % 3)) (okm e6 f6) (evd_var rfl (hv e6)) (evd_var rfl (.int _)) (evd_tup (ds := [.str S[j].1, .int ((S[j].2 + 1) % 3)]) (eva_cons (evd_var rfl (.str _)) (eva_cons ?_ eva_nil)) (by show 2 ≤ sizeLine; decide)) (by omega)
      exact evp_I (evd_add (evd_var rfl (.int S[j].2)) (evd_int (i := 1))) (evd_int (i := 3)) fun a b pa pb => ⟨S[j].2 + 1, 3, pa, pb, by decide, _, rfl, fun _ => .int _⟩
    subst hd7
    have e67 := e6.trans e7
    refine q_found hl e67 (f6.ex e7) rfl ((evd_var rfl dv7).mono fun d h => ⟨_, h, near_kids g0 hj⟩) (by decide) fun H8 e8 f8 => ?_
    -- turned, one less
    refine q_cut (M := fun σ' H' => σ' = [some (.ref b), some (.ref a), some (.int j), some (.str S[j].1), some (.int S[j].2), some (.str z), some (.ref l), some v7, none, none, none, none] ∧ Ex H4 H' ∧ FoundAt K M (Near S) 5 H' l) ?_ ?_
    · refine s_when (evt_test (K := K) (M := more M l) (evd_cmp (g := fun i j => decide (j < i)) (evd_lenL (eva_cons (evd_var rfl (hv e8)) eva_nil)) evd_int)) (fun c H9 e9 => ?_) (fun c H9 e9 => ?_)
      · have c1 : 1 < S.length := by
          have := of_decide_eq_true c
          rw [hSl] at this
          omega
        have e89 := e8.trans e9
        have k1 : cutG (S.map sgD) (some (1 : Int)) none = (S.drop 1).map sgD := by rw [List.map_drop]; exact cutG_drop (S.map sgD) 1
        have k2 : cutG (S.map sgD) none (some (1 : Int)) = (S.take 1).map sgD := by rw [List.map_take]; exact cutG_take (S.map sgD) 1
        have k3 : cutG (S.map sgD) none (some (j : Int)) = (S.take j).map sgD := by rw [List.map_take]; exact cutG_take (S.map sgD) j
        have k4 : cutG (S.map sgD) (some ((j : Int) + 1)) none = (S.drop (j + 1)).map sgD := by rw [List.map_drop]; exact cutG_drop (S.map sgD) (j + 1)
        have tt : ∀ n : Nat, (S.take n).length ≤ 6 ∧ (S.drop n).length ≤ 6 := fun n => ⟨by rw [List.length_take]; omega, by rw [List.length_drop]; omega⟩
        refine q_found hl e89 (f8.ex e9) rfl ?_ (by decide) fun H10 e10 f10 => ?_
        · have okx := okm e89 (f8.ex e9)
          refine (evd_cat okx (evd_slL okx (evd_var rfl (hv e89)) (evo_some (evd_int (i := 1))) evo_none) (evd_slL okx (evd_var rfl (hv e89)) evo_none (evo_some (evd_int (i := 1)))) ?_).mono fun d h => ⟨S.drop 1 ++ S.take 1, ?_, near_turn g0 c1⟩
          · rw [k1, k2, List.length_map, List.length_map]
            exact Nat.le_trans (show _ ≤ 12 by have := tt 1; omega) (by decide)
          · rw [h, k1, k2, ← List.map_append]
            rfl
        · refine s_found hl e10 f10 rfl ?_ (by decide) fun H11 e11 f11 => ⟨rfl, e11, f11⟩
          have okx := okm e10 f10
          refine (evd_cat okx (evd_slL okx (evd_var rfl (hv e10)) evo_none (evo_some (evd_var rfl (.int _)))) (evd_slL okx (evd_var rfl (hv e10)) (evo_some (evd_add (evd_var rfl (.int _)) (evd_int (i := 1)))) evo_none) ?_).mono fun d h => ⟨S.take j ++ S.drop (j + 1), ?_, near_less g0 hj⟩
          · rw [k3, k4, List.length_map, List.length_map]
            exact Nat.le_trans (show _ ≤ 12 by have := tt j; have := tt (j + 1); omega) (by decide)
          · rw [h, k3, k4, ← List.map_append]
            rfl
      · obtain ⟨ls, ys, g1, g2, g3, g4⟩ := f8.ex e9
        exact ⟨rfl, e8.trans e9, ls, ys, g1, g2, g3, by omega⟩
    rintro σ' H9 ⟨rfl, e9, ls, ys, g1, g2, g3, g4⟩
    have e09 := e04.trans e9
    have ok9 := ok.ex e09
    have hfound : Dt K M H9 (.ref l) (.list (ls.map lD)) := .lst g1 (ok4.new hl) (g2.weak more_sub)
    refine s_retP (K := K) (M := M) (evd_lcL (fun d => match d with | .list es => decide ((0 : Int) ∈ (es.map sgU).map (·.2)) | _ => false) (fun d => d) ok9 (evd_var rfl hfound) (by rw [List.length_map]; exact Nat.lt_of_le_of_lt g4 (by decide)) fun M' d x H' hm ok' hd e dx Qg qg => ?_) fun v d H10 e10 dv hd => ?_
    · obtain ⟨T, hT, rfl⟩ := List.mem_map.mp hd
      have nT := g3 T hT
      refine qg _ H' (Ex.refl _) ⟨rfl, evt_test (K := K) (M := M') ((evd_inI (ys := T.map (·.2)) evd_int ?_).mono fun d h => ?_), fun _ => evd_var rfl dx⟩
      · refine (evd_lcL (fun _ => true) (fun d => .int (sgU d).2) ok' (evd_var rfl dx) (by rw [List.length_map]; exact Nat.lt_of_le_of_lt nT.1.len (by decide)) fun M2 d2 x2 H2' hm2 ok2' hd2 e2' dx2 Qg2 qg2 => ?_).mono fun d h => ?_
        · obtain ⟨p, hp, rfl⟩ := List.mem_map.mp hd2
          cases dx2 with
          | tup k1 k2 =>
          cases k2 with
          | cons r1 r2 =>
          cases r1
          cases r2 with
          | cons r3 r4 =>
          cases r4
          cases r3
          refine ⟨_, _, rfl, k1, rfl, _, _, rfl, _, _, rfl, rfl, qg2 _ H2' (Ex.refl _) ⟨rfl, evt_yes, fun _ => evd_var rfl (.int _)⟩⟩
        · rw [h, filter_yes, List.map_map, List.map_map]
          rfl
      · rw [h]
        show _ = PyData.bool (decide ((0 : Int) ∈ ((T.map sgD).map sgU).map (·.2)))
        rw [sgU_map]
    · subst hd
      refine q v (ls.filter fun T => decide ((0 : Int) ∈ T.map (·.2))) H10 (e09.trans e10) ?_ (fun T hT => ?_) (Nat.le_trans (List.length_filter_le _ _) (by omega))
      · have e1 : ((ls.map lD).filter fun d => match d with | .list es => decide ((0 : Int) ∈ (es.map sgU).map (·.2)) | _ => false).map (fun d => d) = (ls.filter fun T => decide ((0 : Int) ∈ T.map (·.2))).map lD := by
          rw [List.map_id', List.filter_map]
          congr 1
          refine List.filter_congr fun T _ => ?_
          show decide ((0 : Int) ∈ ((T.map sgD).map sgU).map (·.2)) = _
          rw [sgU_map]
        rw [e1] at dv
        exact dv
      · obtain ⟨h1, h2⟩ := List.mem_filter.mp hT
        have h3 : (0 : Int) ∈ T.map (·.2) := of_decide_eq_true h2
        obtain ⟨p, hp, hp0⟩ := List.mem_map.mp h3
        exact ⟨⟨(g3 T h1).1, List.length_pos_of_mem hp, p, hp, hp0⟩, (g3 T h1).2⟩
end
end TH
set_option maxRecDepth 100000
set_option maxHeartbeats 4000000
namespace TH
open PySem L2 Evl
section
variable {X : Cx} {K : PySem.W.Frag}
/-- isinstance(e, c) in a suite, whatever is held there -/
def rIsE2 (K : PySem.W.Frag) (cls : Value) (d : Option Addr) (a : Addr) : List V → Hp → VK → Prop := fun xs H Q => ∃ D : Addr, cls = .ref D ∧ d = none ∧ ExcC K D ∧ rIsE K D a xs H Q
theorem call_isE2 {a : Addr} {cls : Value} {d : Option Addr} {oe : Obj} {pn : List (Addr × Obj)} (hK : X.K = K) (hz : Zc cls d oe) (hf : ∃ vs, oe.data = .fields vs) : CallR (X.suite a ((a, oe) :: pn)) (.builtin "isinstance") (rIsE2 K cls d a) := by
  intro pins s σ H xs us Q I r h
  obtain ⟨D, rfl, rfl, hC, h⟩ := h
  subst hK
  exact call_isE hC hz hf pins s σ H xs us Q I r h
theorem pe_bmK {o e : Expr} {es : List Expr} {to : TE} {t : TA} {name : Str} {apos cpos : Pos} {T id : String} {r : V → List V → Hp → VK → Prop} (hK : X.K = K) (pa : PySem.PlainAttrs T) (slot : PySem.Slot T name id) (hty : typeOf (.builtin id) = pure (.type "method_descriptor")) (hm : MtR X id r) (ho : PE X o to) (ha : PA X (e :: es) t)
    (hbase : attributeBase o name X.env (eval o X.env) = eval o X.env := by rfl)
    (hfew : ((backTo cpos (starEach (e :: es) X.env)).all (fun x => !x.1) && (backToKw cpos (keywordEach [] X.env)).all (fun x => x.1.isSome) && decide ((e :: es).length + ([] : List Keyword).length + (if ([] : List Keyword).isEmpty then 0 else 1) < 30)) = true := by rfl)
    (hline : (apos.endLine == cpos.line) = true := by rfl) (hs : starEach (e :: es) X.env = (false, eval e X.env) :: starEach es X.env := by rfl) (hpl : (backTo cpos (starEach es X.env)).any (·.1) = false := by rfl) :
    PE X (.Call (.Attribute o name apos) (e :: es) [] cpos) (tBM K T r to t) := by
  subst hK
  exact pe_bm pa slot hty hm ho ha hbase hfew hline hs hpl
theorem mt_indexK (hK : X.K = K) : MtR X "list.index" (rIndex K) := by
  subst hK
  exact mt_index
/-- xs.count(b), truth values -/
def eqb (k : Bool) (v : Value) : Bool := match v with
  | .bool b => b == k
  | _ => false
theorem bools_of_vals : ∀ {bs : List Bool} {us : List Value}, Vals (bs.map V.bl) us → us = bs.map Value.bool
  | [], _, r => by cases r; rfl
  | b :: bs, _, r => by
    cases r with
    | cons r1 r2 =>
      cases r1
      rw [bools_of_vals r2]
      rfl
theorem eqb_count (k : Bool) : ∀ bs : List Bool, (bs.map Value.bool).countP (eqb k) = bs.count k
  | [] => rfl
  | b :: bs => by
    rw [List.map_cons, List.countP_cons, List.count_cons, eqb_count k bs]
    rfl
def rCntB (K : PySem.W.Frag) : V → List V → Hp → VK → Prop := fun x xs H Q => ∃ (p : Addr) (bs : List Bool) (k : Bool), x = .ref p ∧ xs = [.bl k] ∧ SqL K H p (bs.map V.bl) ∧ Q (.int (bs.count k : Nat)) H
theorem mt_countB (hK : X.K = K) : MtR X "list.count" (rCntB K) := by
  subst hK
  intro pins s σ H x xs v us Q I rx rxs h
  obtain ⟨p, bs, k, rfl, rfl, hs, q⟩ := h
  cases rx
  cases rxs with
  | cons ru rn =>
  cases rn
  cases ru
  obtain ⟨its, rv, ⟨⟨cls, dd, data, sl⟩, n, ho, hc, hdn, hd⟩, hlen⟩ := I.list hs
  dsimp only at hc hd
  subst hc hd
  have hi := bools_of_vals rv
  refine PySem.call_meets PySem.F.slot_list_count ⟨_, ho, rfl⟩ PySem.F.entry_list_count (PySem.F.args_list_count_2 _ _) (SeqAt.list_countAt p its.toArray n dd sl (.bool k) (eqb k)) ⟨ho, fun y hy => ?_, ?_⟩
  · have hy : y ∈ its := by simpa using hy
    rw [hi] at hy
    obtain ⟨b, _, rfl⟩ := List.mem_map.mp hy
    exact SeqAt.EqAt.bool_bool b k
  · have ec : its.toArray.toList.countP (eqb k) = bs.count k := by
      show its.countP (eqb k) = _
      rw [hi, eqb_count]
    refine ⟨.int (bs.count k : Nat), H, I.tok _, ⟨s.toks, ?_⟩, q⟩
    rw [ec]
end
end TH
set_option maxRecDepth 100000
set_option maxHeartbeats 4000000
namespace TH
open PySem L2 Evl LamX
abbrev sKind : Stmt := top 28
structure KindG (mg : Str → Option Value) (CH : Addr) (Cs : Nat → Addr) : Prop where
  g : mg "HandError" = some (.ref CH)
  c0 : mg "NoBook" = some (.ref (Cs 0))
  c1 : mg "NoTree" = some (.ref (Cs 1))
  c2 : mg "NoPlace" = some (.ref (Cs 2))
  c3 : mg "NoReader" = some (.ref (Cs 3))
  c4 : mg "Unlike" = some (.ref (Cs 4))
  c5 : mg "TooGreat" = some (.ref (Cs 5))
  c6 : mg "NoGuesser" = some (.ref (Cs 6))
  c7 : mg "NoPattern" = some (.ref (Cs 7))
  c8 : mg "NoNumber" = some (.ref (Cs 8))
  c9 : mg "NoTurner" = some (.ref (Cs 9))
  c10 : mg "NoText" = some (.ref (Cs 10))
  c11 : mg "NoLine" = some (.ref (Cs 11))
  c12 : mg "NoName" = some (.ref (Cs 12))
  c13 : mg "Nothing" = some (.ref (Cs 13))
  ve : mg "ValueError" = none
  isi : mg "isinstance" = none
/-- the refusal of the class at D is the j-th kind, and no other one -/
structure KindT (K : PySem.W.Frag) (CH : Addr) (Cs : Nat → Addr) (D : Addr) (j : Nat) : Prop where
  ex : PySem.W.exmOne K (.ref D) (.ref CH) = some true
  cls : ExcC K D
  val : PySem.W.kitOne K (.ref D) (.type "ValueError") = some true
  lt : j < 14
  kit : ∀ i, i < 14 → PySem.W.kitOne K (.ref D) (.ref (Cs i)) = some (decide (i = j))
def words : List Str := ["book", "tree", "place", "reader", "unlike", "great", "guesser", "pattern", "number", "turner", "text", "line", "name", "nothing"]
def word (j : Nat) : Str := words.getD j Str.empty
/-- what _law_kind makes of a call -/
def TKind (K : PySem.W.Frag) (CH : Addr) (Cs : Nat → Addr) : (XK → Hp → VK → Prop) → Hp → VK → Prop := fun tl H Q =>
  tl (fun cls d H' => d = none ∧ ∃ D j, cls = .ref D ∧ KindT K CH Cs D j ∧ ∀ H'', Ex H' H'' → Q (.str (word j)) H'') H fun _ H' => Q (.str "told") H'
abbrev nKind : List Str := ["_law_call", "e", "_law_some", "_law_words"]
theorem scKind : FnScope nKind ["_law_call"] (defScope sKind) := ⟨rfl, rfl, rfl, by decide +kernel, rfl, by decide +kernel, by decide +kernel⟩
theorem count_one (j : Nat) (h : j < 14) : ((List.range 14).map fun i => decide (i = j)).count true = 1 := by
  have : ∀ j : _root_.Fin 14, ((List.range 14).map fun i => decide (i = j.val)).count true = 1 := by decide
  exact this ⟨j, h⟩
section
variable {K : PySem.W.Frag} {M : Addr → Prop} {H : Hp} {σ : L2.St}
theorem evd_isE {cls : Value} {d : Option Addr} {a D : Addr} {c : V} {cv : Value} {b : Bool} {i : Nat} (hs : σ[i]? = some (some (.ref a))) (h1 : cls = .ref D) (h2 : d = none) (hC : ExcC K D) (hc : ∀ u, RelV c u → u = cv) (hk : PySem.W.kitOne K (.ref D) cv = some b) :
    EvD K M (tCB (rIsE2 K cls d a) (tCons (tVar i) (tCons (tC c) tNil))) σ H (.bool b) := fun H1 e Q q =>
  ⟨_, hs, D, h1, h2, hC, c, cv, b, rfl, hc, hk, q _ _ H1 (Ex.refl _) (.bl _) rfl⟩
end
section
variable {X : Cx} {CH : Addr} {Cs : Nat → Addr}
theorem takes_len {X : Cx} {W : WX} (tk : Takes X W) : Takes X (fun cls d σ H => σ.length = X.N.length → W cls d σ H) := fun u s' ⟨a, B, sI, pins, σ, H, cls, d, e, I, nb, up, sky, na, os, ag, w⟩ =>
  tk u s' ⟨a, B, sI, pins, σ, H, cls, d, e, I, nb, up, sky, na, os, ag, w I.len⟩
/-- the suite's reading -/
theorem kind_gives {g : Addr} {cdg : Value} {q : Str} (G : KindG X.mg CH Cs) : GivesTo X nKind "_law_kind" (defScope sKind) g cdg (defBody sKind) "_law_call" q (TKind X.K CH Cs) := by
  intro f c' s H Q tl act hc h
  have hgl : Gl (cxOf C8.CX0 X.prog X.w X.K X.mg X.base nKind "_law_kind" (defScope sKind) g cdg X.A X.stack s H C8.E0).nox "HandError" := rfl
  refine ⟨_, pss_cons (ps_try_as (X := (cxOf C8.CX0 X.prog X.w X.K X.mg X.base nKind "_law_kind" (defScope sKind) g cdg X.A X.stack s H C8.E0).nox) (i := 1) (c := .ref CH)
      (tb := fun W D σ H => ∃ Ech : XK, (∀ cls d σ' H', Ech cls d H' → σ'.length = 4 → W cls d σ' H') ∧ σ[0]? = some (some (.ref f)) ∧ H c' = some (CodeO c' q) ∧ tl Ech H fun _ H' => D.nx σ H')
      (Wout := fun _ _ _ _ => False) rfl rfl scKind.nd rfl rfl ⟨hgl, by decide, .inl G.g⟩ L2.takes0 (fun W pn xe tk _ => ?_)
      (fun a oe cls d pn hz hf => pss_cons (ps_set (i := 2) scKind.nd rfl (.inl rfl) (pe_lst
            (pa_cons (pe_callB (call_isE2 (K := X.K) rfl hz hf) (by rfl) G.isi (by decide +kernel) (pa_cons (pv 1) (pa_cons (pe_glob rfl G.c0 (show RelV (.ref (Cs 0)) _ from rfl)) pa_nil)))
            (pa_cons (pe_callB (call_isE2 (K := X.K) rfl hz hf) (by rfl) G.isi (by decide +kernel) (pa_cons (pv 1) (pa_cons (pe_glob rfl G.c1 (show RelV (.ref (Cs 1)) _ from rfl)) pa_nil)))
            (pa_cons (pe_callB (call_isE2 (K := X.K) rfl hz hf) (by rfl) G.isi (by decide +kernel) (pa_cons (pv 1) (pa_cons (pe_glob rfl G.c2 (show RelV (.ref (Cs 2)) _ from rfl)) pa_nil)))
            (pa_cons (pe_callB (call_isE2 (K := X.K) rfl hz hf) (by rfl) G.isi (by decide +kernel) (pa_cons (pv 1) (pa_cons (pe_glob rfl G.c3 (show RelV (.ref (Cs 3)) _ from rfl)) pa_nil))) pa_nil))))))
        (pss_cons (ps_set (i := 2) scKind.nd rfl (.inl rfl) (pe_op op_cat (pv 2) (pe_lst
            (pa_cons (pe_callB (call_isE2 (K := X.K) rfl hz hf) (by rfl) G.isi (by decide +kernel) (pa_cons (pv 1) (pa_cons (pe_glob rfl G.c4 (show RelV (.ref (Cs 4)) _ from rfl)) pa_nil)))
            (pa_cons (pe_callB (call_isE2 (K := X.K) rfl hz hf) (by rfl) G.isi (by decide +kernel) (pa_cons (pv 1) (pa_cons (pe_glob rfl G.c5 (show RelV (.ref (Cs 5)) _ from rfl)) pa_nil)))
            (pa_cons (pe_callB (call_isE2 (K := X.K) rfl hz hf) (by rfl) G.isi (by decide +kernel) (pa_cons (pv 1) (pa_cons (pe_glob rfl G.c6 (show RelV (.ref (Cs 6)) _ from rfl)) pa_nil))) pa_nil))))))
        (pss_cons (ps_set (i := 2) scKind.nd rfl (.inl rfl) (pe_op op_cat (pv 2) (pe_lst
            (pa_cons (pe_callB (call_isE2 (K := X.K) rfl hz hf) (by rfl) G.isi (by decide +kernel) (pa_cons (pv 1) (pa_cons (pe_glob rfl G.c7 (show RelV (.ref (Cs 7)) _ from rfl)) pa_nil)))
            (pa_cons (pe_callB (call_isE2 (K := X.K) rfl hz hf) (by rfl) G.isi (by decide +kernel) (pa_cons (pv 1) (pa_cons (pe_glob rfl G.c8 (show RelV (.ref (Cs 8)) _ from rfl)) pa_nil)))
            (pa_cons (pe_callB (call_isE2 (K := X.K) rfl hz hf) (by rfl) G.isi (by decide +kernel) (pa_cons (pv 1) (pa_cons (pe_glob rfl G.c9 (show RelV (.ref (Cs 9)) _ from rfl)) pa_nil))) pa_nil))))))
        (pss_cons (ps_set (i := 2) scKind.nd rfl (.inl rfl) (pe_op op_cat (pv 2) (pe_lst
            (pa_cons (pe_callB (call_isE2 (K := X.K) rfl hz hf) (by rfl) G.isi (by decide +kernel) (pa_cons (pv 1) (pa_cons (pe_glob rfl G.c10 (show RelV (.ref (Cs 10)) _ from rfl)) pa_nil)))
            (pa_cons (pe_callB (call_isE2 (K := X.K) rfl hz hf) (by rfl) G.isi (by decide +kernel) (pa_cons (pv 1) (pa_cons (pe_glob rfl G.c11 (show RelV (.ref (Cs 11)) _ from rfl)) pa_nil)))
            (pa_cons (pe_callB (call_isE2 (K := X.K) rfl hz hf) (by rfl) G.isi (by decide +kernel) (pa_cons (pv 1) (pa_cons (pe_glob rfl G.c12 (show RelV (.ref (Cs 12)) _ from rfl)) pa_nil)))
            (pa_cons (pe_callB (call_isE2 (K := X.K) rfl hz hf) (by rfl) G.isi (by decide +kernel) (pa_cons (pv 1) (pa_cons (pe_glob rfl G.c13 (show RelV (.ref (Cs 13)) _ from rfl)) pa_nil))) pa_nil)))))))
        (pss_cons (ps_if (PW.pt (pw_or (pt_not (pt_val (pe_callB (call_isE2 (K := X.K) rfl hz hf) (by rfl) G.isi (by decide +kernel) (pa_cons (pv 1) (pa_cons (pe_bltn (v := .ty "ValueError") (by rfl) G.ve (by decide +kernel) rfl) pa_nil)))))
            (pw_or1 (pt_cmpR op_ne (pe_bmK (K := X.K) rfl PySem.F.plainAttrs_list PySem.F.slot_list_count PySem.F.type_list_count (mt_countB rfl) (pv 2) (pa_cons pe_bl pa_nil)) pe_int (nomark _))))) (pss_one (ps_ret pe_str)) pss_nil)
        (pss_cons (ps_set (i := 3) scKind.nd rfl (.inl rfl) (pe_lst (pa_cons pe_str (pa_cons pe_str (pa_cons pe_str (pa_cons pe_str (pa_cons pe_str (pa_cons pe_str (pa_cons pe_str (pa_cons pe_str (pa_cons pe_str (pa_cons pe_str pa_nil))))))))))))
        (pss_one (ps_ret (pe_ix (ix_listK (K := X.K) rfl) (pe_op op_cat (pv 3) (pe_lst (pa_cons pe_str (pa_cons pe_str (pa_cons pe_str (pa_cons pe_str pa_nil))))))
            (pe_bmK (K := X.K) rfl PySem.F.plainAttrs_list PySem.F.slot_list_index PySem.F.type_list_index (mt_indexK rfl) (pv 2) (pa_cons pe_bl pa_nil)) (fun _ _ => rfl)))))))))))
    (pss_one (ps_ret pe_str)), ?_⟩
  · refine ⟨fun pins s' σ H' D I h' => ?_⟩
    obtain ⟨Ech, hW, h1, h2, h3⟩ := h'
    exact (pss_one (ps_expr (act _ pn xe Ech _ _ (takes_len tk) hW))).run pins s' σ H' D I ⟨h1, h2, h3⟩
  · refine ⟨fun cls d H' => d = none ∧ ∃ D j, cls = .ref D ∧ KindT X.K CH Cs D j ∧ ∀ H'', Ex H' H'' → Q (.str (word j)) H'', fun cls d σ' H' he hl => ?_, rfl, hc, h⟩
    obtain ⟨hd, D, j, hcls, KT, k⟩ := he
    refine ⟨true, by rw [hcls]; exact KT.ex, fun _ a ha => ?_, fun z => nomatch z⟩
    match σ', hl with
    | [x0, x1, x2, x3], _ =>
    have kit : ∀ i, i < 14 → ∀ {M : Addr → Prop} {H : Hp} {σ : L2.St}, σ[1]? = some (some (.ref a)) → EvD X.K M (tCB (rIsE2 X.K cls d a) (tCons (tVar 1) (tCons (tC (.ref (Cs i))) tNil))) σ H (.bool (decide (i = j))) :=
      fun i hi M H σ hs => evd_isE hs hcls hd KT.cls (fun u r => r) (KT.kit i hi)
    refine q_asgP (K := X.K) (M := MF) (evd_lst okF (eva_cons (kit 0 (by decide) rfl) (eva_cons (kit 1 (by decide) rfl) (eva_cons (kit 2 (by decide) rfl) (eva_cons (kit 3 (by decide) rfl) eva_nil)))) (by show 4 ≤ sizeLine; decide)) fun v1 d1 H1 e1 dv1 hd1 => ?_
    subst hd1
    refine q_asgP (K := X.K) (M := MF) (evd_cat okF (evd_var rfl dv1) (evd_lst okF (eva_cons (kit 4 (by decide) rfl) (eva_cons (kit 5 (by decide) rfl) (eva_cons (kit 6 (by decide) rfl) eva_nil))) (by show 3 ≤ sizeLine; decide)) (by show 4 + 3 ≤ sizeLine; decide)) fun v2 d2 H2 e2 dv2 hd2 => ?_
    subst hd2
    refine q_asgP (K := X.K) (M := MF) (evd_cat okF (evd_var rfl dv2) (evd_lst okF (eva_cons (kit 7 (by decide) rfl) (eva_cons (kit 8 (by decide) rfl) (eva_cons (kit 9 (by decide) rfl) eva_nil))) (by show 3 ≤ sizeLine; decide)) (by show 7 + 3 ≤ sizeLine; decide)) fun v3 d3 H3 e3 dv3 hd3 => ?_
    subst hd3
    refine q_asgP (K := X.K) (M := MF) (evd_cat okF (evd_var rfl dv3) (evd_lst okF (eva_cons (kit 10 (by decide) rfl) (eva_cons (kit 11 (by decide) rfl) (eva_cons (kit 12 (by decide) rfl) (eva_cons (kit 13 (by decide) rfl) eva_nil)))) (by show 4 ≤ sizeLine; decide)) (by show 10 + 4 ≤ sizeLine; decide)) fun v4 d4 H4 e4 dv4 hd4 => ?_
    have hd4 : d4 = .list (((List.range 14).map fun i => decide (i = j)).map PyData.bool) := hd4
    subst hd4
    cases dv4 with
    | lst b1 b2 b3 =>
    have e5 := b3.bls
    subst e5
    rename_i p4
    have hlt := KT.lt
    -- the tests
    refine ⟨_, rfl, D, hcls, hd, KT.cls, .ty "ValueError", .type "ValueError", true, rfl, (fun u r => r), KT.val, _, rfl, iteF ?_⟩
    refine ⟨_, rfl, .inl ⟨rfl, _, sq_of b1⟩, p4, _, true, rfl, rfl, sq_of b1, rfl, _, rfl, iteNS (by rw [count_one j hlt]; rfl) ?_⟩
    -- the word
    unfold tNext
    dsimp only
    refine q_asgP (K := X.K) (M := MF) (P := (· = .list ((words.take 10).map PyData.str))) ?_ fun v6 d6 H6 e6 dv6 hd6 => ?_
    · exact (evd_lst okF (eva_cons evd_str (eva_cons evd_str (eva_cons evd_str (eva_cons evd_str (eva_cons evd_str (eva_cons evd_str (eva_cons evd_str (eva_cons evd_str (eva_cons evd_str (eva_cons evd_str eva_nil)))))))))) (by show 10 ≤ sizeLine; decide)).mono fun d h => h
    subst hd6
    refine s_retP (K := X.K) (M := MF) (P := (· = .str (word j))) ?_ fun v7 d7 H7 e7 dv7 hd7 => ?_
    · refine evp_op (PA := (· = .list (words.map PyData.str))) (PB := (· = .int (j : Int))) ?_ ?_ fun x y c d' H8 e8 dx dy px py Q8 q8 => ?_
      · exact (evd_cat okF (evd_var rfl dv6) (evd_lst okF (eva_cons evd_str (eva_cons evd_str (eva_cons evd_str (eva_cons evd_str eva_nil)))) (by show 4 ≤ sizeLine; decide)) (by show 10 + 4 ≤ sizeLine; decide)).mono fun d h => h
      · intro H8 e8 Q8 q8
        refine ⟨_, rfl, .inl ⟨rfl, _, sq_of ((e6.trans e8) _ _ b1)⟩, p4, _, .bl true, j, .bl true, rfl, rfl, sq_of ((e6.trans e8) _ _ b1), rfl, ?_, ?_, rfl, fun m z hm hz => ?_, q8 _ _ H8 (Ex.refl _) (.int _) rfl⟩
        · rw [List.all_map, List.all_eq_true]
          intro b _
          rfl
        · rw [List.getElem?_map, List.getElem?_map, List.getElem?_range hlt]
          simp
        · rw [List.getElem?_map, List.getElem?_map, List.getElem?_range (by omega)] at hz
          have hz : some (V.bl (decide (m = j))) = some z := hz
          injection hz with hz
          rw [← hz, decide_eq_false (by omega)]
          rfl
      · subst px py
        cases dy
        cases dx with
        | lst w1 w2 w3 =>
        have ew := w3.strs
        subst ew
        refine ⟨_, _, _, _, rfl, rfl, sq_of w1, atI_nat (j := j) (v := .str (word j)) ?_, q8 _ _ H8 (Ex.refl _) (.str _) rfl⟩
        have hw : words[j]? = some (word j) := by
          unfold word
          rw [List.getD_eq_getElem?_getD, List.getElem?_eq_getElem (show j < words.length from hlt)]
          rfl
        rw [List.getElem?_map, hw]
        rfl
    · subst hd7
      cases dv7
      exact k H7 ((((e1.trans e2).trans (e3.trans e4)).trans e6).trans e7)
end
end TH
set_option maxRecDepth 100000
set_option maxHeartbeats 4000000
namespace TH
open PySem L2 Evl LamX
/-! ### what stays where a lambda is made -/
section
variable {K : PySem.W.Frag} {M : Addr → Prop} {H H1 H' : Hp} {C CN p : Addr} {S T : List Sg} {σ : L2.St} {ta : TE} {E : XK} {Q : VK}
theorem extn_sqt {a : Addr} {xs : List V} (e : ExtN H H') (h : SqT K H a xs) : SqT K H' a xs := by
  rcases h with (h | ⟨u, h⟩) | h
  · exact .inl (.inl (e _ _ h fun ps z => by cases z))
  · exact .inl (.inr ⟨u, e _ _ h fun ps z => by cases z⟩)
  · exact .inr h
theorem extn_sql {a : Addr} {xs : List V} (e : ExtN H H') (h : SqL K H a xs) : SqL K H' a xs := by
  rcases h with (h | ⟨u, h⟩) | h
  · exact .inl (.inl (e _ _ h fun ps z => by cases z))
  · exact .inl (.inr ⟨u, e _ _ h fun ps z => by cases z⟩)
  · exact .inr h
theorem dt_extn {v : V} {d : PyData} (h : Dt K M H v d) (e : ExtN H H') : Dt K M H' v d :=
  Dt.move (fun a xs h n => ⟨e _ _ h (fun ps z => by cases z), n⟩) (fun a xs h => extn_sqt e h) d v h
theorem book_extn (h : BookAt C M H p S) (e : ExtN H H') : BookAt C M H' p S := by
  obtain ⟨dx, l1, l2, h1, h2, h3, h4, h5⟩ := h
  exact ⟨dx, l1, l2, e _ _ h1 (fun ps z => by cases z), e _ _ h2 (fun ps z => by cases z), h3, e _ _ h4 (fun ps z => by cases z), h5⟩
theorem box_extn {b : Addr} (h : H b = some (Box b)) (e : ExtN H H') : H' b = some (Box b) := e _ _ h fun ps z => by
  unfold Box at z
  cases z
theorem ok_extn (h : Ok M H) (hm : ∀ l, M l → ∃ xs, H l = some (.lst xs)) (e : ExtN H H') : Ok M H' := fun l m => by
  obtain ⟨xs, hx⟩ := hm l m
  rw [e _ _ hx (fun ps z => by cases z)]
  simp
/-- Book(..) of a list that is a book, of one that is none -/
theorem made_ex {x dx : Addr} (h1 : H x = none) (h2 : H dx = none) (hne : dx ≠ x) : Ex H (upd (upd H dx (.own x)) x (.ins C dx [])) :=
  (Ex.new h2).trans (Ex.new (by rw [upd_ne hne.symm]; exact h1))
theorem make_book (ok : Ok M H) (h : EvD K M ta σ H (.list (S.map sgD))) (g : validB S = true) (hl : S.length ≤ 100) (hz : ∀ q ∈ S, q.1.length ≤ 100000)
    (q : ∀ x H', Ex H H' → BookAt C M H' x S → Q (.ref x) H') : tMake C (spInit K C CN) [] E (tCons ta tNil) σ H Q := by
  refine h H (Ex.refl H) _ fun v d H1 e1 dv pd x dx hx hdx hne => ?_
  subst pd
  have e2 : Ex H1 (upd (upd H1 dx (.own x)) x (.ins C dx [])) := made_ex hx hdx hne
  refine ⟨M, x, dx, v, S, ok.ex (e1.trans e2), rfl, upd_same, dv.ex e2, hl, hz, fun _ H' hB hk => ⟨rfl, q x H' (e1.trans fun b o hb => ?_) hB⟩, fun g' => by rw [g] at g'; cases g'⟩
  exact hk b o (e2 b o hb) (ne_of_none hb hx)
theorem make_none (ok : Ok M H) (h : EvD K M ta σ H (.list (S.map sgD))) (g : validB S = false) (hl : S.length ≤ 100) (hz : ∀ q ∈ S, q.1.length ≤ 100000)
    (q : ∀ H', Ex H H' → E (.ref CN) none H') : tMake C (spInit K C CN) [] E (tCons ta tNil) σ H Q := by
  refine h H (Ex.refl H) _ fun v d H1 e1 dv pd x dx hx hdx hne => ?_
  subst pd
  have e2 : Ex H1 (upd (upd H1 dx (.own x)) x (.ins C dx [])) := made_ex hx hdx hne
  exact ⟨M, x, dx, v, S, ok.ex (e1.trans e2), rfl, upd_same, dv.ex e2, hl, hz, (fun g' => by rw [g] at g'; cases g'), fun _ H' e3 => q H' ((e1.trans e2).trans e3)⟩
/-! ### two lists that are the same -/
theorem lay_sgs : ∀ S : List Sg, (∀ q ∈ S, PyData.strOk q.1 = true) → PyData.canLayAll0 (S.map sgD) = true
  | [], _ => rfl
  | q :: S, h => by
    rw [List.map_cons, PyData.canLayAll0, lay_sgs S fun r hr => h r (List.mem_cons_of_mem _ hr)]
    have : (sgD q).canLay0 = true := by
      unfold sgD
      rw [PyData.canLay0, PyData.canLayAll0, PyData.canLay0, h q List.mem_cons_self, PyData.canLayAll0, PyData.canLay0, PyData.canLayAll0]
      rfl
    rw [this]
    rfl
theorem depth_sgs : ∀ S : List Sg, PyData.depthAll (S.map sgD) ≤ 1
  | [] => by show 0 ≤ 1; decide
  | q :: S => by
    rw [List.map_cons, PyData.depthAll]
    have h1 := depth_sgs S
    have h2 : (sgD q).depth = 1 := by
      unfold sgD
      rw [PyData.depth, PyData.depthAll, PyData.depth, PyData.depthAll, PyData.depth, PyData.depthAll]
      rfl
    rw [h2]
    exact Nat.max_le.mpr ⟨Nat.le_refl _, h1⟩
theorem shaped_sgs (h : ∀ q ∈ S, PyData.strOk q.1 = true) : SeqAt.shaped (.list (S.map sgD)) = true := by
  unfold SeqAt.shaped
  rw [PyData.canLay0, lay_sgs S h, PyData.depth, decide_eq_true (by have := depth_sgs S; omega)]
  rfl
theorem eqv_sgs (h : ∀ q ∈ S, PyData.strOk q.1 = true) : PyData.eqv (.list (S.map sgD)) (.list (S.map sgD)) = true :=
  SeqAt.eqv_refl _ (by rw [PyData.canLay0]; exact lay_sgs S h)
theorem like_same (S : List Sg) : (decide (S.map (·.1) = S.map (·.1)) && decide (S.map (·.2) = S.map (·.2))) = true := by simp
theorem like_other {S T : List Sg} (h : T ≠ S) : (decide (S.map (·.1) = T.map (·.1)) && decide (S.map (·.2) = T.map (·.2))) = false ∧ (decide (T.map (·.1) = S.map (·.1)) && decide (T.map (·.2) = S.map (·.2))) = false := by
  have key : ¬ (S.map (·.1) = T.map (·.1) ∧ S.map (·.2) = T.map (·.2)) := by
    rintro ⟨h1, h2⟩
    apply h
    have hl : S.length = T.length := by
      have := congrArg List.length h1
      rwa [List.length_map, List.length_map] at this
    refine List.ext_getElem hl.symm fun i hi hi' => ?_
    have a1 : (T.map (·.1))[i]? = (S.map (·.1))[i]? := by rw [h1]
    have a2 : (T.map (·.2))[i]? = (S.map (·.2))[i]? := by rw [h2]
    rw [List.getElem?_map, List.getElem?_map, List.getElem?_eq_getElem hi, List.getElem?_eq_getElem hi'] at a1 a2
    injection a1 with a1
    injection a2 with a2
    exact Prod.ext a1 a2
  constructor
  · rw [← Bool.not_eq_true, Bool.and_eq_true, decide_eq_true_eq, decide_eq_true_eq]
    exact key
  · rw [← Bool.not_eq_true, Bool.and_eq_true, decide_eq_true_eq, decide_eq_true_eq]
    exact fun z => key ⟨z.1.symm, z.2.symm⟩
theorem evd_listOf {ta : TA} {ds : List PyData} (ok : Ok M H) (h : EvDA K M ta σ H [.list ds]) : EvD K M (tCB (fun xs H Q => ∃ p ys, xs = [.ref p] ∧ (SqL K H p ys ∨ SqT K H p ys) ∧ ∀ l, H l = none → Q (.ref l) (upd H l (.lst ys))) ta) σ H (.list ds) :=
  evp_cb h fun vs es H1 e dv pd Q q => by
    subst pd
    cases dv with
    | cons h1 h2 =>
      cases h2
      cases h1 with
      | lst k1 k2 k3 => exact ⟨_, _, rfl, .inl (sq_of k1), fun l hl => q _ _ _ (Ex.new hl) (.lst upd_same ((ok.ex e).new hl) (k3.ex (Ex.new hl))) rfl⟩
theorem q_asgR {te : TE} {i : Nat} {tz : TS} {D : Ends} (h : te σ H fun v H1 => tz D (σ.set i (some v)) H1) : tSeq (tAsg te (gName i)) tz D σ H := h
/-- the book's lists are not the list of signs -/
theorem book_apart {h : Addr} {xs : List V} {y : Addr} (hB : BookAt C MF H p S) (hh : H h = some (.lst xs)) (hy : xs[0]? = some (.ref y)) : BookAt C (· = h) H p S := by
  obtain ⟨dx, l1, l2, h1, h2, _, h4, _⟩ := hB
  refine ⟨dx, l1, l2, h1, h2, fun z => ?_, h4, fun z => ?_⟩
  · rw [z, hh] at h2
    injection h2 with h2
    injection h2 with h2
    rw [h2, List.getElem?_map] at hy
    cases hS : S[0]? with
    | none =>
      rw [hS] at hy
      cases hy
    | some q =>
      rw [hS] at hy
      cases hy
  · rw [z, hh] at h4
    injection h4 with h4
    injection h4 with h4
    rw [h4, List.getElem?_map] at hy
    cases hS : S[0]? with
    | none =>
      rw [hS] at hy
      cases hy
    | some q =>
      rw [hS] at hy
      cases hy
end
end TH
set_option maxRecDepth 100000
set_option maxHeartbeats 4000000
namespace TH
open PySem L2 Evl LamX
abbrev sLaw : Stmt := top 33
/-- the lambda's name -/
def qLam : Str := (PyProof.Rows.envOfC "law" (defScope sLaw) 0 0 .none).qual ++ "<lambda>"
/-- a list of at most 63 ints is handed in, True comes out -/
def spLaw (K : PySem.W.Frag) (Pt : Addr) : Sp := fun vs H Q _ => ∃ (a : Addr) (ns : List Int), vs = [.ref a] ∧ SqL K H a (ns.map V.int) ∧ ns.length ≤ 63 ∧ H Pt = some (.tbl #[]) ∧ ∀ H', Q (.bl true) H'
structure GlobW (mg : Str → Option Value) : Prop extends GlobB mg where
  list : mg "list" = none
section
variable {P : Program} {w : World} {K : PySem.W.Frag} {mg : Str → Option Value} {base : Heap}
abbrev nLaw : List Str := ["_law_script", "_law_k", "_law_box_here", "_law_signs_here", "_law_handed", "_law_book", "_law_other", "_law_kept", "_law_some"]
theorem scLaw : FnScope nLaw ["_law_script"] (defScope sLaw) := ⟨rfl, rfl, rfl, by decide +kernel, rfl, by decide +kernel, by decide +kernel⟩
theorem ok_law {f cL Pt C CN CH : Addr} {Cs : Nat → Addr} {oc : Value} {od an : Option Addr} {osl : Array (Option Value)} {kV doc pm ct : Value}
    (lk : K.lookup f = some ⟨oc, od, .func (PySem.W.fnOf "law" "law" (defArgs sLaw) (defBody sLaw) (defScope sLaw) .none kV doc pm an (.ref cL) ct), osl⟩) (hcd : PySem.W.codeIn K (.ref cL) "law" = true)
    (G : GlobW mg) (TB : TabB base mg cL Pt)
    (GX : OneF P w K mg base "_law_box" 1 ["_law_script", "_law_k"] (spBox K)) (GS : OneF P w K mg base "_law_signs" 3 ["_law_box_here"] (spSigns K))
    (GB : OneF P w K mg base "_law_bent" 3 ["_law_box_here", "_law_signs_here"] (spBent K)) (GO : OneF P w K mg base "_law_others" 3 ["_law_box_here", "_law_signs_here"] (spOthers K))
    (GT : OneF P w K mg base "_law_tells" 2 ["_law_book", "_law_signs_here"] (spTells K C)) (B : BookM P w K mg base C)
    {fI : Addr} {fdI : FuncData} (mk : Mk K C fI) (GI : FnOk P w K mg base (L2.CX P w) 4 fI fdI ["self", "signs"] (spInit K C CN)) (bI : Binds K fdI ["self", "signs"] [])
    (KG : KindG mg CH Cs) (KT : KindT K CH Cs CN 0)
    {fK : Addr} {ocK : Value} {odK anK : Option Addr} {oslK : Array (Option Value)} {kVK docK pmK cdK ctK : Value}
    (mK : mg "_law_kind" = some (.ref fK)) (kK : PySem.W.keepIn K (.ref fK) = true)
    (lkK : K.lookup fK = some ⟨ocK, odK, .func (PySem.W.fnOf "_law_kind" "_law_kind" (defArgs sKind) (defBody sKind) (defScope sKind) .none kVK docK pmK anK cdK ctK), oslK⟩) (hcK : PySem.W.codeIn K cdK "_law_kind" = true) :
    FnOk P w K mg base CX0 8 f (PySem.W.fnOf "law" "law" (defArgs sLaw) (defBody sLaw) (defScope sLaw) .none kV doc pm an (.ref cL) ct) ["_law_script"] (spLaw K Pt) := by
  obtain ⟨fX, dX, mX, kX, gX, bX⟩ := GX
  obtain ⟨fS, dS, mS, kS, gS, bS⟩ := GS
  obtain ⟨fB, dB, mB, kB, gB, bB⟩ := GB
  obtain ⟨fO, dO, mO, kO, gO, bO⟩ := GO
  obtain ⟨fT, dT, mT, kT, gT, bT⟩ := GT
  obtain ⟨T, _, _, _, _, ⟨fL, dL, mL, gL, bL⟩⟩ := B
  have bK : Binds K (PySem.W.fnOf "_law_kind" "_law_kind" (defArgs sKind) (defBody sKind) (defScope sKind) .none kVK docK pmK anK cdK ctK) ["_law_call"] [] :=
    (fun_mk (st := sKind) lkK hcK kK).binds (ps := ["_law_call"]) fun _ _ _ _ _ _ us hl => match us, hl with | [_], _ => rfl
  refine fn_of lk hcd scLaw (fun vs H Q E h => ?_) fun A outer s H vs Q E hr h => ?_
  · obtain ⟨a, ns, rfl, _⟩ := h
    rfl
  · obtain ⟨a, ns, rfl, hS, hlen, hP, q⟩ := h
    have hr1 : Room 1 _ := hr.mono (show 1 ≤ 7 by decide)
    have hr2 : Room 2 _ := hr.mono (show 2 ≤ 7 by decide)
    have hr3 : Room 3 _ := hr.mono (show 3 ≤ 7 by decide)
    have hr5 : Room 5 _ := hr.mono (show 5 ≤ 7 by decide)
    have hu := hu64 hr
    have fin : ∀ {t}, PSs (cxOf CX0 P w K mg base nLaw "law" (defScope sLaw) f (.ref cL) A outer s H E).nox (defBody sLaw) t → t { nx := fun _ H' => Q .non H', rt := Q } (start nLaw [.ref a]) H →
        ∃ t, PSs (cxOf CX0 P w K mg base nLaw "law" (defScope sLaw) f (.ref cL) A outer s H E) (defBody sLaw) t ∧ t { nx := fun _ H' => Q .non H', rt := Q } (start nLaw [.ref a]) H := fun h1 h2 => ⟨_, h1.nox, h2⟩
    refine fin (pss_cons (ps_for PassesOwn.never rfl (pi_range1 rfl G.range (pa_cons (pe_callB (call_max2 rfl) (by rfl) G.max (by decide +kernel) (pa_cons pe_int (pa_cons (pe_callB (call_min2 rfl) (by rfl) G.min (by decide +kernel) (pa_cons (pe_callB call_len_seq (by rfl) G.len PySem.boot_len (pa_cons (pv 0) pa_nil)) (pa_cons pe_int pa_nil))) pa_nil))) pa_nil)) (pg_name (i := 1) scLaw.nd rfl (.inl rfl))
      (pss_cons (ps_set (i := 2) scLaw.nd rfl (.inl rfl) (pe_call gX hr1 rfl mX kX bX .nil pass0 (pa_cons (pv 0) (pa_cons (pv 1) pa_nil))))
      (pss_cons (ps_set (i := 3) scLaw.nd rfl (.inl rfl) (pe_call gS hr3 rfl mS kS bS .nil pass0 (pa_cons (pv 2) pa_nil)))
      (pss_cons (ps_set (i := 4) scLaw.nd rfl (.inl rfl) (pe_callTy call_list_of (by rfl) G.list (by decide +kernel) (pa_cons (pv 3) pa_nil)))
      (pss_cons (ps_set (i := 5) scLaw.nd rfl (.inl rfl) (pe_make mk GI hr5 rfl T.g bI .nil passL (pa_cons (pv 4) pa_nil)))
      (pss_cons (ps_if (PW.pt (pw_or (pt_cmpR (op_neD hu) (pv 4) (pv 3) (nomark _)) (pw_or1 (pt_not (pt_val (pe_call gT hr2 rfl mT kT bT .nil pass0 (pa_cons (pv 5) (pa_cons (pv 3) pa_nil)))))))) (pss_one (ps_ret pe_bl)) pss_nil)
      (pss_cons (ps_expr (pe_bm0 PySem.F.plainAttrs_list PySem.F.slot_list_reverse PySem.F.type_list_reverse mt_reverse (pv 4)))
      (pss_cons (ps_expr (pe_bm PySem.F.plainAttrs_list PySem.F.slot_list_append PySem.F.type_list_append mt_append (pv 4) (pa_cons (pe_tup (pa_cons pe_str (pa_cons pe_int pa_nil))) pa_nil)))
      (pss_cons (ps_set (i := 6) scLaw.nd rfl (.inl rfl) (pe_make mk GI hr5 rfl T.g bI .nil passL (pa_cons (pe_callTy call_list_of (by rfl) G.list (by decide +kernel) (pa_cons (pv 3) pa_nil)) pa_nil)))
      (pss_cons (ps_if (PW.pt (pw_or (pt_not (pt_val (pe_call gT hr2 rfl mT kT bT .nil pass0 (pa_cons (pv 5) (pa_cons (pv 3) pa_nil)))))
          (pw_or (pt_cmpR op_notBl (pe_meth (pv 5) T.cl mL gL hr1 bL .nil pass0 (pa_cons (pv 6) pa_nil)) pe_bl (nomark _))
          (pw_or1 (pt_cmpR op_notBl (pe_meth (pv 6) T.cl mL gL hr1 bL .nil pass0 (pa_cons (pv 5) pa_nil)) pe_bl (nomark _)))))) (pss_one (ps_ret pe_bl)) pss_nil)
      (pss_cons (ps_for PassesOwn.never rfl (pi_list (pe_call gB hr3 rfl mB kB bB .nil pass0 (pa_cons (pv 2) (pa_cons (pv 3) pa_nil)))) (pg_name (i := 8) scLaw.nd rfl (.inr rfl))
          (pss_cons (ps_set (i := 7) scLaw.nd rfl (.inl rfl) (pe_callTy call_list_of (by rfl) G.list (by decide +kernel) (pa_cons (pv 8) pa_nil)))
          (pss_one (ps_if (PW.pt (pw_or (pt_cmpR op_ne (pe_lamcall (k := 5) (T := [(Pt, qLam)]) (TT := TKind K CH Cs) (t := fun E => tMake C (spInit K C CN) [] E (tCons (tVar 8) tNil)) rfl mK kK lkK hcK bK scKind rfl (.inl rfl) (kind_gives KG) TB rfl (by exact List.mem_singleton.mpr rfl) (fun p hp _ => by rw [List.mem_singleton.mp hp]; rfl) hr
              (by exact lamS_by (sc := defScope sLaw) (by decide +kernel)) rfl (fun _ _ _ _ _ => rfl)
              (fun A outer s H E f c' hr2 => pe_make mk GI hr2 rfl T.g bI .nil (passes_call (takes_of rfl rfl rfl rfl) (fun _ _ _ _ h => h)) (pa_cons (pv 8) pa_nil))) pe_str (nomark _))
            (pw_or1 (pt_cmpR (op_neD hu) (pv 8) (pv 7) (nomark _))))) (pss_one (ps_ret pe_bl)) pss_nil))))
      (pss_one (ps_for PassesOwn.never rfl (pi_list (pe_call gO hr3 rfl mO kO bO .nil pass0 (pa_cons (pv 2) (pa_cons (pv 3) pa_nil)))) (pg_name (i := 8) scLaw.nd rfl (.inr rfl))
          (pss_cons (ps_set (i := 6) scLaw.nd rfl (.inl rfl) (pe_make mk GI hr5 rfl T.g bI .nil passL (pa_cons (pv 8) pa_nil)))
          (pss_one (ps_if (PW.pt (pw_or (pt_cmpR op_notBl (pe_meth (pv 5) T.cl mL gL hr1 bL .nil pass0 (pa_cons (pv 6) pa_nil)) pe_bl (nomark _))
              (pw_or (pt_cmpR op_notBl (pe_meth (pv 6) T.cl mL gL hr1 bL .nil pass0 (pa_cons (pv 5) pa_nil)) pe_bl (nomark _))
              (pw_or1 (pt_not (pt_val (pe_call gT hr2 rfl mT kT bT .nil pass0 (pa_cons (pv 5) (pa_cons (pv 3) pa_nil))))))))) (pss_one (ps_ret pe_bl)) pss_nil))))))))))))))))
    (pss_one (ps_ret pe_bl))) ?_
    -- for k in range(..)
    have hl63 : (ns.map V.int).length ≤ 63 := by rw [List.length_map]; exact hlen
    refine ⟨_, rfl, _, _, rfl, .inl hS, _, _, rfl, _, _, rfl, _, rfl, ?_, ?_, ?_⟩
    · split <;> split <;> omega
    · split <;> split <;> omega
    have hnt : ∀ z : Int, z = (if (if (3 : Int) < ((ns.map V.int).length : Int) then 3 else ((ns.map V.int).length : Int)) > 1 then (if (3 : Int) < ((ns.map V.int).length : Int) then 3 else ((ns.map V.int).length : Int)) else 1) → z ≤ 3 := by
      intro z hz
      rw [hz]
      split <;> split <;> omega
    have hnt := hnt _ rfl
    generalize (if (if (3 : Int) < ((ns.map V.int).length : Int) then 3 else ((ns.map V.int).length : Int)) > 1 then (if (3 : Int) < ((ns.map V.int).length : Int) then 3 else ((ns.map V.int).length : Int)) else 1) = nt at hnt ⊢
    refine for_range (lo := 0) (n := nt.toNat) (fun i σ' H' => ExtN H H' ∧ Tabs [(Pt, qLam)] H' ∧ ∃ u1 u2 u3 u4 u5 u6 u7 u8, σ' = [some (.ref a), u1, u2, u3, u4, u5, u6, u7, u8])
      ⟨ExtN.refl H, fun p hp => by rw [List.mem_singleton.mp hp]; exact TabS.nil hP, _, _, _, _, _, _, _, _, rfl⟩ ?_ (fun σ' H' ⟨_, _, u1, u2, u3, u4, u5, u6, u7, u8, e⟩ => q H')
    rintro i σ' Hi hi ⟨eN, tB, u1, u2, u3, u4, u5, u6, u7, u8, rfl⟩
    -- the box, the signs
    refine q_asgR ⟨_, rfl, _, rfl, a, ns, _, rfl, extn_sql eN hS, by omega, by omega, fun b H1 hb e1 hbox => ?_⟩
    refine q_asgR ⟨_, rfl, b, rfl, hbox, fun l xs S H2 gS e2 hl hxs dS => ?_⟩
    have e02 := e1.trans e2
    have sS := gS.toGood0.sane
    have hlS : S.length ≤ 100 := sS.len
    have hzS : ∀ q ∈ S, q.1.length ≤ 100000 := fun q hq => Nat.le_trans (sS.name q hq) (by decide)
    have nO : namesOk S := sS.ok
    -- handed
    refine q_asgR ⟨_, rfl, l, xs, rfl, .inl (sq_of hxs), fun h hh => ?_⟩
    have e3 : Ex H2 (upd H2 h (.lst xs)) := Ex.new hh
    have hlh : l ≠ h := ne_of_none hxs hh
    have hi0 : Hi h = none := fresh_back e02 hh
    have h3 : (upd H2 h (.lst xs)) h = some (.lst xs) := upd_same
    have e03 : Ex Hi (upd H2 h (.lst xs)) := e02.trans e3
    have hsF : Dt K MF (upd H2 h (.lst xs)) (.ref l) (.list (S.map sgD)) := .lst (e3 _ _ hxs) (fun z => z) (dS.ex e3).flat
    have hsig : Dt K (· = h) (upd H2 h (.lst xs)) (.ref l) (.list (S.map sgD)) := .lst (e3 _ _ hxs) hlh (dS.ex e3).flat
    have hhan : Dt K MF (upd H2 h (.lst xs)) (.ref h) (.list (S.map sgD)) := .lst h3 (fun z => z) (dS.ex e3).flat
    have hbox3 := (e2.trans e3) _ _ hbox
    have hfst : ∃ y, xs[0]? = some (.ref y) := by
      obtain ⟨v, hv, dv⟩ := dS.at (i := 0) (d := sgD (S[0]'(gS.ne))) (by rw [List.getElem?_map, List.getElem?_eq_getElem gS.ne]; rfl)
      cases dv with
      | tup _ _ => exact ⟨_, hv⟩
    obtain ⟨y0, hy0⟩ := hfst
    generalize hG3 : upd H2 h (.lst xs) = H3 at e3 h3 e03 hsF hsig hhan hbox3
    -- book
    refine q_asgR (make_book (M := MF) okF (evd_var rfl hhan) (valid_good gS) hlS hzS fun x H4 e4 hB4 => ?_)
    have hB := book_apart hB4 (e4 _ _ h3) hy0
    have e04 := e03.trans e4
    -- if handed != signs or not tells(..)
    refine ⟨_, rfl, _, rfl, _, _, (hhan.ex e4).dp, (hsF.ex e4).dp, shaped_sgs nO, shaped_sgs nO, ?_⟩
    rw [eqv_sgs nO]
    refine ⟨_, rfl, iteF ⟨_, rfl, _, rfl, (· = h), (· = h), x, .ref l, S, rfl, hB, hsig.ex e4, gS, fun H5 e5 => ⟨_, rfl, iteF ?_⟩⟩⟩
    have e35 := e4.trans e5
    have h5 := e35 _ _ h3
    -- handed.reverse(); handed.append(..)
    refine ⟨_, rfl, .inl ⟨rfl, _, sq_of h5⟩, h, xs, rfl, rfl, h5, ?_⟩
    have okh : ∀ {G : Hp} {ys : List V}, G h = some (.lst ys) → Ok (· = h) G := fun hg z hz => by
      rw [hz, hg]
      simp
    have e06 : Ex Hi (upd H5 h (.lst xs.reverse)) := Ex.mut (e04.trans e5) hi0
    have hB6 := (hB.ex e5).upd (o := .lst xs.reverse) h5 rfl
    have hs6 := (hsig.ex e35).upd (o := .lst xs.reverse) h5 rfl
    have h6 : (upd H5 h (.lst xs.reverse)) h = some (.lst xs.reverse) := upd_same
    have hbh : b ≠ h := ne_of (e35 _ _ hbox3) h5 (by unfold Box; intro z; cases z)
    have hb6 : (upd H5 h (.lst xs.reverse)) b = some (Box b) := by
      rw [upd_ne hbh]
      exact e35 _ _ hbox3
    generalize hG6 : upd H5 h (.lst xs.reverse) = H6 at e06 hB6 hs6 h6 hb6
    dsimp only
    have hlx : xs.reverse.length < sizeLine := by
      rw [List.length_reverse, dS.length, List.length_map]
      exact Nat.lt_of_le_of_lt gS.len (by decide)
    refine q_appP (K := K) (M := MF) h6 rfl (evd_tup (ds := [.str "zzz", .int 2]) (eva_cons evd_str (eva_cons evd_int eva_nil)) (by show 2 ≤ sizeLine; decide)) hlx fun vz dz H7 e7 dvz hdz => ?_
    have h7 := e7 _ _ h6
    have e08 : Ex Hi (upd H7 h (.lst (xs.reverse ++ [vz]))) := Ex.mut (e06.trans e7) hi0
    have hB8 := (hB6.ex e7).upd (o := .lst (xs.reverse ++ [vz])) h7 rfl
    have hs8 := (hs6.ex e7).upd (o := .lst (xs.reverse ++ [vz])) h7 rfl
    have h8 : (upd H7 h (.lst (xs.reverse ++ [vz]))) h = some (.lst (xs.reverse ++ [vz])) := upd_same
    have hb8 : (upd H7 h (.lst (xs.reverse ++ [vz]))) b = some (Box b) := by
      rw [upd_ne hbh]
      exact e7 _ _ hb6
    generalize hG8 : upd H7 h (.lst (xs.reverse ++ [vz])) = H8 at e08 hB8 hs8 h8 hb8
    -- other = Book(list(signs))
    refine q_asgR (make_book (M := (· = h)) (okh h8) (evd_listOf (okh h8) (eva_cons (evd_var rfl hs8) eva_nil)) (valid_good gS) hlS hzS fun x2 H9 e9 hB9 => ?_)
    have hBx := hB8.ex e9
    have hsx := hs8.ex e9
    have pBx := hBx
    have pB9 := hB9
    obtain ⟨dx, l1, l2, hx1, _⟩ := pBx
    obtain ⟨dy, m1, m2, hy1, _⟩ := pB9
    have noA : ∀ {l1 l2 : Addr}, (flds l1 l2).lookup ("is_like" : Str) = none := flds_no _ _ (by decide +kernel) (by decide +kernel)
    refine ⟨_, rfl, _, rfl, (· = h), (· = h), x, .ref l, S, rfl, hBx, hsx, gS, fun H10 e10 => ⟨_, rfl, iteF ?_⟩⟩
    refine ⟨_, rfl, x, dx, _, rfl, e10 _ _ hx1, noA, _, rfl, (· = h), (· = h), x, x2, S, S, rfl, hBx.ex e10, hB9.ex e10, nO, nO, ?_⟩
    rw [like_same]
    refine ⟨_, _, rfl, rfl, _, rfl, iteNS rfl ?_⟩
    refine ⟨_, rfl, x2, dy, _, rfl, e10 _ _ hy1, noA, _, rfl, (· = h), (· = h), x2, x, S, S, rfl, hB9.ex e10, hBx.ex e10, nO, nO, ?_⟩
    rw [like_same]
    refine ⟨_, _, rfl, rfl, _, rfl, iteNS rfl ?_⟩
    have e810 := e9.trans e10
    have e010 := e08.trans e810
    have hB10 := hB8.ex e810
    have hs10 := hs8.ex e810
    have hb10 := e810 _ _ hb8
    have h10 := e810 _ _ h8
    have tB10 : Tabs [(Pt, qLam)] H10 := tB.ext e010
    -- the lists that are no books
    refine ⟨_, rfl, _, rfl, (· = h), b, .ref l, S, rfl, okh h10, hb10, hs10, gS, fun u ls H11 e11 du hbad hlen => ?_⟩
    cases du with
    | lst a1 a2 a3 =>
    rename_i lb us
    have e0B := e010.trans e11
    refine ⟨lb, rfl, ⟨_, sq_of a1⟩, for_list (K := K) (a := lb) (xs := us) (fun j σ' H' => ExtN H11 H' ∧ Tabs [(Pt, qLam)] H' ∧ ∃ u7 u8, σ' = [some (.ref a), some (.int (0 + (i : Int))), some (.ref b), some (.ref l), some (.ref h), some (.ref x), some (.ref x2), u7, u8]) ⟨ExtN.refl _, tB10.ext e11, _, _, rfl⟩ (fun j σ' H' _ z => extn_sql z.1 (sq_of a1)) ?_ ?_⟩
    · rintro j y σ' H12 hj ⟨eN12, tB12, v7, v8, rfl⟩
      obtain ⟨d, hd, dy⟩ := a3.get hj
      rw [List.getElem?_map] at hd
      cases hT : ls[j]? with
      | none =>
        rw [hT] at hd
        cases hd
      | some T0 =>
      rw [hT] at hd
      cases hd
      have bT := hbad T0 (List.mem_of_getElem? hT)
      have dy12 := dt_extn dy eN12
      have pdy := dy12
      cases pdy with
      | lst c1 c2 c3 =>
      rename_i p items
      -- kept = list(some)
      refine q_asgR ⟨_, rfl, p, items, rfl, .inl (sq_of c1), fun r hr => ?_⟩
      have e13 : Ex H12 (upd H12 r (.lst items)) := Ex.new hr
      have hr13 : (upd H12 r (.lst items)) r = some (.lst items) := upd_same
      have dk13 : Dt K MF (upd H12 r (.lst items)) (.ref r) (lD T0) := .lst hr13 (fun z => z) ((c3.ex e13).weak fun _ z => z.elim)
      have ds13 : Dt K MF (upd H12 r (.lst items)) (.ref p) (lD T0) := (dy12.ex e13).weak fun _ z => z.elim
      generalize hG13 : upd H12 r (.lst items) = H13 at e13 dk13 ds13
      have tB13 := tB12.ext e13
      have eN13 : ExtN H11 H13 := eN12.trans (ExtN.of e13)
      -- kind(lambda: Book(some)) != 'book'
      refine ⟨tB13, fun H14 eN14 tB14 => ?_⟩
      unfold TKind
      dsimp only
      refine make_none (M := MF) okF (evd_var rfl (dt_extn ds13 eN14)) bT.2 bT.1.len (fun q hq => Nat.le_trans (bT.1.name q hq) (by decide)) fun H15 e15 => ⟨rfl, CN, 0, rfl, KT, fun H16 e16 => ?_⟩
      refine ⟨rfl, _, rfl, iteNS rfl ?_⟩
      have e1416 := e15.trans e16
      have d1 := (dt_extn ds13 eN14).ex e1416
      have d2 := (dt_extn dk13 eN14).ex e1416
      refine ⟨_, rfl, _, rfl, _, _, d1.dp, d2.dp, shaped_sgs bT.1.ok, shaped_sgs bT.1.ok, ?_⟩
      rw [show PyData.eqv (lD T0) (lD T0) = true from eqv_sgs bT.1.ok]
      exact ⟨_, rfl, iteF ⟨eN13.trans (eN14.trans (ExtN.of e1416)), tB14.ext e1416, _, _, rfl⟩⟩
    · rintro σ' H20 ⟨eN20, tB20, v7, v8, rfl⟩
      have eN8 : ExtN H10 H20 := (ExtN.of e11).trans eN20
      have hB20 := book_extn hB10 eN8
      have hs20 := dt_extn hs10 eN8
      have hb20 := box_extn hb10 eN8
      have h20 : H20 h = some (.lst (xs.reverse ++ [vz])) := eN8 _ _ h10 fun ps z => by cases z
      -- the books that are not alike
      refine ⟨_, rfl, _, rfl, (· = h), b, .ref l, S, rfl, okh h20, hb20, hs20, gS, fun u ls' H21 e21 du' hgood hlen' => ?_⟩
      cases du' with
      | lst a1' a2' a3' =>
      rename_i lo us'
      refine ⟨lo, rfl, ⟨_, sq_of a1'⟩, for_list (K := K) (a := lo) (xs := us') (fun j σ' H' => Ex H21 H' ∧ ∃ u6 u7 u8, σ' = [some (.ref a), some (.int (0 + (i : Int))), some (.ref b), some (.ref l), some (.ref h), some (.ref x), u6, u7, u8]) ⟨Ex.refl _, _, _, _, rfl⟩ (fun j σ' H' _ z => sq_of (z.1 _ _ a1')) ?_ ?_⟩
      · rintro j y σ' H22 hj ⟨e22, v6, v7, v8, rfl⟩
        obtain ⟨d, hd, dy⟩ := a3'.get hj
        rw [List.getElem?_map] at hd
        cases hT : ls'[j]? with
        | none =>
          rw [hT] at hd
          cases hd
        | some T0 =>
        rw [hT] at hd
        cases hd
        obtain ⟨gT0, nT⟩ := hgood T0 (List.mem_of_getElem? hT)
        have sT := gT0.toGood0.sane
        have hB22 := hB20.ex (e21.trans e22)
        have hs22 := hs20.ex (e21.trans e22)
        refine q_asgR (make_book (M := (· = h)) (okh ((e21.trans e22) _ _ h20)) (evd_var rfl (dy.ex e22)) (valid_good gT0) sT.len (fun q hq => Nat.le_trans (sT.name q hq) (by decide)) fun x3 H23 e23 hB3 => ?_)
        have hB23 := hB22.ex e23
        have pB23 := hB23
        have pB3 := hB3
        obtain ⟨ex, n1, n2, hx23, _⟩ := pB23
        obtain ⟨ey, o1, o2, hy23, _⟩ := pB3
        refine ⟨_, rfl, x, ex, _, rfl, hx23, noA, _, rfl, (· = h), (· = h), x, x3, S, T0, rfl, hB23, hB3, nO, sT.ok, ?_⟩
        rw [(like_other nT).1]
        refine ⟨_, _, rfl, rfl, _, rfl, iteNS rfl ?_⟩
        refine ⟨_, rfl, x3, ey, _, rfl, hy23, noA, _, rfl, (· = h), (· = h), x3, x, T0, S, rfl, hB3, hB23, sT.ok, nO, ?_⟩
        rw [(like_other nT).2]
        refine ⟨_, _, rfl, rfl, _, rfl, iteNS rfl ?_⟩
        exact ⟨_, rfl, _, rfl, (· = h), (· = h), x, .ref l, S, rfl, hB23, hs22.ex e23, gS, fun H24 e24 => ⟨_, rfl, iteF ⟨(e22.trans e23).trans e24, _, _, _, rfl⟩⟩⟩
      · rintro σ' H25 ⟨e25, v6, v7, v8, rfl⟩
        have eF : ExtN H20 H25 := ExtN.of (e21.trans e25)
        exact ⟨eN.trans ((ExtN.of e010).trans (eN8.trans eF)), tB20.ext (e21.trans e25), _, _, _, _, _, _, _, _, rfl⟩
end
end TH
set_option maxRecDepth 100000
set_option maxHeartbeats 4000000
namespace TH
open PySem L2 Evl LamX
/-! ### what the top has written: each a fact that k_is finds -/
def DefG (K : PySem.W.Frag) (x : Str) (st : Stmt) : Prop := ∃ (f : Addr) (fd : FuncData), PySem.W.nsIn K mainGlobals x = some (some (.ref f)) ∧ Fun K x x st f fd
def MethG (K : PySem.W.Frag) (C : Addr) (m q : Str) (st : Stmt) : Prop := ∃ (f : Addr) (fd : FuncData), Meth K C m f ∧ Fun K m q st f fd
section
variable {K : PySem.W.Frag} {x q : Str} {st : Stmt} {f C : Addr} {oc : Value} {od an : Option Addr} {osl : Array (Option Value)} {kV doc pm cdv ct : Value}
theorem defG_mk (a : PySem.W.nsIn K mainGlobals x = some (some (.ref f))) (l : K.lookup f = some ⟨oc, od, .func (PySem.W.fnOf x x (defArgs st) (defBody st) (defScope st) .none kV doc pm an cdv ct), osl⟩)
    (c : PySem.W.codeIn K cdv x = true) (k : PySem.W.keepIn K (.ref f) = true) : DefG K x st := ⟨f, _, a, fun_mk l c k⟩
theorem methG_mk {m : Str} (a : PySem.W.findIn K (.ref C) m = some (some (.ref f))) (i : PySem.W.isFn K (.ref f) = true) (l : K.lookup f = some ⟨oc, od, .func (PySem.W.fnOf m q (defArgs st) (defBody st) (defScope st) .none kV doc pm an cdv ct), osl⟩)
    (c : PySem.W.codeIn K cdv q = true) (k : PySem.W.keepIn K (.ref f) = true) : MethG K C m q st := ⟨f, _, ⟨a, i, k⟩, fun_mk l c k⟩
end
/-- what the names of the built-ins and of the constants stand for -/
structure NoneG (K : PySem.W.Frag) : Prop where
  n_range : PySem.W.nsIn K mainGlobals "range" = some none
  n_len : PySem.W.nsIn K mainGlobals "len" = some none
  n_abs : PySem.W.nsIn K mainGlobals "abs" = some none
  n_divmod : PySem.W.nsIn K mainGlobals "divmod" = some none
  n_all : PySem.W.nsIn K mainGlobals "all" = some none
  n_any : PySem.W.nsIn K mainGlobals "any" = some none
  n_enumerate : PySem.W.nsIn K mainGlobals "enumerate" = some none
  n_min : PySem.W.nsIn K mainGlobals "min" = some none
  n_bool : PySem.W.nsIn K mainGlobals "bool" = some none
  n_isinstance : PySem.W.nsIn K mainGlobals "isinstance" = some none
  n_max : PySem.W.nsIn K mainGlobals "max" = some none
  n_list : PySem.W.nsIn K mainGlobals "list" = some none
  n_ValueError : PySem.W.nsIn K mainGlobals "ValueError" = some none
/-- the classes of the refusals -/
structure ErrG (K : PySem.W.Frag) (CH : Addr) (cs : List Addr) : Prop where
  hand : PySem.W.nsIn K mainGlobals "HandError" = some (some (.ref CH))
  c0 : PySem.W.nsIn K mainGlobals "NoBook" = some (some (.ref (cs.getD 0 0)))
  c1 : PySem.W.nsIn K mainGlobals "NoTree" = some (some (.ref (cs.getD 1 0)))
  c2 : PySem.W.nsIn K mainGlobals "NoPlace" = some (some (.ref (cs.getD 2 0)))
  c3 : PySem.W.nsIn K mainGlobals "NoReader" = some (some (.ref (cs.getD 3 0)))
  c4 : PySem.W.nsIn K mainGlobals "Unlike" = some (some (.ref (cs.getD 4 0)))
  c5 : PySem.W.nsIn K mainGlobals "TooGreat" = some (some (.ref (cs.getD 5 0)))
  c6 : PySem.W.nsIn K mainGlobals "NoGuesser" = some (some (.ref (cs.getD 6 0)))
  c7 : PySem.W.nsIn K mainGlobals "NoPattern" = some (some (.ref (cs.getD 7 0)))
  c8 : PySem.W.nsIn K mainGlobals "NoNumber" = some (some (.ref (cs.getD 8 0)))
  c9 : PySem.W.nsIn K mainGlobals "NoTurner" = some (some (.ref (cs.getD 9 0)))
  c10 : PySem.W.nsIn K mainGlobals "NoText" = some (some (.ref (cs.getD 10 0)))
  c11 : PySem.W.nsIn K mainGlobals "NoLine" = some (some (.ref (cs.getD 11 0)))
  c12 : PySem.W.nsIn K mainGlobals "NoName" = some (some (.ref (cs.getD 12 0)))
  c13 : PySem.W.nsIn K mainGlobals "Nothing" = some (some (.ref (cs.getD 13 0)))
theorem errG_mk {K : PySem.W.Frag} {CH e0 e1 e2 e3 e4 e5 e6 e7 e8 e9 e10 e11 e12 e13 : Addr} (h : PySem.W.nsIn K mainGlobals "HandError" = some (some (.ref CH)))
    (c0 : PySem.W.nsIn K mainGlobals "NoBook" = some (some (.ref e0)))
    (c1 : PySem.W.nsIn K mainGlobals "NoTree" = some (some (.ref e1)))
    (c2 : PySem.W.nsIn K mainGlobals "NoPlace" = some (some (.ref e2)))
    (c3 : PySem.W.nsIn K mainGlobals "NoReader" = some (some (.ref e3)))
    (c4 : PySem.W.nsIn K mainGlobals "Unlike" = some (some (.ref e4)))
    (c5 : PySem.W.nsIn K mainGlobals "TooGreat" = some (some (.ref e5)))
    (c6 : PySem.W.nsIn K mainGlobals "NoGuesser" = some (some (.ref e6)))
    (c7 : PySem.W.nsIn K mainGlobals "NoPattern" = some (some (.ref e7)))
    (c8 : PySem.W.nsIn K mainGlobals "NoNumber" = some (some (.ref e8)))
    (c9 : PySem.W.nsIn K mainGlobals "NoTurner" = some (some (.ref e9)))
    (c10 : PySem.W.nsIn K mainGlobals "NoText" = some (some (.ref e10)))
    (c11 : PySem.W.nsIn K mainGlobals "NoLine" = some (some (.ref e11)))
    (c12 : PySem.W.nsIn K mainGlobals "NoName" = some (some (.ref e12)))
    (c13 : PySem.W.nsIn K mainGlobals "Nothing" = some (some (.ref e13)))
    : ErrG K CH [e0, e1, e2, e3, e4, e5, e6, e7, e8, e9, e10, e11, e12, e13] := ⟨h, c0, c1, c2, c3, c4, c5, c6, c7, c8, c9, c10, c11, c12, c13⟩
/-- a refusal of the class at D is just the j-th of them -/
structure KitG (K : PySem.W.Frag) (CH : Addr) (cs : List Addr) (D : Addr) (j : Nat) : Prop where
  ex : PySem.W.exmOne K (.ref D) (.ref CH) = some true
  hg : PySem.W.findIn K (.ref D) "__getattribute__" = some (some (.builtin "BaseException.__getattribute__"))
  hk : PySem.W.findIn K (.ref D) "__getattr__" = some none
  hs : PySem.W.subIn K (.ref D) (.type "BaseException") = some true
  hd : PySem.W.hasDictIn K D = true
  ha : PySem.W.findIn K (.ref D) "__class__" = some (some (.builtin "object.__class__"))
  hn : PySem.W.specialIn K (.builtin "object.__class__") "__get__" = some (some (.builtin "getset_descriptor.__get__"))
  ht : PySem.W.takesIn K (.builtin "object.__class__") = some true
  hm : PySem.W.mroIn K D (.type "object") = some true
  val : PySem.W.kitOne K (.ref D) (.type "ValueError") = some true
  kit : (List.range 14).all (fun i => PySem.W.kitOne K (.ref D) (.ref (cs.getD i 0)) == some (decide (i = j))) = true
theorem KitG.kindT {K : PySem.W.Frag} {CH D : Addr} {cs : List Addr} {j : Nat} (h : KitG K CH cs D j) (hj : j < 14) : KindT K CH (fun i => cs.getD i 0) D j :=
  ⟨h.ex, ⟨h.hg, h.hk, h.hs, h.hd, h.ha, h.hn, h.ht, h.hm⟩, h.val, hj, fun i hi => beq_iff_eq.mp (List.all_eq_true.mp h.kit i (List.mem_range.mpr hi))⟩
/-- the class Book -/
structure ClsG (K : PySem.W.Frag) (C : Addr) : Prop where
  a : PySem.W.nsIn K mainGlobals "Book" = some (some (.ref C))
  pg : PySem.W.plainGet K C Str.empty = true
  hd : PySem.W.hasDictIn K C = true
  po : PySem.W.plainOver K C = true
  sa : PySem.W.findIn K (.ref C) "__setattr__" = some (some (.builtin "object.__setattr__"))
  made : PySem.W.makesIn K C = true
  kc : PySem.W.keepIn K (.ref C) = true
  n1 : PySem.W.findIn K (.ref C) "_names" = some none
  n2 : PySem.W.findIn K (.ref C) "_kids" = some none
/-- a class of refusals that is raised -/
structure RaiseG (K : PySem.W.Frag) (C : Addr) : Prop where
  x : PySem.W.excIn K C [.type "ValueError", .type "Exception", .type "BaseException", .type "object"] "ValueError.__new__" = true
  k : PySem.W.keepIn K (.ref C) = true
  b : PySem.W.subIn K (.ref C) (.type "BaseException") = some true
  t : PySem.W.typeIn K (.ref C) = some (.type "type")
theorem all_mk {l : PySem.W.OpenLaw} {w : World} {K : PySem.W.Frag} {h : Heap} {mg : Str → Option Value} {fa C CH fL cL Pt fK : Addr} {cs : List Addr} (X : K.In h) (G : h.Ns mainGlobals mg) (hfa : mg "law" = some (.ref fa))
    {oc : Value} {od an : Option Addr} {osl : Array (Option Value)} {kV doc pm ct : Value} {ocK : Value} {odK anK : Option Addr} {oslK : Array (Option Value)} {kVK docK pmK cdK ctK : Value} {t1 t2 t3 : Tok}
    (NG : NoneG K) (EG : ErrG K CH cs) (CG : ClsG K C) {D : Addr} (aN : PySem.W.nsIn K mainGlobals "NoBook" = some (some (.ref D))) (RG : RaiseG K D) (XG : KitG K CH cs D 0)
    (D_is_name : DefG K "is_name" sName)
    (D_is_sign : DefG K "is_sign" sSign)
    (D_are_signs : DefG K "are_signs" sAre)
    (D__law_box : DefG K "_law_box" sBox)
    (D__law_more : DefG K "_law_more" sMore)
    (D__law_take : DefG K "_law_take" sTake)
    (D__law_signs : DefG K "_law_signs" sSigns)
    (D__law_bent : DefG K "_law_bent" sBent)
    (D__law_others : DefG K "_law_others" sOthers)
    (D__law_tells : DefG K "_law_tells" sTells)
    (M___init__ : MethG K C "__init__" "Book.__init__" sInit)
    (M_many : MethG K C "many" "Book.many" sMany)
    (M_name : MethG K C "name" "Book.name" sNm)
    (M_kids : MethG K C "kids" "Book.kids" sKd)
    (M_number : MethG K C "number" "Book.number" sNum)
    (M_is_like : MethG K C "is_like" "Book.is_like" sLike)
    (k1 : PySem.W.nsIn K mainGlobals "LONGEST_NAME" = some (some (.int 3 t1))) (k2 : PySem.W.nsIn K mainGlobals "MOST_SIGNS" = some (some (.int 6 t2))) (k3 : PySem.W.nsIn K mainGlobals "MOST_KIDS" = some (some (.int 2 t3)))
    (aK : PySem.W.nsIn K mainGlobals "_law_kind" = some (some (.ref fK))) (lkK : K.lookup fK = some ⟨ocK, odK, .func (PySem.W.fnOf "_law_kind" "_law_kind" (defArgs sKind) (defBody sKind) (defScope sKind) .none kVK docK pmK anK cdK ctK), oslK⟩)
    (hcK : PySem.W.codeIn K cdK "_law_kind" = true) (kK : PySem.W.keepIn K (.ref fK) = true)
    (aL : PySem.W.nsIn K mainGlobals "law" = some (some (.ref fL))) (lk : K.lookup fL = some ⟨oc, od, .func (PySem.W.fnOf "law" "law" (defArgs sLaw) (defBody sLaw) (defScope sLaw) .none kV doc pm an (.ref cL) ct), osl⟩)
    (hcd : PySem.W.codeIn K (.ref cL) "law" = true) (hT : h.get? Pt = some { cls := .none, data := .fields #[] }) (nT : K.lookup Pt = none) (hC : PySem.W.CodeHd h cL Pt) :
    LawAtS l w K CX0 8 63 "_law_script" mg fa h := by
  have e := hfa.symm.trans (PySem.W.mg_of X G aL)
  cases e
  have eD : cs.getD 0 0 = D := by
    have e := EG.c0.symm.trans aN
    exact Value.ref.inj (Option.some.inj (Option.some.inj e))
  have gn : ∀ {x : Str}, PySem.W.nsIn K mainGlobals x = some none → mg x = none := fun z => PySem.W.mg_none_of X G z
  have gs : ∀ {x : Str} {v : Value}, PySem.W.nsIn K mainGlobals x = some (some v) → mg x = some v := fun z => PySem.W.mg_of X G z
  have GS : GlobS mg := { range := gn NG.n_range, len := gn NG.n_len, abs := gn NG.n_abs, divmod := gn NG.n_divmod, all := gn NG.n_all, any := gn NG.n_any, longest := ⟨_, gs k1⟩, most := ⟨_, gs k2⟩, mostK := ⟨_, gs k3⟩, enumerate := gn NG.n_enumerate }
  have GL : GlobL mg := { GS with min := gn NG.n_min }
  have GT : GlobT mg := { GL with bool := gn NG.n_bool, isinstance := gn NG.n_isinstance }
  have GB : GlobB mg := { GT with max := gn NG.n_max }
  have GW : GlobW mg := { GB with list := gn NG.n_list }
  have T : BookT K mg C := ⟨⟨CG.pg, CG.hd, CG.po, CG.sa⟩, CG.n1, CG.n2, gs CG.a⟩
  have TN : ExcT K mg "NoBook" D := ⟨gs aN, RG.x, RG.k, RG.b, RG.t⟩
  have KG : KindG mg CH (fun i => cs.getD i 0) := ⟨gs EG.hand, gs EG.c0, gs EG.c1, gs EG.c2, gs EG.c3, gs EG.c4, gs EG.c5, gs EG.c6, gs EG.c7, gs EG.c8, gs EG.c9, gs EG.c10, gs EG.c11, gs EG.c12, gs EG.c13, gn NG.n_ValueError, gn NG.n_isinstance⟩
  obtain ⟨f_is_name, d_is_name, a_is_name, F_is_name⟩ := D_is_name
  have b_is_name := F_is_name.binds (ps := ["name", "longest"]) fun _ _ _ _ _ _ us hl => match us, hl with | [_, _], _ => rfl
  obtain ⟨f_is_sign, d_is_sign, a_is_sign, F_is_sign⟩ := D_is_sign
  have b_is_sign := F_is_sign.binds (ps := ["sign"]) fun _ _ _ _ _ _ us hl => match us, hl with | [_], _ => rfl
  obtain ⟨f_are_signs, d_are_signs, a_are_signs, F_are_signs⟩ := D_are_signs
  have b_are_signs := F_are_signs.binds (ps := ["signs"]) fun _ _ _ _ _ _ us hl => match us, hl with | [_], _ => rfl
  obtain ⟨f__law_box, d__law_box, a__law_box, F__law_box⟩ := D__law_box
  have b__law_box := F__law_box.binds (ps := ["_law_script", "_law_k"]) fun _ _ _ _ _ _ us hl => match us, hl with | [_, _], _ => rfl
  obtain ⟨f__law_more, d__law_more, a__law_more, F__law_more⟩ := D__law_more
  have b__law_more := F__law_more.binds (ps := ["_law_box_here"]) fun _ _ _ _ _ _ us hl => match us, hl with | [_], _ => rfl
  obtain ⟨f__law_take, d__law_take, a__law_take, F__law_take⟩ := D__law_take
  have b__law_take := F__law_take.binds (ps := ["_law_box_here", "_law_count"]) fun _ _ _ _ _ _ us hl => match us, hl with | [_, _], _ => rfl
  obtain ⟨f__law_signs, d__law_signs, a__law_signs, F__law_signs⟩ := D__law_signs
  have b__law_signs := F__law_signs.binds (ps := ["_law_box_here"]) fun _ _ _ _ _ _ us hl => match us, hl with | [_], _ => rfl
  obtain ⟨f__law_bent, d__law_bent, a__law_bent, F__law_bent⟩ := D__law_bent
  have b__law_bent := F__law_bent.binds (ps := ["_law_box_here", "_law_signs_here"]) fun _ _ _ _ _ _ us hl => match us, hl with | [_, _], _ => rfl
  obtain ⟨f__law_others, d__law_others, a__law_others, F__law_others⟩ := D__law_others
  have b__law_others := F__law_others.binds (ps := ["_law_box_here", "_law_signs_here"]) fun _ _ _ _ _ _ us hl => match us, hl with | [_, _], _ => rfl
  obtain ⟨f__law_tells, d__law_tells, a__law_tells, F__law_tells⟩ := D__law_tells
  have b__law_tells := F__law_tells.binds (ps := ["_law_book", "_law_signs_here"]) fun _ _ _ _ _ _ us hl => match us, hl with | [_, _], _ => rfl
  obtain ⟨f___init__, d___init__, m___init__, F___init__⟩ := M___init__
  have b___init__ := F___init__.binds (ps := ["self", "signs"]) fun _ _ _ _ _ _ us hl => match us, hl with | [_, _], _ => rfl
  obtain ⟨f_many, d_many, m_many, F_many⟩ := M_many
  have b_many := F_many.binds (ps := ["self"]) fun _ _ _ _ _ _ us hl => match us, hl with | [_], _ => rfl
  obtain ⟨f_name, d_name, m_name, F_name⟩ := M_name
  have b_name := F_name.binds (ps := ["self", "sign"]) fun _ _ _ _ _ _ us hl => match us, hl with | [_, _], _ => rfl
  obtain ⟨f_kids, d_kids, m_kids, F_kids⟩ := M_kids
  have b_kids := F_kids.binds (ps := ["self", "sign"]) fun _ _ _ _ _ _ us hl => match us, hl with | [_, _], _ => rfl
  obtain ⟨f_number, d_number, m_number, F_number⟩ := M_number
  have b_number := F_number.binds (ps := ["self", "name"]) fun _ _ _ _ _ _ us hl => match us, hl with | [_, _], _ => rfl
  obtain ⟨f_is_like, d_is_like, m_is_like, F_is_like⟩ := M_is_like
  have b_is_like := F_is_like.binds (ps := ["self", "book"]) fun _ _ _ _ _ _ us hl => match us, hl with | [_, _], _ => rfl
  have bL : ∀ (s : Shared) (u : Value), BindsTo s (PySem.W.fnOf "law" "law" (defArgs sLaw) (defBody sLaw) (defScope sLaw) .none kV doc pm an (.ref cL) ct) ⟨[u], []⟩ [("_law_script", u)] := fun s v => .of_eq rfl
  refine ⟨_, [(cL, Pt)], spLaw K Pt, fun p hp => ?_, fun p hp => ?_, fun p hp => ?_, bL, fun H a ns hl _ hP hS => ⟨a, ns, rfl, hS, hl, hP (cL, Pt) List.mem_cons_self, fun _ => rfl⟩, fun base KB GBs TB => ?_⟩
  · rw [List.mem_singleton.mp hp]
    exact hT
  · rw [List.mem_singleton.mp hp]
    exact nT
  · rw [List.mem_singleton.mp hp]
    exact hC
  have TB1 : TabB base mg cL Pt := TB (cL, Pt) List.mem_cons_self
  have GX : OneF l.prog w K mg base "_law_box" 1 ["_law_script", "_law_k"] (spBox K) := ⟨_, _, gs a__law_box, F__law_box.kp, ok_box F__law_box GS.toGlob, b__law_box⟩
  have OT := ok_take (P := l.prog) (w := w) (base := base) F__law_take GS.toGlob F__law_more (gs a__law_more) b__law_more
  have OS : OneF l.prog w K mg base "_law_signs" 3 ["_law_box_here"] (spSigns K) := ⟨_, _, gs a__law_signs, F__law_signs.kp, ok_signs F__law_signs GL OT F__law_take.kp (gs a__law_take) b__law_take, b__law_signs⟩
  have OB : OneF l.prog w K mg base "_law_bent" 3 ["_law_box_here", "_law_signs_here"] (spBent K) := ⟨_, _, gs a__law_bent, F__law_bent.kp, ok_bent F__law_bent GB OT F__law_take.kp (gs a__law_take) b__law_take, b__law_bent⟩
  have OO : OneF l.prog w K mg base "_law_others" 3 ["_law_box_here", "_law_signs_here"] (spOthers K) := ⟨_, _, gs a__law_others, F__law_others.kp, ok_others F__law_others GT OT F__law_take.kp (gs a__law_take) b__law_take, b__law_others⟩
  have BM : BookM l.prog w K mg base C := ⟨T, ⟨_, _, m_many, ok_many F_many GS T, b_many⟩, ⟨_, _, m_name, ok_nm F_name T, b_name⟩, ⟨_, _, m_kids, ok_kd F_kids T, b_kids⟩, ⟨_, _, m_number, ok_num F_number GS T, b_number⟩, ⟨_, _, m_is_like, ok_like F_is_like T, b_is_like⟩⟩
  have OL : OneF l.prog w K mg base "_law_tells" 2 ["_law_book", "_law_signs_here"] (spTells K C) := ⟨_, _, gs a__law_tells, F__law_tells.kp, ok_tells F__law_tells GT BM, b__law_tells⟩
  exact ok_law lk hcd GW TB1 GX OS OB OO OL BM ⟨CG.made, m___init__.at_, m___init__.fn, CG.kc⟩ (ok_init F___init__ GS T TN F_is_name (gs a_is_name) b_is_name F_is_sign (gs a_is_sign) b_is_sign F_are_signs (gs a_are_signs) b_are_signs) b___init__ KG (XG.kindT (by decide)) (gs aK) kK lkK hcK
end TH
open PySem PySem.W PyProof.Rows
set_option maxRecDepth 100000 in
set_option maxHeartbeats 0 in
theorem PySem.Challenge.cw_treehands_k01_books_holds : PySem.Challenge.rw_treehands_k01_books.Holds := by
  w_on; o_law; k_head; (case hw => w_witness2)
  k_fill
  refine LamX.walk_ofTs (l := PySem.Challenge.rw_treehands_k01_books) (n := 63) (k := 8) (x := "_law_script") (CX := fun _ => L2.CX0) rfl (by decide) rfl ⟨rfl, by decide, by decide⟩ (fun w h Y => PySem.W.km_in_of Y) ?F (fun _ _ _ _ _ z => z)
  case F =>
    intro w mg fa h Y KX G hmg
    refine' TH.all_mk KX G hmg ?NG ?EG ?CG ?aN ?RG ?XG ?D_is_name ?D_is_sign ?D_are_signs ?D__law_box ?D__law_more ?D__law_take ?D__law_signs ?D__law_bent ?D__law_others ?D__law_tells ?M___init__ ?M_many ?M_name ?M_kids ?M_number ?M_is_like ?k1 ?k2 ?k3 ?aK ?lkK ?hcK ?kK ?aL ?lk ?hcd ?hT ?nT ?hC
    case NG => exact ⟨by k_is, by k_is, by k_is, by k_is, by k_is, by k_is, by k_is, by k_is, by k_is, by k_is, by k_is, by k_is, by k_is⟩
    case EG => (refine' TH.errG_mk ?h ?c0 ?c1 ?c2 ?c3 ?c4 ?c5 ?c6 ?c7 ?c8 ?c9 ?c10 ?c11 ?c12 ?c13; (case h => k_is); (case c0 => k_is); (case c1 => k_is); (case c2 => k_is); (case c3 => k_is); (case c4 => k_is); (case c5 => k_is); (case c6 => k_is); (case c7 => k_is); (case c8 => k_is); (case c9 => k_is); (case c10 => k_is); (case c11 => k_is); (case c12 => k_is); (case c13 => k_is))
    case CG => (refine' TH.ClsG.mk ?a ?pg ?hd ?po ?sa ?made ?kc ?n1 ?n2; (case a => k_is); (case pg => k_is); (case hd => k_is); (case po => k_is); (case sa => k_is); (case made => k_is); (case kc => k_is); (case n1 => k_is); (case n2 => k_is))
    case aN => k_is
    case RG => (refine' TH.RaiseG.mk ?x ?k ?b ?t; (case x => kernel_rfl); (case k => k_is); (case b => k_is); (case t => k_is))
    case XG => (refine' TH.KitG.mk ?ex ?hg ?hk ?hs ?hd ?ha ?hn ?ht ?hm ?val ?kit; (case ex => kernel_rfl); (case hg => k_is); (case hk => k_is); (case hs => k_is); (case hd => k_is); (case ha => k_is); (case hn => k_is); (case ht => k_is); (case hm => k_is); (case val => kernel_rfl); (case kit => kernel_rfl))
    case D_is_name => (refine' TH.defG_mk ?a ?l ?c ?k; (case a => k_is); (case l => k_is); (case c => k_is); (case k => k_is))
    case D_is_sign => (refine' TH.defG_mk ?a ?l ?c ?k; (case a => k_is); (case l => k_is); (case c => k_is); (case k => k_is))
    case D_are_signs => (refine' TH.defG_mk ?a ?l ?c ?k; (case a => k_is); (case l => k_is); (case c => k_is); (case k => k_is))
    case D__law_box => (refine' TH.defG_mk ?a ?l ?c ?k; (case a => k_is); (case l => k_is); (case c => k_is); (case k => k_is))
    case D__law_more => (refine' TH.defG_mk ?a ?l ?c ?k; (case a => k_is); (case l => k_is); (case c => k_is); (case k => k_is))
    case D__law_take => (refine' TH.defG_mk ?a ?l ?c ?k; (case a => k_is); (case l => k_is); (case c => k_is); (case k => k_is))
    case D__law_signs => (refine' TH.defG_mk ?a ?l ?c ?k; (case a => k_is); (case l => k_is); (case c => k_is); (case k => k_is))
    case D__law_bent => (refine' TH.defG_mk ?a ?l ?c ?k; (case a => k_is); (case l => k_is); (case c => k_is); (case k => k_is))
    case D__law_others => (refine' TH.defG_mk ?a ?l ?c ?k; (case a => k_is); (case l => k_is); (case c => k_is); (case k => k_is))
    case D__law_tells => (refine' TH.defG_mk ?a ?l ?c ?k; (case a => k_is); (case l => k_is); (case c => k_is); (case k => k_is))
    case M___init__ => (refine' TH.methG_mk ?a ?i ?l ?c ?k; (case a => k_is); (case i => k_is); (case l => k_is); (case c => k_is); (case k => k_is))
    case M_many => (refine' TH.methG_mk ?a ?i ?l ?c ?k; (case a => k_is); (case i => k_is); (case l => k_is); (case c => k_is); (case k => k_is))
    case M_name => (refine' TH.methG_mk ?a ?i ?l ?c ?k; (case a => k_is); (case i => k_is); (case l => k_is); (case c => k_is); (case k => k_is))
    case M_kids => (refine' TH.methG_mk ?a ?i ?l ?c ?k; (case a => k_is); (case i => k_is); (case l => k_is); (case c => k_is); (case k => k_is))
    case M_number => (refine' TH.methG_mk ?a ?i ?l ?c ?k; (case a => k_is); (case i => k_is); (case l => k_is); (case c => k_is); (case k => k_is))
    case M_is_like => (refine' TH.methG_mk ?a ?i ?l ?c ?k; (case a => k_is); (case i => k_is); (case l => k_is); (case c => k_is); (case k => k_is))
    case k1 => k_is
    case k2 => k_is
    case k3 => k_is
    case aK => k_is
    case lkK => k_is
    case hcK => k_is
    case kK => k_is
    case aL => k_is
    case lk => k_is
    case hcd => k_is
    case hT => exact PySem.W.km_tabs_of Y 325 (List.mem_singleton.mpr rfl)
    case nT => kernel_rfl
    case hC => exact PySem.W.codeHd_of_K KX (by kernel_rfl)
#print axioms PySem.Challenge.cw_treehands_k01_books_holds
