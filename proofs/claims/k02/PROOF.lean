import PyProof.Rows.All
import Wide.All
import OpenK.AllK
import Wide.FinOn
import HandS.ForMost
import HandS.Exc
import HandS.TryOnly
import HandS.WordsExc
import HandS.Wide
import HandS.Gcd
import HandS.IsInst
import HandS.Codes
import HandS.Defaults
import HandS.ExcInit
import HandS.ExcField
import HandS.ExcIs
import HandS.TryMany
import KE.KExcIs
import KE.KOpsOwn
import KE.SortKeyHeap
import KE.SortData
import HandS.SortKw
import HandS.RaiseMore
import HandS.DictTup
import HandS.Conv
import HandS.Style
import HandS.Flow
import HandS.StrMore
import HandS.Property
import KE.KxField
import HandS.WideBits
import HandS.FStr
import KE.KCallOwn
import HandS.ClsMeth
import HandS.Comp
import HandS.Iter
import HandS.Walk
import PySem.Challenge.RW_fontgap_k02_ratio_arithmetic
set_option Elab.async false
set_option maxRecDepth 100000
set_option maxHeartbeats 4000000
set_option exponentiation.threshold 2000
namespace Toy
open PySem L2
def top (i : Nat) : Stmt := PySem.Challenge.pw_fontgap_k02_ratio_arithmetic.main.body.getD i (.Pass ⟨0, 0, 0, 0⟩)
/-! ### the bag of draws -/
/-- a bag stands at b: the script's ints at l, the place, the rest, the state, the count -/
def BagAt (H : Hp) (b : Addr) : Prop := ∃ (l : Addr) (ns : List Int) (p q r c : Int), H b = some (.lst [.ref l, .int p, .int q, .int r, .int c]) ∧ H l = some (.lst (ns.map V.int)) ∧ 0 ≤ p ∧ 0 ≤ r ∧ r < 2147483647
def Keep (b : Addr) (H H' : Hp) : Prop := ∀ a o, H a = some o → a ≠ b → H' a = some o
def spBag (K : PySem.W.Frag) : Sp := fun vs H Q _ => ∃ (a : Addr) (ns : List Int), vs = [.ref a] ∧ SqL K H a (ns.map V.int) ∧ ∀ b H', BagAt H' b → H b = none → Same H H' → Q (.ref b) H'
def spTake : Sp := fun vs H Q _ => ∃ (b : Addr) (n : Int), vs = [.ref b, .int n] ∧ 0 < n ∧ n.natAbs < 2 ^ 300 ∧ BagAt H b ∧
  ∀ (d : Int) H', 0 ≤ d → d < n → BagAt H' b → Keep b H H' → Q (.int d) H'
abbrev sBag : Stmt := top 14
abbrev sTake : Stmt := top 15
theorem cut63 (ns : List Int) : cutV (ns.map V.int) none (some 63) = ((ns.take (HT.sIx (ns.map V.int).length (ns.map V.int).length (some 63) - HT.sIx (ns.map V.int).length 0 none)).drop 0).map V.int ∨ True := .inr trivial
theorem cut_map (ns : List Int) (lo hi : Option Int) : ∃ ms : List Int, cutV (ns.map V.int) lo hi = ms.map V.int := by
  unfold cutV
  rw [← List.map_drop, ← List.map_take]
  exact ⟨_, rfl⟩
section
variable {P : Program} {w : World} {K : PySem.W.Frag} {mg : Str → Option Value} {base : Heap}
theorem scBag : FnScope ["_law_script"] ["_law_script"] (defScope sBag) := ⟨rfl, rfl, rfl, by decide +kernel, rfl, by decide +kernel, by decide +kernel⟩
theorem ok_bag {f : Addr} {fd : FuncData} (F : Fun K "_law_bag" "_law_bag" sBag f fd) (mL : mg "list" = none) : FnOk P w K mg base CX0 1 f fd ["_law_script"] (spBag K) := by
  refine F.ok scBag (fun vs H Q E h => ?_) (fun cdv A outer s H vs Q E hr h => ?_)
  · obtain ⟨a, ns, rfl, _⟩ := h
    rfl
  · obtain ⟨a, ns, rfl, hS, k⟩ := h
    refine ⟨_, pss_one (ps_ret (pe_lst (pa_cons (pe_callTy call_list_of (by rfl) mL (by decide +kernel) (pa_cons (pe_slice sl_list (pv 0) po_none (po_some pe_int)) pa_nil)) (pa_cons pe_int (pa_cons pe_int (pa_cons pe_int (pa_cons pe_int pa_nil))))))), ?_⟩
    refine ⟨_, rfl, _, rfl, a, _, rfl, hS, fun p np => ?_⟩
    obtain ⟨ms, em⟩ := cut_map ns none (some 63)
    refine ⟨p, _, rfl, .inl (SqL.of upd_same), fun l nl => ?_⟩
    refine ⟨by show 5 ≤ sizeLine; decide, fun b nb => ?_⟩
    have hlp : l ≠ p := fun z => by rw [z, upd_same] at nl; cases nl
    have hbl : l ≠ b := fun z => by rw [← z, upd_same] at nb; cases nb
    have hbp : p ≠ b := fun z => by rw [← z, upd_ne (Ne.symm hlp), upd_same] at nb; cases nb
    refine k b _ ⟨l, ms, 0, 0, 7, 0, upd_same, ?_, by decide, by decide, by decide⟩ ?_ ?_
    · rw [upd_ne hbl, upd_same, em]
    · rw [upd_ne (Ne.symm hbl), upd_ne (Ne.symm hbp)] at nb
      exact nb
    · intro c o e
      have hcp : c ≠ p := ne_of_none e np
      have hcl : c ≠ l := fun z => by rw [z] at e; rw [upd_ne hlp] at nl; rw [nl] at e; cases e
      have hcb : c ≠ b := fun z => by rw [z] at e; rw [upd_ne (Ne.symm hbl), upd_ne (Ne.symm hbp)] at nb; rw [nb] at e; cases e
      rw [upd_ne hcb, upd_ne hcl, upd_ne hcp]
      exact e
end
section
variable {P : Program} {w : World} {K : PySem.W.Frag} {mg : Str → Option Value} {base : Heap}
theorem scTake : FnScope ["_law_bag_here", "_law_size", "_law_digit", "_law_cell"] ["_law_bag_here", "_law_size"] (defScope sTake) := ⟨rfl, rfl, rfl, by decide +kernel, rfl, by decide +kernel, by decide +kernel⟩
theorem fm_nn (a : Int) {n : Int} (h : 0 < n) : 0 ≤ a.fmod n ∧ a.fmod n < n := by
  rw [Int.fmod_eq_emod_of_nonneg _ (by omega)]
  exact ⟨Int.emod_nonneg _ (by omega), Int.emod_lt_of_pos _ h⟩
theorem bag_keep {H : Hp} {b : Addr} {o : HO} : Keep b H (upd H b o) := fun a u e h => by rw [upd_ne h]; exact e
theorem Keep.trans {b : Addr} {H H1 H2 : Hp} (a : Keep b H H1) (c : Keep b H1 H2) : Keep b H H2 := fun x o e h => c x o (a x o e h) h
theorem Keep.refl {b : Addr} {H : Hp} : Keep b H H := fun _ _ e _ => e
theorem ok_take {f : Addr} {fd : FuncData} (F : Fun K "_law_take" "_law_take" sTake f fd) (mL : mg "len" = none) (mI : mg "int" = none) : FnOk P w K mg base CX0 1 f fd ["_law_bag_here", "_law_size"] spTake := by
  refine F.ok scTake (fun vs H Q E h => ?_) (fun cdv A outer s H vs Q E hr h => ?_)
  · obtain ⟨a, ns, rfl, _⟩ := h
    rfl
  · obtain ⟨b, n, rfl, n0, nW, ⟨l, ns, p, q, r, c, hb, hl, p0, r0, r1⟩, k⟩ := h
    have wd : CDivW 0 n := wide_div n0 nW (by decide) (by decide)
    have nn : n ≠ 0 := by omega
    refine ⟨_, pss_cons (ps_if (pt_cmpR op_ge (pe_ix ix_list (pv 0) pe_int (fun _ _ => rfl)) (pe_op op_pow pe_int pe_int) (nomark _))
        (pss_cons (ps_set (i := 2) scTake.nd rfl (Or.inl rfl) (pe_op op_modN (pe_callTy call_int1 (by rfl) mI (by decide +kernel) (pa_cons (pe_ix ix_list (pv 0) pe_int (fun _ _ => rfl)) pa_nil)) (pv 1)))
        (pss_cons (ps_asg (pe_op op_fdivW (pe_ix ix_list (pv 0) pe_int (fun _ _ => rfl)) (pv 1)) (pg_sub (pv 0) pe_int set_list))
        (pss_one (ps_ret (pv 2))))) pss_nil)
      (pss_cons (ps_set (i := 3) scTake.nd rfl (Or.inl rfl) pe_int)
      (C8.pss_cut (ps_if (pt_cmpR op_lt (pe_ix ix_list (pv 0) pe_int (fun _ _ => rfl)) (pe_callB call_len_seq (by rfl) mL PySem.boot_len (pa_cons (pe_ix ix_list (pv 0) pe_int (fun _ _ => rfl)) pa_nil)) (nomark _))
        (pss_cons (ps_set (i := 3) scTake.nd rfl (Or.inl rfl) (pe_ix ix_list (pe_ix ix_list (pv 0) pe_int (fun _ _ => rfl)) (pe_ix ix_list (pv 0) pe_int (fun _ _ => rfl)) (fun _ _ => rfl)))
        (pss_one (ps_asg (pe_op op_add (pe_ix ix_list (pv 0) pe_int (fun _ _ => rfl)) pe_int) (pg_sub (pv 0) pe_int set_list)))) pss_nil)
      (pss_cons (ps_if (pt_cmpR op_ge (pv 3) (pe_op op_pow pe_int pe_int) (nomark _))
        (pss_cons (ps_asg (pe_op op_fdivW (pv 3) (pv 1)) (pg_sub (pv 0) pe_int set_list))
        (pss_one (ps_ret (pe_op op_modN (pe_callTy call_int1 (by rfl) mI (by decide +kernel) (pa_cons (pv 3) pa_nil)) (pv 1))))) pss_nil)
      (pss_cons (ps_asg (pe_op op_add (pe_ix ix_list (pv 0) pe_int (fun _ _ => rfl)) pe_int) (pg_sub (pv 0) pe_int set_list))
      (pss_cons (ps_asg (pe_op op_mod (pe_callTy call_int1 (by rfl) mI (by decide +kernel) (pa_cons (pe_op op_add (pe_op op_add (pe_op op_mul (pe_ix ix_list (pv 0) pe_int (fun _ _ => rfl)) pe_int) (pv 3)) (pe_op op_mul (pe_ix ix_list (pv 0) pe_int (fun _ _ => rfl)) pe_int)) pa_nil)) pe_int) (pg_sub (pv 0) pe_int set_list))
      (pss_one (ps_ret (pe_op op_modN (pe_op op_fdiv (pe_op op_mod (pe_callTy call_int1 (by rfl) mI (by decide +kernel) (pa_cons (pe_op op_mul (pe_ix ix_list (pv 0) pe_int (fun _ _ => rfl)) (pe_ix ix_list (pv 0) pe_int (fun _ _ => rfl))) pa_nil)) pe_int) pe_int) (pv 1))))))))), ?_⟩
    have at2 : ∀ (a0 a1 a2 a3 a4 : V), atI [a0, a1, a2, a3, a4] 2 = some a2 := fun _ _ _ _ _ => rfl
    -- if bag[2] >= 10 ** 18
    refine ⟨_, rfl, b, _, _, _, rfl, rfl, SqL.of hb, rfl, 10, 18, rfl, rfl, ⟨by decide, by decide, by decide⟩, _, _, rfl, rfl, _, rfl, ?_⟩
    refine ite2 (fun _ => ?_) (fun _ => ?_)
    · refine ⟨_, rfl, b, _, _, _, rfl, rfl, SqL.of hb, rfl, .inl ⟨_, rfl, ?_⟩⟩
      refine ⟨_, rfl, _, _, rfl, rfl, nn, ?_⟩
      refine ⟨_, rfl, b, _, _, _, rfl, rfl, SqL.of hb, rfl, _, rfl, _, _, rfl, rfl, ⟨wd.1, wd.2⟩, ?_⟩
      refine ⟨_, rfl, b, _, _, 2, rfl, rfl, hb, rfl, ?_⟩
      refine ⟨_, rfl, k _ _ (fm_nn _ n0).1 (fm_nn _ n0).2 ⟨l, ns, p, q / n, r, c, upd_same, ?_, p0, r0, r1⟩ bag_keep⟩
      rw [upd_ne (ne_of hl hb (by intro z; cases ns with | nil => cases z | cons a t => cases z))]
      exact hl
    · -- cell = 0; the join
      refine ⟨fun σ' H' => ∃ (p' cell : Int) (v : Option V), σ' = [some (.ref b), some (.int n), v, some (.int cell)] ∧ 0 ≤ p' ∧ H' b = some (.lst [.ref l, .int p', .int q, .int r, .int c]) ∧ H' l = some (.lst (ns.map V.int)) ∧ Keep b H H', ?_, ?_⟩
      · refine ⟨_, rfl, b, _, _, _, rfl, rfl, SqL.of hb, rfl, _, rfl, b, _, _, _, rfl, rfl, SqL.of hb, rfl, l, _, rfl, .inl (SqL.of hl), _, _, rfl, rfl, _, rfl, ?_⟩
        refine ite2 (fun hp => ?_) (fun _ => ?_)
        · have hp' : p < ((ns.map V.int).length : Int) := of_decide_eq_true hp
          rw [List.length_map] at hp'
          obtain ⟨m, rfl⟩ : ∃ m : Nat, p = (m : Int) := ⟨p.toNat, by omega⟩
          have hm : m < ns.length := by omega
          refine ⟨_, rfl, b, _, _, _, rfl, rfl, SqL.of hb, rfl, _, rfl, b, _, _, _, rfl, rfl, SqL.of hb, rfl, l, _, _, .int ns[m], rfl, rfl, SqL.of hl, atI_nat (by rw [List.getElem?_map, List.getElem?_eq_getElem hm]; rfl), ?_⟩
          refine ⟨_, rfl, b, _, _, _, rfl, rfl, SqL.of hb, rfl, _, _, rfl, rfl, ?_⟩
          refine ⟨_, rfl, b, _, _, 1, rfl, rfl, hb, rfl, ?_⟩
          refine ⟨(m : Int) + 1, ns[m], none, rfl, by omega, upd_same, ?_, bag_keep⟩
          rw [upd_ne (ne_of hl hb (by intro z; cases ns with | nil => cases z | cons a t => cases z))]
          exact hl
        · exact ⟨p, 0, none, rfl, p0, hb, hl, Keep.refl⟩
      · rintro σ' H' ⟨p', cell, v, rfl, p0', hb', hl', kp⟩
        have hbl : ∀ o, upd H' b o l = some (.lst (ns.map V.int)) := fun o => by
          rw [upd_ne (ne_of hl' hb' (by intro z; cases ns with | nil => cases z | cons a t => cases z))]
          exact hl'
        refine ⟨_, rfl, 10, 18, rfl, rfl, ⟨by decide, by decide, by decide⟩, _, _, rfl, rfl, _, rfl, ?_⟩
        refine ite2 (fun _ => ?_) (fun _ => ?_)
        · refine ⟨_, rfl, _, rfl, _, _, rfl, rfl, ⟨wd.1, wd.2⟩, ?_⟩
          refine ⟨_, rfl, b, _, _, 2, rfl, rfl, hb', rfl, ?_⟩
          refine ⟨_, rfl, .inl ⟨_, rfl, ?_⟩⟩
          refine ⟨_, rfl, _, _, rfl, rfl, nn, ?_⟩
          exact k _ _ (fm_nn _ n0).1 (fm_nn _ n0).2 ⟨l, ns, p', cell / n, r, c, upd_same, hbl _, p0', r0, r1⟩ (kp.trans bag_keep)
        · refine ⟨_, rfl, b, _, _, _, rfl, rfl, SqL.of hb', rfl, _, _, rfl, rfl, ?_⟩
          refine ⟨_, rfl, b, _, _, 4, rfl, rfl, hb', rfl, ?_⟩
          refine ⟨_, rfl, b, _, _, _, rfl, rfl, SqL.of upd_same, rfl, _, _, rfl, rfl, .inr (by decide), ?_⟩
          refine ⟨_, rfl, _, _, rfl, rfl, ?_⟩
          refine ⟨_, rfl, b, _, _, _, rfl, rfl, SqL.of upd_same, rfl, _, _, rfl, rfl, .inr (by decide), ?_⟩
          refine ⟨_, _, rfl, rfl, .inl ⟨_, rfl, ?_⟩⟩
          refine ⟨_, _, rfl, rfl, (by show (0 : Int) < 2147483647; decide), ?_⟩
          refine ⟨_, rfl, b, _, _, 3, rfl, rfl, upd_same, rfl, ?_⟩
          have z0 : ∀ x : Int, 0 ≤ x % 2147483647 ∧ x % 2147483647 < 2147483647 := fun x => by omega
          generalize (r * 48271 + cell + (c + 1) * 69621 : Int) = x
          obtain ⟨y0, y1⟩ := z0 x
          refine ⟨_, rfl, b, _, _, _, rfl, rfl, SqL.of upd_same, rfl, _, rfl, b, _, _, _, rfl, rfl, SqL.of upd_same, rfl, _, _, rfl, rfl, .inl ⟨by omega, by omega⟩, .inl ⟨_, rfl, ?_⟩⟩
          refine ⟨_, _, rfl, rfl, (by show (0 : Int) < 2147483629; decide), ?_⟩
          refine ⟨_, _, rfl, rfl, ⟨by decide, by decide⟩, ?_⟩
          refine ⟨_, rfl, _, _, rfl, rfl, nn, ?_⟩
          refine k _ _ (fm_nn _ n0).1 (fm_nn _ n0).2 ⟨l, ns, p', q, x % 2147483647, c + 1, upd_same, ?_, p0', y0, y1⟩ ((kp.trans bag_keep).trans bag_keep)
          rw [upd_upd]
          exact hbl _
end
/-! ### rules of my own -/
section
variable {X : Cx}
/-- // by any divisor but 0, below 2 ^ 9000 in size -/
def CDivX (_ j : Int) : Prop := j ≠ 0 ∧ j.natAbs.log2 < 9000
theorem op_fdivX : OpR X (binaryOp .FloorDiv) (rI CDivX fun i j => .int (i.fdiv j)) := opI fun i j _ _ _ _ _ hc q =>
  PyProof.Rows.floordiv_int hc.1 q (.inl (PyProof.noPylong_of_log2 hc.2))
theorem divx {i j : Int} {b : Nat} (h : j ≠ 0) (hb : j.natAbs < 2 ^ b) (h0 : 0 < b) (h9 : b ≤ 9000) : CDivX i j := ⟨h, Nat.lt_of_lt_of_le (PySem.Flt.log2_lt_of h0 hb) h9⟩
/-- C(e, ..) whose __init__ may raise, wished for at the caller's slots -/
def tMakeS (C : Addr) (sp : Sp) (dvs : List V) (E : St → XK) (t : TA) : TE := fun σ H Q => t σ H fun vs H1 => ∀ x dx, H1 x = none → H1 dx = none → dx ≠ x →
  sp (.ref x :: (vs ++ dvs)) (upd (upd H1 dx (.own x)) x (.ins C dx [])) (fun v H2 => v = .non ∧ Q (.ref x) H2) (E σ)
theorem pe_makeS {CX : CXT} {k : Nat} {f C : Addr} {fd : FuncData} {ps : List Str} {sp : Sp} {E : St → XK} {x : Str} {p pos : Pos} {e : Expr} {es : List Expr} {t : TA} {ds : List Value} {dvs : List V}
    (M : Mk X.K C f) (F : FnOk X.prog X.w X.K X.mg X.base CX k f fd ps sp) (hr : Room (k + 1) X.A) (hg : Gl X x) (hm : X.mg x = some (.ref C)) (hb : Binds X.K fd ps ds) (hd : Vals dvs ds) (hx : ∀ σ, PassesAt CX X σ (E σ))
    (ha : PA X (e :: es) t) (hdb : (x == ("__debug__" : Str)) = false := by decide) (he : starEach (e :: es) X.env = (false, eval e X.env) :: starEach es X.env := by rfl) (hpl : (backTo pos (starEach es X.env)).any (·.1) = false := by rfl) :
    PE X (.Call (.Name x p) (e :: es) [] pos) (tMakeS C sp dvs E t) := by
  refine ⟨fun pins s σ H Q I h => ?_⟩
  refine PySem.wpAny_Call_Name_kw (ld_glob I hg hm ?_ hdb)
  refine PySem.W.callWith_K (h₀ := X.base) I.ok.mod.kin M.kp (thn (ha.run pos pins s σ H _ I h) fun us s1 ⟨vs, H1, I1, r, q1⟩ => ⟨I1.kIn, ?_⟩) he hpl
  have hq := q1 (s1.heap.objs.size + 1) s1.heap.objs.size (I1.hok.fresh (Nat.le_succ _)) (I1.hok.fresh (Nat.le_refl _)) (Nat.ne_of_lt (Nat.lt_succ_self _))
  have I2 := Inv.made (C := C) I1
  have r2 : Vals (V.ref (s1.heap.objs.size + 1) :: (vs ++ dvs)) (Value.ref (s1.heap.objs.size + 1) :: (us ++ ds)) := .cons rfl (r.append hd)
  have hl : (Value.ref (s1.heap.objs.size + 1) :: us ++ ds).length = ps.length := by
    have e := r2.length
    rw [F.len _ _ _ _ hq] at e
    exact e.symm
  refine wpAny_call (make_map (f := f) I1.kIn M.makes M.init (beq_iff_eq.mp M.fn) (codeAny_mono (F.run _ X.stack _ _ ⟨Value.ref (s1.heap.objs.size + 1) :: us, []⟩ (Value.ref (s1.heap.objs.size + 1) :: (us ++ ds)) _ _ (E σ) (hr.make C us [])
    (I2.env0.make C us []) (hb _ (Value.ref (s1.heap.objs.size + 1) :: us) I2.kIn hl) r2 hq) fun r s' hq' => ?_))
  cases r with
  | error e => exact hx σ pins _ _ e s' I2 hq'
  | ok fl =>
    cases fl with
    | ret u =>
      obtain ⟨v, H', I3, rv, ev, q3⟩ := I2.after hq'
      subst ev
      exact ⟨rv, ⟨V.ref (s1.heap.objs.size + 1), H', I3, rfl, q3⟩⟩
    | next => exact False.elim hq'
    | brk => exact False.elim hq'
    | cont => exact False.elim hq'
end
/-! ### an own error with one field -/
theorem upd_exc {H : Hp} {a dx : Addr} {u1 u2 u3 o : HO} (ha : H a = none) (hd : dx ≠ a) : upd (del (upd (upd (upd H a u1) dx u2) a u3) a) dx o = upd H dx o := by
  funext b
  by_cases h1 : b = dx
  · rw [h1, upd_same, upd_same]
  · rw [upd_ne h1, upd_ne h1]
    by_cases h2 : b = a
    · rw [h2, del_same, ha]
    · rw [del_ne h2, upd_ne h2, upd_ne h1, upd_ne h2]
/-- C.__init__(self, y): self.f = y -/
def spEx1 (C : Addr) (f : Str) : Sp := fun vs H Q _ => ∃ (a : Addr) (y : V), vs = [.ref a, y] ∧ H a = some (exo a C none) ∧ ∀ dx, H dx = none → dx ≠ a → Q .non (upd (upd H dx (exd dx [(f, y)])) a (exo a C (some dx)))
theorem mkO1 {C : Addr} {f : Str} {ta : TA} {σ : St} {H : Hp} {Q : XK} (h : ta σ H fun vs H1 => ∃ y, vs = [y] ∧ ∀ d, H1 d = none → Q (.ref C) (some d) (upd H1 d (.xd [(f, y)]))) (hm : ∀ (P R : List V → Hp → Prop), (∀ vs H, P vs H → R vs H) → ta σ H P → ta σ H R) : tMkO C (spEx1 C f) [] ta σ H Q := by
  refine hm _ _ (fun vs H1 ⟨y, ev, k⟩ => ?_) h
  subst ev
  refine ⟨by show 1 ≤ 1000; decide, fun a na => ⟨a, y, rfl, upd_same, fun dx hdx nda => ⟨rfl, dx, [(f, y)], upd_same, ?_, ?_, ?_⟩⟩⟩
  · rw [upd_ne nda, upd_same]
  · rw [upd_ne nda] at hdx
    exact hdx
  · rw [upd_exc na nda]
    rw [upd_ne nda] at hdx
    exact k dx hdx
/-- what the written part says of such a class and its __init__ -/
structure ErrC (K : PySem.W.Frag) (mg : Str → Option Value) (x : Str) (C fI : Addr) : Prop where
  g : mg x = some (.ref C)
  T : OexC K C
  iC : PySem.W.findIn K (.ref C) "__init__" = some (some (.ref fI))
  tI : PySem.W.typeIn K (.ref fI) = some (.type "function")
/-- raise C(e) -/
def tRaise1 (C : Addr) (f : Str) (W : WX) (te : TE) : TS := fun _ σ H => te σ H fun y H1 => ∀ d, H1 d = none → W (.ref C) (some d) σ (upd H1 d (.xd [(f, y)]))
section
variable {X : Cx}
theorem ps_raise1 {CX : CXT} {x f : Str} {C fI : Addr} {k : Nat} {fd : FuncData} {te : TE} {W : WX} {a : Expr} {p pos pos2 : Pos} (R : ErrC X.K X.mg x C fI) (F1 : FnOk X.prog X.w X.K X.mg X.base CX k fI fd ["self", f] (spEx1 C f)) (hr : Room (k + 1) X.A) (hb : Binds X.K fd ["self", f] [])
    (hx : Passes CX X (fun _ _ _ => False)) (hc : X.calm = true) (tk : Takes X W) (ha : PE X a te) (hm : ∀ σ H (P R : V → Hp → Prop), (∀ v H, P v H → R v H) → te σ H P → te σ H R) (hg : Gl X x := by rfl) (hdb : (x == ("__debug__" : Str)) = false := by decide)
    (he : starEach (a :: []) X.env = (false, eval a X.env) :: starEach [] X.env := by rfl) (hpl : (backTo pos (starEach [] X.env)).any (·.1) = false := by rfl) :
    PS X (.Raise (some (.Call (.Name x p) [a] [] pos)) none pos2) (tRaise1 C f W te) := by
  have q := ps_raise hc tk (pmk_oex (p := p) (e := a) (es := []) R.T R.iC R.tI F1 hr hb .nil hx hg R.g (pa_cons ha pa_nil he) hdb he hpl) (pos := pos2)
  refine ⟨fun pins s σ H D I h => q.run pins s σ H D I ?_⟩
  refine mkO1 (f := f) ?_ (fun P R hpr h => ?_)
  · exact hm σ H _ _ (fun y H1 k => ⟨y, rfl, k⟩) h
  · exact hm σ H _ _ (fun v H1 k => hpr _ _ k) h
theorem mono_tVar {i : Nat} (σ : St) (H : Hp) (P R : V → Hp → Prop) (h : ∀ v H, P v H → R v H) : tVar i σ H P → tVar i σ H R := fun ⟨v, e, p⟩ => ⟨v, e, h v H p⟩
end
/-! ### kinds of values -/
/-- v is an int (a truth value too): i; a truth value: b -/
def Kd (K : PySem.W.Frag) (H : Hp) (v : V) (i b : Bool) : Prop := ∃ T : String, TyX K H v (.type T) ∧ kitB T "int" = some i ∧ kitB T "bool" = some b
theorem Kd.int {K : PySem.W.Frag} {H : Hp} {n : Int} : Kd K H (.int n) true false := ⟨"int", .base (.int n), by decide +kernel, by decide +kernel⟩
theorem Kd.bl {K : PySem.W.Frag} {H : Hp} {n : Bool} : Kd K H (.bl n) true true := ⟨"bool", .base (.bl n), by decide +kernel, by decide +kernel⟩
theorem Kd.non {K : PySem.W.Frag} {H : Hp} : Kd K H .non false false := ⟨"NoneType", .base .non, by decide +kernel, by decide +kernel⟩
theorem Kd.str {K : PySem.W.Frag} {H : Hp} {z : Str} : Kd K H (.str z) false false := ⟨"str", .base (.str z), by decide +kernel, by decide +kernel⟩
theorem Kd.lst {K : PySem.W.Frag} {H : Hp} {a : Addr} {xs : List V} (e : H a = some (.lst xs)) : Kd K H (.ref a) false false := ⟨"list", .base (.lst e), by decide +kernel, by decide +kernel⟩
theorem Kd.tup {K : PySem.W.Frag} {H : Hp} {a : Addr} {xs : List V} (e : H a = some (.tup xs)) : Kd K H (.ref a) false false := ⟨"tuple", .base (.tup e), by decide +kernel, by decide +kernel⟩
/-! ### is_whole, and the law's own of that shape -/
def spWhole (K : PySem.W.Frag) : Sp := fun vs H Q _ => ∃ (v : V) (i b : Bool), vs = [v] ∧ Kd K H v i b ∧ Q (.bl (i && !b)) H
section
variable {P : Program} {w : World} {K : PySem.W.Frag} {mg : Str → Option Value} {base : Heap}
abbrev sWhole : Stmt := top 6
theorem scWhole : FnScope ["value"] ["value"] (defScope sWhole) := ⟨rfl, rfl, rfl, by decide +kernel, rfl, by decide +kernel, by decide +kernel⟩
theorem ok_whole {f : Addr} {fd : FuncData} (F : Fun K "is_whole" "is_whole" sWhole f fd) (mIs : mg "isinstance" = none) (mI : mg "int" = none) (mB : mg "bool" = none) : FnOk P w K mg base CX0 1 f fd ["value"] (spWhole K) := by
  refine F.ok scWhole (fun vs H Q E h => ?_) (fun cdv A outer s H vs Q E hr h => ?_)
  · obtain ⟨v, i, b, rfl, _⟩ := h
    rfl
  · obtain ⟨v, i, b, rfl, ⟨T, ty, k1, k2⟩, k⟩ := h
    refine ⟨_, pss_one (ps_ret (pe_and (pe_callB call_isi (by rfl) mIs (by decide +kernel) (pa_cons (pv 0) (pa_cons (pe_bltn (v := .ty "int") (by rfl) mI (by decide +kernel) rfl) pa_nil)))
      (pe_one (pe_not (pe_callB call_isi (by rfl) mIs (by decide +kernel) (pa_cons (pv 0) (pa_cons (pe_bltn (v := .ty "bool") (by rfl) mB (by decide +kernel) rfl) pa_nil))))))), ?_⟩
    refine ⟨_, rfl, _, _, _, _, i, rfl, .ty "int", ty, kit_ty k1, i, rfl, ?_⟩
    cases i with
    | false => exact iteF k
    | true =>
      refine iteT ?_
      exact ⟨_, rfl, _, _, _, _, b, rfl, .ty "bool", ty, kit_ty k2, b, rfl, k⟩
/-! ### an error's __init__ -/
abbrev sEI : Stmt := inClass (top 4) 0
theorem scEI : FnScope ["self", "value"] ["self", "value"] (defScope sEI) := ⟨rfl, rfl, rfl, by decide +kernel, rfl, by decide +kernel, by decide +kernel⟩
theorem ok_ei {f C : Addr} {fd : FuncData} (F : Fun K "__init__" "InvalidNumber.__init__" sEI f fd) (T : OexC K C) (hno : PySem.W.findIn K (.ref C) "value" = some none) : FnOk P w K mg base CX0 1 f fd ["self", "value"] (spEx1 C "value") := by
  refine F.ok scEI (fun vs H Q E h => ?_) (fun cdv A outer s H vs Q E hr h => ?_)
  · obtain ⟨v, i, rfl, _⟩ := h
    rfl
  · obtain ⟨a, y, rfl, ha, k⟩ := h
    refine ⟨_, pss_one (ps_ost (pv 0) (pv 1)), ?_⟩
    exact ⟨_, rfl, _, rfl, a, C, rfl, T, hno, .inl ⟨ha, fun dx n ne => k dx n ne⟩⟩
/-! ### Ratio.__init__ -/
/-- the common divisor, with the bottom's sign -/
def cmn (m n : Int) : Int := if n < 0 then -((Nat.gcd m.natAbs n.natAbs : Nat) : Int) else ((Nat.gcd m.natAbs n.natAbs : Nat) : Int)
theorem cmn_ne {m n : Int} (h : n ≠ 0) : cmn m n ≠ 0 := by
  have z : 0 < Nat.gcd m.natAbs n.natAbs := Nat.gcd_pos_of_pos_right _ (by omega)
  unfold cmn
  split <;> omega
theorem cmn_lt {m n : Int} {b : Nat} (h : n ≠ 0) (hb : n.natAbs < 2 ^ b) : (cmn m n).natAbs < 2 ^ b := by
  have z : Nat.gcd m.natAbs n.natAbs ≤ n.natAbs := Nat.gcd_le_right _ (by omega)
  unfold cmn
  split <;> omega
theorem ne_tb : ¬ (("top" : Str) = "bottom") := by decide +kernel
/-- a ratio's fields -/
def rfl2 (a b : Int) : List (Str × V) := putF "bottom" (.int b) (putF "top" (.int a) [])
theorem rfl2_top (a b : Int) : (rfl2 a b).lookup ("top" : Str) = some (.int a) := by
  unfold rfl2
  rw [lookup_putF, if_neg ne_tb, lookup_putF, if_pos rfl]
theorem rfl2_bottom (a b : Int) : (rfl2 a b).lookup ("bottom" : Str) = some (.int b) := by
  unfold rfl2
  rw [lookup_putF, if_pos rfl]
theorem rfl2_no (a b : Int) {m : Str} (h1 : ¬ m = "bottom") (h2 : ¬ m = "top") : (rfl2 a b).lookup m = none := by
  unfold rfl2
  rw [lookup_putF, if_neg h1, lookup_putF, if_neg h2]
  all_goals rfl
def spInit (K : PySem.W.Frag) (C CI : Addr) : Sp := fun vs H Q E => ∃ (p dx : Addr) (t u : V) (i b j c : Bool), vs = [.ref p, t, u] ∧ H p = some (.ins C dx []) ∧ Kd K H t i b ∧ Kd K H u j c ∧
  ((i && !b) = false → ∀ d, H d = none → E (.ref CI) (some d) (upd H d (.xd [("value", t)]))) ∧
  ((i && !b) = true → (j && !c) = false → ∀ d, H d = none → E (.ref CI) (some d) (upd H d (.xd [("value", u)]))) ∧
  ((i && !b) = true → (j && !c) = true → ∃ m n : Int, t = .int m ∧ u = .int n ∧ n.natAbs < 2 ^ 900 ∧ (n = 0 → ∀ d, H d = none → E (.ref CI) (some d) (upd H d (.xd [("value", u)]))) ∧
    (n ≠ 0 → Q .non (upd H p (.ins C dx (rfl2 (m.fdiv (cmn m n)) (n.fdiv (cmn m n)))))))
/-- what is asked of the text around Ratio -/
structure TxR (K : PySem.W.Frag) (mg : Str → Option Value) (C CI fE fW : Addr) : Prop where
  cl : Cls K C
  nT : NoAttr K C "top"
  nB : NoAttr K C "bottom"
  mgC : mg "Ratio" = some (.ref C)
  err : ErrC K mg "InvalidNumber" CI fE
  mgW : mg "is_whole" = some (.ref fW)
  kW : PySem.W.keepIn K (.ref fW) = true
  mgG : mg "gcd" = some (.builtin "math.gcd")
abbrev sInit : Stmt := inClass (top 9) 1
theorem scInit : FnScope ["self", "top", "bottom", "common"] ["self", "top", "bottom"] (defScope sInit) := ⟨rfl, rfl, rfl, by decide +kernel, rfl, by decide +kernel, by decide +kernel⟩
theorem ok_init {f C CI fE fW : Addr} {fd fdE fdW : FuncData} (F : FunD K "__init__" "Ratio.__init__" (defArgs sInit) (defBody sInit) (defScope sInit) [.int 1] [] f fd) (T : TxR K mg C CI fE fW)
    (GE : FnOk P w K mg base CX0 1 fE fdE ["self", "value"] (spEx1 CI "value")) (bE : Binds K fdE ["self", "value"] []) (GW : FnOk P w K mg base CX0 1 fW fdW ["value"] (spWhole K)) (bW : Binds K fdW ["value"] []) : FnOk P w K mg base (L2.CX P w) 3 f fd ["self", "top", "bottom"] (spInit K C CI) := by
  refine F.ok scInit (fun vs H Q E h => ?_) (fun cdv A outer s H vs Q E hr h => ?_)
  · obtain ⟨p, dx, t, u, i, b, j, c, rfl, _⟩ := h
    rfl
  · obtain ⟨p, dx, t, u, i, b, j, c, rfl, hp, kt, ku, e1, e2, e3⟩ := h
    have hr1 : Room 1 _ := hr.mono (by decide)
    refine ⟨_, pss_cons (ps_if (pt_not (pt_val (pe_call GW hr1 (by rfl) T.mgW T.kW bW .nil pass0 (pa_cons (pv 1) pa_nil)))) (pss_one (ps_raise1 T.err GE hr bE pass0 rfl (takes_of rfl rfl rfl rfl) (pv 1) (fun σ H P R h => mono_tVar σ H P R h))) pss_nil)
      (pss_cons (ps_if (PW.pt (pw_or (pt_not (pt_val (pe_call GW hr1 (by rfl) T.mgW T.kW bW .nil pass0 (pa_cons (pv 2) pa_nil)))) (pw_or1 (pt_cmpR op_eq (pv 2) pe_int (nomark _))))) (pss_one (ps_raise1 T.err GE hr bE pass0 rfl (takes_of rfl rfl rfl rfl) (pv 2) (fun σ H P R h => mono_tVar σ H P R h))) pss_nil)
      (pss_cons (ps_set (i := 3) scInit.nd rfl (Or.inl rfl) (pe_callBfun cr_gcd (by rfl) T.mgG (pa_cons (pv 1) (pa_cons (pv 2) pa_nil))))
      (C8.pss_cut (ps_if (pt_cmpR op_lt (pv 2) pe_int (nomark _)) (pss_one (ps_set (i := 3) scInit.nd rfl (Or.inl rfl) (pe_un un_neg (pv 3)))) pss_nil)
      (pss_cons (ps_fld (pv 0) (pe_op op_fdivX (pv 1) (pv 3)) rfl)
      (pss_one (ps_fld (pv 0) (pe_op op_fdivX (pv 2) (pv 3)) rfl)))))), ?_⟩
    refine ⟨_, rfl, t, i, b, rfl, kt, _, rfl, ?_⟩
    cases hi : (i && !b) with
    | false => exact iteT ⟨_, rfl, fun d hd => e1 hi d hd⟩
    | true =>
      refine iteF ⟨_, rfl, u, j, c, rfl, ku, _, rfl, ?_⟩
      cases hj : (j && !c) with
      | false => exact iteT (iteT ⟨_, rfl, fun d hd => e2 hi hj d hd⟩)
      | true =>
        obtain ⟨m, n, rfl, rfl, hn, k0, k1⟩ := e3 hi hj
        refine iteF ⟨_, rfl, rfl, _, rfl, ?_⟩
        rw [dec_int]
        by_cases n0 : n = 0
        · rw [show (n == 0) = true from beq_iff_eq.mpr n0]
          exact iteT ⟨_, rfl, fun d hd => k0 n0 d hd⟩
        · rw [show (n == 0) = false from beq_eq_false_iff_ne.mpr n0]
          refine iteF ⟨_, rfl, _, rfl, m, n, rfl, ?_⟩
          refine ⟨fun σ' H' => H' = H ∧ σ' = [some (.ref p), some (.int m), some (.int n), some (.int (cmn m n))], ?_, ?_⟩
          · refine ⟨_, rfl, _, _, rfl, rfl, _, rfl, ?_⟩
            refine ite2 (fun h0 => ?_) (fun h0 => ?_)
            · refine ⟨_, rfl, _, rfl, rfl, ?_⟩
              unfold cmn
              rw [if_pos (of_decide_eq_true h0)]
              rfl
            · refine ⟨rfl, ?_⟩
              unfold cmn
              rw [if_neg (fun z => h0 (decide_eq_true z))]
              rfl
          · rintro σ' H' ⟨rfl, rfl⟩
            have cn := cmn_ne (m := m) n0
            have cw := cmn_lt (m := m) n0 hn
            refine ⟨_, rfl, _, rfl, _, _, rfl, rfl, divx cn cw (by decide) (by decide), _, rfl, p, C, dx, _, rfl, hp, T.cl, T.nT, (by show 0 < 1000; decide), ?_⟩
            refine ⟨_, rfl, _, rfl, _, _, rfl, rfl, divx cn cw (by decide) (by decide), _, rfl, p, C, dx, _, rfl, upd_same, T.cl, T.nB, (by show 1 < 1000; decide), ?_⟩
            have q := k1 n0
            show Q .non _
            rw [upd_upd]
            exact q
end
/-! ### what stays -/
theorem TyOf.sm {K : PySem.W.Frag} {H H' : Hp} {v : V} {t : Value} (s : Same H H') (h : TyOf K H v t) : TyOf K H' v t := by
  cases h with
  | non => exact .non
  | bl x => exact .bl x
  | int i => exact .int i
  | str x => exact .str x
  | flt x => exact .flt x
  | lst e => exact .lst (s _ _ e)
  | frz e => exact .frz (s _ _ e)
  | tup e => exact .tup (s _ _ e)
  | dK e => exact .dK (s _ _ e)
  | dT e => exact .dT (s _ _ e)
  | ins e cl ha hn htk hm => exact .ins (s _ _ e) cl ha hn htk hm
theorem TyX.sm {K : PySem.W.Frag} {H H' : Hp} {v : V} {t : Value} (s : Same H H') (h : TyX K H v t) : TyX K H' v t := by
  cases h with
  | base b => exact .base (TyOf.sm s b)
  | byt b => exact .byt b
  | set e => exact .set (s _ _ e)
  | kList e c => exact .kList e c
  | kTuple e c => exact .kTuple e c
  | kDict e c => exact .kDict e c
  | fTuple e => exact .fTuple (s _ _ e)
  | fDict e => exact .fDict (s _ _ e)
theorem Kd.sm {K : PySem.W.Frag} {H H' : Hp} {v : V} {i b : Bool} (s : Same H H') : Kd K H v i b → Kd K H' v i b := fun ⟨T, ty, k1, k2⟩ => ⟨T, TyX.sm s ty, k1, k2⟩
theorem same_upd {H : Hp} {a : Addr} {o : HO} (h : H a = none) : Same H (upd H a o) := fun b u e => by
  rw [upd_ne (ne_of_none e h)]
  exact e
theorem fresh_of {H : Hp} {a b : Addr} {u : HO} (h : H a = none) (e : H b = some u) : b ≠ a := fun z => by rw [z, h] at e; cases e
/-! ### the law's own numbers -/
def est (s : Nat × Nat) : Nat × Nat := if 0 < s.2 then (s.2, s.1 % s.2) else s
def eus : Nat → Nat × Nat → Nat × Nat
  | 0, s => s
  | k + 1, s => est (eus k s)
theorem est_gcd (s : Nat × Nat) : Nat.gcd (est s).1 (est s).2 = Nat.gcd s.1 s.2 := by
  unfold est
  split
  · show Nat.gcd s.2 (s.1 % s.2) = Nat.gcd s.1 s.2
    rw [Nat.gcd_comm s.1 s.2, Nat.gcd_rec s.2 s.1, Nat.gcd_comm]
  · rfl
theorem eus_gcd (s : Nat × Nat) : ∀ k, Nat.gcd (eus k s).1 (eus k s).2 = Nat.gcd s.1 s.2
  | 0 => rfl
  | k + 1 => (est_gcd _).trans (eus_gcd s k)
theorem est_half (s : Nat × Nat) : (est (est s)).2 ≤ s.2 / 2 := by
  obtain ⟨a, b⟩ := s
  by_cases hb : 0 < b
  · have e : est (a, b) = (b, a % b) := if_pos hb
    rw [e]
    have hr : a % b < b := Nat.mod_lt _ hb
    by_cases h0 : 0 < a % b
    · have e2 : est (b, a % b) = (a % b, b % (a % b)) := if_pos h0
      rw [e2]
      show b % (a % b) ≤ b / 2
      generalize a % b = r at *
      have h1 : b % r < r := Nat.mod_lt _ h0
      have h2 : b % r + r ≤ b := by
        have e4 := Nat.div_add_mod b r
        have e5 : 1 ≤ b / r := (Nat.one_le_div_iff h0).mpr (Nat.le_of_lt hr)
        have e6 : r * 1 ≤ r * (b / r) := Nat.mul_le_mul_left r e5
        omega
      omega
    · have e2 : est (b, a % b) = (b, a % b) := if_neg h0
      rw [e2]
      show a % b ≤ b / 2
      omega
  · have e : est (a, b) = (a, b) := if_neg hb
    rw [e, e]
    show b ≤ b / 2
    omega
theorem eus_small (s : Nat × Nat) : ∀ k, (eus (2 * k) s).2 ≤ s.2 / 2 ^ k
  | 0 => by show s.2 ≤ s.2 / 1; omega
  | k + 1 => by
    have h := eus_small s k
    have e : eus (2 * (k + 1)) s = est (est (eus (2 * k) s)) := rfl
    rw [e, Nat.pow_succ, ← Nat.div_div_eq_div_mul]
    exact Nat.le_trans (est_half _) (Nat.div_le_div_right h)
theorem eus_end (s : Nat × Nat) (h : s.2 < 2 ^ 200) : (eus 400 s).1 = Nat.gcd s.1 s.2 := by
  have h1 := eus_small s 200
  have h2 : s.2 / 2 ^ 200 = 0 := Nat.div_eq_of_lt h
  have h3 : (eus 400 s).2 = 0 := by
    have e : (eus 400 s).2 ≤ s.2 / 2 ^ 200 := h1
    omega
  have g := eus_gcd s 400
  rw [h3, Nat.gcd_zero_right] at g
  exact g
def spIs (C : Addr) : Sp := fun vs H Q _ => ∃ (p q dx : Addr) (a b c d : Int), vs = [.ref p, .ref q] ∧ H p = some (.ins C dx (rfl2 a b)) ∧ H q = some (.tup [.int c, .int d]) ∧ Q (.bl (decide (a = c) && decide (b = d))) H
def spLowest : Sp := fun vs H Q _ => ∃ (m n : Int), vs = [.int m, .int n] ∧ n ≠ 0 ∧ n.natAbs < 2 ^ 200 ∧ ∀ q, H q = none → Q (.ref q) (upd H q (.tup [.int (m.fdiv (cmn m n)), .int (n.fdiv (cmn m n))]))
section
variable {P : Program} {w : World} {K : PySem.W.Frag} {mg : Str → Option Value} {base : Heap}
abbrev sInt : Stmt := top 18
theorem scInt : FnScope ["_law_actual"] ["_law_actual"] (defScope sInt) := ⟨rfl, rfl, rfl, by decide +kernel, rfl, by decide +kernel, by decide +kernel⟩
theorem ok_int {f : Addr} {fd : FuncData} (F : Fun K "_law_int" "_law_int" sInt f fd) (mIs : mg "isinstance" = none) (mI : mg "int" = none) (mB : mg "bool" = none) : FnOk P w K mg base CX0 1 f fd ["_law_actual"] (spWhole K) := by
  refine F.ok scInt (fun vs H Q E h => ?_) (fun cdv A outer s H vs Q E hr h => ?_)
  · obtain ⟨v, i, b, rfl, _⟩ := h
    rfl
  · obtain ⟨v, i, b, rfl, ⟨T, ty, k1, k2⟩, k⟩ := h
    refine ⟨_, pss_one (ps_ret (pe_and (pe_callB call_isi (by rfl) mIs (by decide +kernel) (pa_cons (pv 0) (pa_cons (pe_bltn (v := .ty "int") (by rfl) mI (by decide +kernel) rfl) pa_nil)))
      (pe_one (pe_not (pe_callB call_isi (by rfl) mIs (by decide +kernel) (pa_cons (pv 0) (pa_cons (pe_bltn (v := .ty "bool") (by rfl) mB (by decide +kernel) rfl) pa_nil))))))), ?_⟩
    refine ⟨_, rfl, _, _, _, _, i, rfl, .ty "int", ty, kit_ty k1, i, rfl, ?_⟩
    cases i with
    | false => exact iteF k
    | true =>
      refine iteT ?_
      exact ⟨_, rfl, _, _, _, _, b, rfl, .ty "bool", ty, kit_ty k2, b, rfl, k⟩
abbrev sIs : Stmt := top 19
theorem scIs : FnScope ["_law_actual", "_law_due"] ["_law_actual", "_law_due"] (defScope sIs) := ⟨rfl, rfl, rfl, by decide +kernel, rfl, by decide +kernel, by decide +kernel⟩
theorem ok_is {f C CI fE fW fN : Addr} {fd fdN : FuncData} (F : Fun K "_law_is" "_law_is" sIs f fd) (T : TxR K mg C CI fE fW) (IC : C8.InsC K C) (mIs : mg "isinstance" = none)
    (GN : FnOk P w K mg base CX0 1 fN fdN ["_law_actual"] (spWhole K)) (bN : Binds K fdN ["_law_actual"] []) (mN : mg "_law_int" = some (.ref fN)) (kN : PySem.W.keepIn K (.ref fN) = true) : FnOk P w K mg base CX0 2 f fd ["_law_actual", "_law_due"] (spIs C) := by
  refine F.ok scIs (fun vs H Q E h => ?_) (fun cdv A outer s H vs Q E hr h => ?_)
  · obtain ⟨p, q, dx, a, b, c, d, rfl, _⟩ := h
    rfl
  · obtain ⟨p, q, dx, a, b, c, d, rfl, hp, hq, k⟩ := h
    refine ⟨_, pss_cons (ps_if (PW.pt (pw_or (pt_not (pt_val (pe_callB (C8.call_isC IC) (by rfl) mIs (by decide +kernel) (pa_cons (pv 0) (pa_cons (pe_glob (v := .ref C) (by rfl) T.mgC rfl) pa_nil)))))
        (pw_or (pt_not (pt_val (pe_call GN hr (by rfl) mN kN bN .nil pass0 (pa_cons (pe_fld (pv 0) rfl) pa_nil))))
        (pw_or1 (pt_not (pt_val (pe_call GN hr (by rfl) mN kN bN .nil pass0 (pa_cons (pe_fld (pv 0) rfl) pa_nil)))))))) (pss_one (ps_ret pe_bl)) pss_nil)
      (pss_one (ps_ret (pe_and (pe_cmpR op_eq (pe_fld (pv 0) rfl) (pe_ix ix_tup (pv 1) pe_int (fun _ _ => rfl)) (nomark _)) (pe_one (pe_cmpR op_eq (pe_fld (pv 0) rfl) (pe_ix ix_tup (pv 1) pe_int (fun _ _ => rfl)) (nomark _)))))), ?_⟩
    refine ⟨_, rfl, p, dx, _, rfl, hp, true, rfl, iteF ?_⟩
    refine ⟨_, rfl, p, C, dx, _, _, rfl, hp, T.cl, T.nT, rfl2_top _ _, _, _, _, rfl, Kd.int, _, rfl, iteF ?_⟩
    refine ⟨_, rfl, p, C, dx, _, _, rfl, hp, T.cl, T.nB, rfl2_bottom _ _, _, _, _, rfl, Kd.int, _, rfl, iteF ?_⟩
    refine ⟨_, rfl, p, C, dx, _, _, rfl, hp, T.cl, T.nT, rfl2_top _ _, _, rfl, q, _, _, _, rfl, rfl, SqT.of hq, rfl, rfl, _, rfl, ?_⟩
    rw [dec_int]
    by_cases e : a = c
    · rw [show (a == c) = true from beq_iff_eq.mpr e]
      rw [decide_eq_true e] at k
      refine iteT ⟨_, rfl, p, C, dx, _, _, rfl, hp, T.cl, T.nB, rfl2_bottom _ _, _, rfl, q, _, _, _, rfl, rfl, SqT.of hq, rfl, rfl, ?_⟩
      rw [dec_int]
      exact k
    · rw [show (a == c) = false from beq_eq_false_iff_ne.mpr e]
      rw [decide_eq_false e] at k
      exact iteF k
abbrev sLowest : Stmt := top 16
theorem scLowest : FnScope ["_law_top", "_law_bottom", "_law_left", "_law_right", "_law_k", "_law_rest"] ["_law_top", "_law_bottom"] (defScope sLowest) := ⟨rfl, rfl, rfl, by decide +kernel, rfl, by decide +kernel, by decide +kernel⟩
theorem abs_nat (i : Int) : (if i < 0 then -i else i) = ((i.natAbs : Nat) : Int) := by
  split <;> omega
theorem ok_lowest {f : Addr} {fd : FuncData} (F : Fun K "_law_lowest" "_law_lowest" sLowest f fd) (mA : mg "abs" = none) (mR : mg "range" = none) : FnOk P w K mg base CX0 1 f fd ["_law_top", "_law_bottom"] spLowest := by
  refine F.ok scLowest (fun vs H Q E h => ?_) (fun cdv A outer s H vs Q E hr h => ?_)
  · obtain ⟨m, n, rfl, _⟩ := h
    rfl
  · obtain ⟨m, n, rfl, n0, hn, k⟩ := h
    refine ⟨_, pss_cons (ps_set (i := 2) scLowest.nd rfl (Or.inl rfl) (pe_callB call_abs (by rfl) mA (by decide +kernel) (pa_cons (pv 0) pa_nil)))
      (pss_cons (ps_set (i := 3) scLowest.nd rfl (Or.inl rfl) (pe_callB call_abs (by rfl) mA (by decide +kernel) (pa_cons (pv 1) pa_nil)))
      (pss_cons (ps_for PassesOwn.never rfl (pi_range1 (by rfl) mR (pa_cons pe_int pa_nil)) (pg_name (i := 4) scLowest.nd rfl (Or.inl rfl))
        (pss_one (ps_if (pt_cmpR op_gt (pv 3) pe_int (nomark _)) (pss_cons (ps_set (i := 5) scLowest.nd rfl (Or.inl rfl) (pe_op op_modN (pv 2) (pv 3)))
          (pss_cons (ps_set (i := 2) scLowest.nd rfl (Or.inl rfl) (pv 3)) (pss_one (ps_set (i := 3) scLowest.nd rfl (Or.inl rfl) (pv 5))))) pss_nil)))
      (C8.pss_cut (ps_if (pt_cmpR op_lt (pv 1) pe_int (nomark _)) (pss_one (ps_set (i := 2) scLowest.nd rfl (Or.inl rfl) (pe_op op_sub pe_int (pv 2)))) pss_nil)
      (pss_one (ps_ret (pe_tup (pa_cons (pe_op op_fdivX (pv 0) (pv 2)) (pa_cons (pe_op op_fdivX (pv 1) (pv 2)) pa_nil)))))))), ?_⟩
    refine ⟨_, rfl, m, rfl, _, rfl, n, rfl, ?_⟩
    rw [abs_nat, abs_nat]
    refine ⟨400, rfl, by decide, by decide, for_range (lo := 0) (n := 400) (fun i σ H' => H' = H ∧ ∃ v u : Option V, σ = [some (.int m), some (.int n), some (.int ((eus i (m.natAbs, n.natAbs)).1 : Int)), some (.int ((eus i (m.natAbs, n.natAbs)).2 : Int)), v, u]) ?_ ?_ ?_⟩
    · exact ⟨rfl, none, none, rfl⟩
    · rintro i σ H' hi ⟨rfl, v, u, rfl⟩
      have e : eus (i + 1) (m.natAbs, n.natAbs) = est (eus i (m.natAbs, n.natAbs)) := rfl
      refine ⟨_, rfl, _, _, rfl, rfl, _, rfl, ?_⟩
      refine ite2 (fun h0 => ?_) (fun h0 => ?_)
      · have h1 := of_decide_eq_true h0
        have e1 : est (eus i (m.natAbs, n.natAbs)) = ((eus i (m.natAbs, n.natAbs)).2, (eus i (m.natAbs, n.natAbs)).1 % (eus i (m.natAbs, n.natAbs)).2) := if_pos (by omega)
        refine ⟨_, rfl, _, rfl, _, _, rfl, rfl, by omega, _, rfl, _, rfl, rfl, some (.int (0 + (i : Int))), some (.int (((eus i (m.natAbs, n.natAbs)).1 : Int).fmod ((eus i (m.natAbs, n.natAbs)).2 : Int))), ?_⟩
        have fm : ((eus i (m.natAbs, n.natAbs)).1 : Int).fmod ((eus i (m.natAbs, n.natAbs)).2 : Int) = (((eus i (m.natAbs, n.natAbs)).1 % (eus i (m.natAbs, n.natAbs)).2 : Nat) : Int) := by
          rw [Int.fmod_eq_emod_of_nonneg _ (by omega)]
          rfl
        rw [e, e1]
        show [some (V.int m), some (V.int n), some (V.int ((eus i (m.natAbs, n.natAbs)).2 : Int)), some (V.int (((eus i (m.natAbs, n.natAbs)).1 : Int).fmod ((eus i (m.natAbs, n.natAbs)).2 : Int))), some (V.int (0 + (i : Int))), some (V.int (((eus i (m.natAbs, n.natAbs)).1 : Int).fmod ((eus i (m.natAbs, n.natAbs)).2 : Int)))] = _
        rw [fm]
      · have h1 : ¬ (0 : Int) < ((eus i (m.natAbs, n.natAbs)).2 : Int) := fun z => h0 (decide_eq_true z)
        have e1 : est (eus i (m.natAbs, n.natAbs)) = eus i (m.natAbs, n.natAbs) := if_neg (by omega)
        refine ⟨rfl, some (.int (0 + (i : Int))), u, ?_⟩
        rw [e, e1]
        rfl
    · rintro σ H' ⟨rfl, v, u, rfl⟩
      rw [eus_end _ hn]
      refine ⟨fun σ' H'' => H'' = H' ∧ σ' = [some (.int m), some (.int n), some (.int (cmn m n)), some (.int ((eus 400 (m.natAbs, n.natAbs)).2 : Int)), v, u], ?_, ?_⟩
      · refine ⟨_, rfl, _, _, rfl, rfl, _, rfl, ?_⟩
        refine ite2 (fun h0 => ?_) (fun h0 => ?_)
        · refine ⟨_, rfl, _, _, rfl, rfl, rfl, ?_⟩
          unfold cmn
          rw [if_pos (of_decide_eq_true h0), ← Int.zero_sub]
          rfl
        · refine ⟨rfl, ?_⟩
          unfold cmn
          rw [if_neg (fun z => h0 (decide_eq_true z))]
      · rintro σ' H'' ⟨rfl, rfl⟩
        have cn := cmn_ne (m := m) n0
        have cw := cmn_lt (m := m) n0 hn
        refine ⟨_, rfl, _, rfl, _, _, rfl, rfl, divx cn cw (by decide) (by decide), _, rfl, _, rfl, _, _, rfl, rfl, divx cn cw (by decide) (by decide), by show 2 ≤ sizeLine; decide, fun q hq => k q hq⟩
end
/-! ### what the laws of ratios share -/
structure At (K : PySem.W.Frag) (mg : Str → Option Value) (x : Str) (f : Addr) : Prop where
  g : mg x = some (.ref f)
  k : PySem.W.keepIn K (.ref f) = true
theorem BagAt.sm {H H' : Hp} {b : Addr} (s : Same H H') : BagAt H b → BagAt H' b := fun ⟨l, ns, p, q, r, c, h1, h2, h3⟩ => ⟨l, ns, p, q, r, c, s _ _ h1, s _ _ h2, h3⟩
theorem BagAt.ne {H : Hp} {a b : Addr} : BagAt H b → H a = none → a ≠ b := fun ⟨l, ns, p, q, r, c, h1, _⟩ h z => by rw [z, h1] at h; cases h
theorem atI_in {α : Type} {xs : List α} {d : Int} (h0 : 0 ≤ d) (h1 : d < (xs.length : Int)) : ∃ v, atI xs d = some v ∧ v ∈ xs := by
  obtain ⟨m, rfl⟩ : ∃ m : Nat, d = (m : Int) := ⟨d.toNat, by omega⟩
  have hm : m < xs.length := by omega
  exact ⟨xs[m], atI_nat (List.getElem?_eq_getElem hm), List.getElem_mem hm⟩
theorem rd_make {K : PySem.W.Frag} {C CI : Addr} {H : Hp} {m n : Int} {R : Hp → Prop} {E : XK} {x dx : Addr} {vs : List V} (n0 : n ≠ 0) (hn : n.natAbs < 2 ^ 900) (nx : H x = none) (ndx : H dx = none) (nex : dx ≠ x) (ev : vs = [.ref x, .int m, .int n])
    (k : ∀ H', Same H H' → H' x = some (.ins C dx (rfl2 (m.fdiv (cmn m n)) (n.fdiv (cmn m n)))) → R H') :
    spInit K C CI vs (upd (upd H dx (.own x)) x (.ins C dx [])) (fun v H2 => v = .non ∧ R H2) E := by
  subst ev
  refine ⟨x, dx, .int m, .int n, true, false, true, false, rfl, upd_same, Kd.int, Kd.int, fun h => (by cases h), fun _ h => (by cases h), fun _ _ => ⟨m, n, rfl, rfl, hn, fun h => absurd h n0, fun _ => ⟨rfl, ?_⟩⟩⟩
  refine k _ ?_ upd_same
  rw [upd_upd]
  exact (same_upd ndx).trans (same_upd (by rw [upd_ne (Ne.symm nex)]; exact nx))
theorem cmn_one (m : Int) : cmn m 1 = 1 := by
  unfold cmn
  rw [if_neg (by decide)]
  show ((Nat.gcd m.natAbs 1 : Nat) : Int) = 1
  rw [Nat.gcd_one_right]
  rfl
theorem cmn_zero {n : Int} (h : 0 < n) : cmn 0 n = n := by
  unfold cmn
  rw [if_neg (by omega)]
  show ((Nat.gcd 0 n.natAbs : Nat) : Int) = n
  rw [Nat.gcd_zero_left]
  omega
theorem cmn_mul {m n f : Int} (h : 0 < f) : cmn (m * f) (n * f) = cmn m n * f := by
  have e : ((Nat.gcd (m * f).natAbs (n * f).natAbs : Nat) : Int) = ((Nat.gcd m.natAbs n.natAbs : Nat) : Int) * f := by
    rw [Int.natAbs_mul, Int.natAbs_mul, Nat.gcd_mul_right, Int.natCast_mul]
    congr 1
    omega
  unfold cmn
  by_cases hn : n < 0
  · rw [if_pos hn, if_pos (Int.mul_neg_of_neg_of_pos hn h), e, Int.neg_mul]
  · rw [if_neg hn, if_neg (by have := Int.mul_nonneg (show 0 ≤ n by omega) (show 0 ≤ f by omega); omega), e]
theorem wide_in {v : V} (h : v ∈ [V.int 4, .int 60, .int ((10 : Int) ^ (6 : Int).toNat), .int ((10 : Int) ^ (30 : Int).toNat)]) : ∃ W : Int, v = .int W ∧ 0 < W ∧ W ≤ 10 ^ 30 := by
  simp only [List.mem_cons, List.not_mem_nil, or_false] at h
  rcases h with rfl | rfl | rfl | rfl
  · exact ⟨_, rfl, by decide, by decide⟩
  · exact ⟨_, rfl, by decide, by decide⟩
  · exact ⟨_, rfl, by decide, by decide⟩
  · exact ⟨_, rfl, by decide, by decide⟩
def spLaw (K : PySem.W.Frag) : Sp := fun vs H Q _ => ∃ (a : Addr) (ns : List Int), vs = [.ref a] ∧ SqL K H a (ns.map V.int) ∧ ns.length ≤ 63 ∧ ∀ H', Q (.bl true) H'
/-! ### fractions in lowest terms -/
theorem low_terms {m n g : Int} (hg : g = ((Nat.gcd m.natAbs n.natAbs : Nat) : Int)) (hn : 0 < n) : 0 < n.fdiv g ∧ n.fdiv g ≤ n ∧ (m.fdiv g).natAbs ≤ m.natAbs ∧ Nat.gcd (m.fdiv g).natAbs (n.fdiv g).natAbs = 1 := by
  have gp : 0 < Nat.gcd m.natAbs n.natAbs := Nat.gcd_pos_of_pos_right _ (by omega)
  have g0 : 0 < g := by omega
  have d1 : Nat.gcd m.natAbs n.natAbs ∣ m.natAbs := Nat.gcd_dvd_left _ _
  have d2 : Nat.gcd m.natAbs n.natAbs ∣ n.natAbs := Nat.gcd_dvd_right _ _
  have e1 : ∀ x : Int, Nat.gcd m.natAbs n.natAbs ∣ x.natAbs → (x.fdiv g).natAbs = x.natAbs / Nat.gcd m.natAbs n.natAbs := by
    intro x hx
    rw [Int.fdiv_eq_ediv_of_nonneg _ (by omega)]
    obtain ⟨k, hk⟩ := hx
    have hx2 : x = g * (if 0 ≤ x then (k : Int) else -(k : Int)) := by
      have : (x.natAbs : Int) = g * (k : Int) := by rw [hk, hg]; simp
      split
      · omega
      · rw [Int.mul_neg]; omega
    rw [hx2, Int.mul_ediv_cancel_left _ (by omega), ← hx2, hk, Nat.mul_div_cancel_left _ gp]
    split <;> simp
  have h1 := e1 m d1
  have h2 := e1 n d2
  have h3 : Nat.gcd (m.natAbs / Nat.gcd m.natAbs n.natAbs) (n.natAbs / Nat.gcd m.natAbs n.natAbs) = 1 := by
    rw [Nat.gcd_div d1 d2, Nat.div_self gp]
  have p0 : 0 ≤ n.fdiv g := by
    rw [Int.fdiv_eq_ediv_of_nonneg _ (by omega)]
    exact Int.ediv_nonneg (by omega) (by omega)
  have q0 : 0 < n.natAbs / Nat.gcd m.natAbs n.natAbs := Nat.div_pos (Nat.le_of_dvd (by omega) d2) gp
  have q1 : n.natAbs / Nat.gcd m.natAbs n.natAbs ≤ n.natAbs := Nat.div_le_self _ _
  have q2 : m.natAbs / Nat.gcd m.natAbs n.natAbs ≤ m.natAbs := Nat.div_le_self _ _
  refine ⟨by omega, by omega, by omega, by rw [h1, h2, h3]⟩
theorem floor_ok {a b : Int} (hb : 0 < b) : a.fdiv b * b ≤ a ∧ a < (a.fdiv b + 1) * b := by
  rw [Int.fdiv_eq_ediv_of_nonneg _ (by omega)]
  exact ⟨Int.ediv_mul_le _ (by omega), Int.lt_ediv_add_one_mul_self _ hb⟩
theorem ceil_ok {a b : Int} (hb : 0 < b) : (-((-a).fdiv b) - 1) * b < a ∧ a ≤ -((-a).fdiv b) * b := by
  obtain ⟨h1, h2⟩ := floor_ok (a := -a) hb
  have e1 : (-((-a).fdiv b) - 1) * b = -(((-a).fdiv b + 1) * b) := by rw [← Int.neg_mul]; congr 1; omega
  rw [e1, Int.neg_mul]
  omega

theorem cmn_pos {m n : Int} (h : 0 < n) : cmn m n = ((Nat.gcd m.natAbs n.natAbs : Nat) : Int) := if_neg (by omega)
theorem cmn_low {m n : Int} (h : 0 < n) (g : Nat.gcd m.natAbs n.natAbs = 1) : cmn m n = 1 := by
  rw [cmn_pos h, g]
  rfl
def spFrac : Sp := fun vs H Q _ => ∃ b : Addr, vs = [.ref b] ∧ BagAt H b ∧ ∀ (a c : Int) (q : Addr) H', 0 < c → c ≤ 10 ^ 30 → a.natAbs ≤ 10 ^ 30 → Nat.gcd a.natAbs c.natAbs = 1 → BagAt H' b → Keep b H H' → H' q = some (.tup [.int a, .int c]) → q ≠ b → Q (.ref q) H'
theorem Keep.upd {b q : Addr} {H : Hp} {o : HO} (h : H q = none) : Keep b H (L2.upd H q o) := fun a u e _ => by rw [upd_ne (ne_of_none e h)]; exact e
section
variable {P : Program} {w : World} {K : PySem.W.Frag} {mg : Str → Option Value} {base : Heap}
abbrev sFrac : Stmt := top 17
theorem scFrac : FnScope ["_law_bag_here", "_law_wide", "_law_top"] ["_law_bag_here"] (defScope sFrac) := ⟨rfl, rfl, rfl, by decide +kernel, rfl, by decide +kernel, by decide +kernel⟩
theorem ok_frac {f fT fL : Addr} {fd fdT fdL : FuncData} (F : Fun K "_law_fraction" "_law_fraction" sFrac f fd) (aT : At K mg "_law_take" fT) (aL : At K mg "_law_lowest" fL)
    (GT : FnOk P w K mg base CX0 1 fT fdT ["_law_bag_here", "_law_size"] spTake) (bT : Binds K fdT ["_law_bag_here", "_law_size"] [])
    (GL : FnOk P w K mg base CX0 1 fL fdL ["_law_top", "_law_bottom"] spLowest) (bL : Binds K fdL ["_law_top", "_law_bottom"] []) : FnOk P w K mg base CX0 2 f fd ["_law_bag_here"] spFrac := by
  refine F.ok scFrac (fun vs H Q E h => ?_) (fun cdv A outer s H vs Q E hr h => ?_)
  · obtain ⟨b, rfl, _⟩ := h
    rfl
  · obtain ⟨b, rfl, B1, k⟩ := h
    have nd := scFrac.nd
    refine ⟨_, pss_cons (ps_set (i := 1) nd rfl (Or.inl rfl) (pe_ix ix_list (pe_lst (pa_cons pe_int (pa_cons pe_int (pa_cons (pe_op op_pow pe_int pe_int) (pa_cons (pe_op op_pow pe_int pe_int) pa_nil))))) (pe_call GT hr (by rfl) aT.g aT.k bT .nil pass0 (pa_cons (pv 0) (pa_cons pe_int pa_nil))) (fun _ _ => rfl)))
      (pss_cons (ps_set (i := 2) nd rfl (Or.inl rfl) (pe_op op_sub (pe_call GT hr (by rfl) aT.g aT.k bT .nil pass0 (pa_cons (pv 0) (pa_cons (pe_op op_add (pe_op op_mul pe_int (pv 1)) pe_int) pa_nil))) (pv 1)))
      (pss_one (ps_ret (pe_call GL hr (by rfl) aL.g aL.k bL .nil pass0 (pa_cons (pv 2) (pa_cons (pe_op op_add pe_int (pe_call GT hr (by rfl) aT.g aT.k bT .nil pass0 (pa_cons (pv 0) (pa_cons (pv 1) pa_nil)))) pa_nil)))))), ?_⟩
    refine ⟨_, _, rfl, rfl, ⟨by decide, by decide, by decide⟩, _, _, rfl, rfl, ⟨by decide, by decide, by decide⟩, by show 4 ≤ sizeLine; decide, fun l1 n1 => ?_⟩
    refine ⟨_, rfl, b, 4, rfl, by decide, by decide, B1.sm (same_upd n1), fun d1 H2 d1a d1b B2 k2 => ?_⟩
    obtain ⟨v1, at1, in1⟩ := atI_in (xs := [V.int 4, .int 60, .int ((10 : Int) ^ (6 : Int).toNat), .int ((10 : Int) ^ (30 : Int).toNat)]) d1a d1b
    obtain ⟨W, rfl, W0, W1⟩ := wide_in in1
    refine ⟨l1, _, d1, _, rfl, rfl, SqL.of (k2 _ _ upd_same (B1.ne n1)), at1, ?_⟩
    refine ⟨_, rfl, _, rfl, 2, W, rfl, rfl, .inl ⟨by decide, by decide⟩, _, _, rfl, rfl, b, 2 * W + 1, rfl, by omega, by omega, B2, fun d2 H3 d2a d2b B3 k3 => ?_⟩
    refine ⟨_, rfl, d2, W, rfl, rfl, ?_⟩
    refine ⟨_, rfl, _, rfl, _, rfl, b, W, rfl, by omega, by omega, B3, fun d3 H4 d3a d3b B4 k4 => ?_⟩
    refine ⟨1, d3, rfl, rfl, d2 - W, 1 + d3, rfl, by omega, by omega, fun q nq => ?_⟩
    obtain ⟨h1, h2, h3, h4⟩ := low_terms (m := d2 - W) (n := 1 + d3) (g := cmn (d2 - W) (1 + d3)) (cmn_pos (by omega)) (by omega)
    have kk : Keep b H H4 := ((Keep.upd n1).trans k2).trans (k3.trans k4)
    exact k _ _ q _ h1 (by omega) (by omega) h4 (B4.sm (same_upd nq)) (kk.trans (Keep.upd nq)) upd_same (B4.ne nq)
end
/-! ### a class's own operators -/
theorem rel_back {v : V} {u : Value} {s : Shared} {Q : Value → Shared → Prop} (r : RelV v u) (q : Q u s) : PySem.W.CmpBack Q u s := by
  cases v with
  | non => cases r; exact q
  | bl b => cases r; exact q
  | int i => obtain ⟨t, rfl⟩ := r; exact q
  | str z => obtain ⟨t, rfl⟩ := r; exact q
  | byt z => obtain ⟨t, rfl⟩ := r; exact q
  | flt z => obtain ⟨t, rfl⟩ := r; exact q
  | ref a => cases r; exact q
  | ty n => cases r; exact q
section
variable {X : Cx}
/-- what the written part says of a class's operator -/
structure OwnOp (K : PySem.W.Frag) (C : Addr) (nm : String) (f g : Addr) : Prop where
  hs : PySem.W.findIn K (.ref C) (PySem.dunder nm) = some (some (.ref f))
  hr : PySem.W.findIn K (.ref C) (PySem.dunderR nm) = some (some (.ref g))
  hf : PySem.W.isFn K (.ref f) = true
  hg : PySem.W.isFn K (.ref g) = true
  first : PySem.W.selfFirst K C = true
  ci : PySem.W.subIn K (.ref C) (.type "int") = some false
  ic : PySem.W.subIn K (.type "int") (.ref C) = some false
/-- what the library says of the ints' operator -/
structure IntOp (nm : String) (idl : String) (B : Builtin) : Prop where
  fills : fillsNumberSlot (.type "int") nm = pure true
  slot : Slot "int" (PySem.dunder nm) idl
  entry : entryFor table idl = some B
  args : ∀ a b : Value, argsOk idl ⟨[a, b], []⟩
  ref : ∀ {prog : Program} {w : World} {A : Around} {E : Value → Shared → Prop} {s : Shared} {x : Addr} {a : Int} {t : Tok} {o : Obj} {Q : Shared → Prop}, s.heap.get? x = some o → o.data = .plain → Q s →
    wpAny (model prog w) A (B ⟨[.int a t, .ref x], []⟩) (fun fin s' => ∃ v, fin = .done (.ret v) ∧ v = .notImplemented ∧ Q s') E s
theorem int_add : IntOp "add" "int.__add__" Builtin.«int.__add__» := ⟨PySem.F.fills_int_add, PySem.F.slot_int_add, PySem.F.entry_int_add, PySem.F.args_int_add_2, fun {prog w A E s x a t o Q} ho hd q => by
  obtain ⟨oc, odd, oda, osl⟩ := o
  dsimp only at hd
  subst hd
  obtain ⟨hp, g, d, tk, os⟩ := s
  wp_walk using (wpAny_loadPart_at ho)
  exact ⟨_, rfl, rfl, q⟩⟩
theorem int_sub : IntOp "sub" "int.__sub__" Builtin.«int.__sub__» := ⟨PySem.F.fills_int_sub, PySem.F.slot_int_sub, PySem.F.entry_int_sub, PySem.F.args_int_sub_2, fun {prog w A E s x a t o Q} ho hd q => by
  obtain ⟨oc, odd, oda, osl⟩ := o
  dsimp only at hd
  subst hd
  obtain ⟨hp, g, d, tk, os⟩ := s
  wp_walk using (wpAny_loadPart_at ho)
  exact ⟨_, rfl, rfl, q⟩⟩
theorem int_mul : IntOp "mul" "int.__mul__" Builtin.«int.__mul__» := ⟨PySem.F.fills_int_mul, PySem.F.slot_int_mul, PySem.F.entry_int_mul, PySem.F.args_int_mul_2, fun {prog w A E s x a t o Q} ho hd q => by
  obtain ⟨oc, odd, oda, osl⟩ := o
  dsimp only at hd
  subst hd
  obtain ⟨hp, g, d, tk, os⟩ := s
  wp_walk using (wpAny_loadPart_at ho)
  exact ⟨_, rfl, rfl, q⟩⟩
theorem own_right {prog : Program} {w : World} {A : Around} {E : Value → Shared → Prop} {s : Shared} {K : PySem.W.Frag} {x C f g dx : Addr} {op : Operator} {a : Int} {t : Tok} {idl : String} {B : Builtin} {od : Option Obj} {Q : Value → Shared → Prop} (X : K.In s.heap) (I : PySem.W.InstAt s.heap x (PySem.W.instObj C dx) C od)
    (O : OwnOp K C op.info.2 g f) (N : IntOp op.info.2 idl B) (h : wpAny (model prog w) A (call (.ref f) [.ref x, .int a t]) (PySem.W.CmpBack Q) E s) : wpAny (model prog w) A (binaryOp op (.int a t) (.ref x)) Q E s := by
  obtain ⟨cd, rest, hcd, hm⟩ := PySem.W.ksp_first O.first
  have hx : s.heap.get? x = some (PySem.W.instObj C dx) := I.1
  have hrr := O.hr
  rcases hi : op.info with ⟨sym, nm⟩
  rw [hi] at O N hrr
  dsimp only at O N hrr
  have hne : (Value.type "int" == Value.ref C) = false := Bool.eq_false_iff.mpr fun q => by cases beq_iff_eq.mp q
  simp only [binaryOp, hi]
  refine wpAny_holding (wpAny_bind ?_)
  simp only [binaryOp1]
  refine wpAny_bind (wpAny_typeOf (PySem.typeIs_int s a t) (wpAny_bind (I.type.here (wpAny_bind (wpAny_of_eq N.fills ?_)))))
  simp only [hne, Bool.false_eq_true, if_false]
  refine wpAny_bind ((PySem.W.fills_K X hcd hm O.hs).here ?_)
  simp only [Bool.and_self, if_true]
  refine wpAny_bind ((PySem.W.looks_subIn X O.ci).here ?_)
  have hpy : numberSlotInPython (.type "int") nm = pure false := rfl
  simp only [Bool.false_eq_true, if_false, pure_bind, Bool.not_false, Bool.and_self, if_true, hpy]
  refine wpAny_bind (wpAny_tryMethod_declines (PySem.typeIs_int s a t) N.slot (wpAny_call_entry N.slot (PySem.typeIs_int s a t) N.entry (wpAny_mono (N.ref (Q := fun s' => s' = s) hx rfl rfl) (fun fin s' q => ?_) fun _ _ e => e) (N.args _ _)))
  obtain ⟨v, e1, e2, e3⟩ := q
  subst e3
  refine ⟨v, e1, e2, ?_⟩
  simp only [tryMethod]
  refine wpAny_bind (wpAny_bind (PySem.W.special_fn X I hrr (beq_iff_eq.mp O.hg) (wpAny_mono h (fun v s' hv => ?_) fun _ _ e => e)))
  cases v <;> first | exact hv.elim | exact wpAny_pure (wpAny_bind (wpAny_rule (wpAny_pure (wpAny_pure hv))))
theorem op_own {op : Operator} {CX : CXT} {n : Nat} {C f g : Addr} {fd : FuncData} {ps : List Str} {sp : Sp} (O : OwnOp X.K C op.info.2 f g) (F : FnOk X.prog X.w X.K X.mg X.base CX n f fd ps sp) (hb : Binds X.K fd ps []) (hx : Passes CX X E0) (hr : Room n X.A)
    {fo ro : Option Value} (h1 : PySem.W.findIn X.K (.type "int") (PySem.dunder op.info.2) = some fo) (h2 : PySem.W.findIn X.K (.type "int") (PySem.dunderR op.info.2) = some ro) :
    OpR X (binaryOp op) (fun x y H Q => ∃ (a dx : Addr) (fs : List (Str × V)), x = .ref a ∧ H a = some (.ins C dx fs) ∧ ((∃ i, y = .int i) ∨ ∃ (b dy : Addr) (gs : List (Str × V)), y = .ref b ∧ H b = some (.ins C dy gs)) ∧ sp [x, y] H Q E0) := by
  intro pins s σ H x y v u Q I rx ry hq
  obtain ⟨a, dx, fs, rfl, ha, hy, hsp⟩ := hq
  cases rx
  obtain ⟨mA, OA, _⟩ := ins_get I.hok ha
  obtain ⟨od, J, _⟩ := OA.look
  obtain ⟨m, hF⟩ := I.fr
  have go : wpAny (model X.prog X.w) X.A (call (.ref f) [.ref a, u]) (PySem.W.CmpBack (EP X pins σ Q)) X.xe s :=
    thn (run_fn (us := [Value.ref a, u]) (vs := [V.ref a, y]) (Q := Q) F hr hb .nil hx I (.cons (show RelV (V.ref a) (Value.ref a) from rfl) (.cons ry .nil)) hsp) fun r s' hv => by
      obtain ⟨z, H', I', rz, q⟩ := hv
      exact rel_back rz ⟨z, H', I', rz, q⟩
  rcases hy with ⟨i, rfl⟩ | ⟨b, dy, gs, rfl, hb'⟩
  · obtain ⟨t, rfl⟩ := ry
    exact PySem.W.ksp_binT hF I.ok.mod.kin J rfl O.first O.hs O.hf O.hr (.inr ⟨_, rfl⟩) h1 h2 O.ic go
  · cases ry
    obtain ⟨mB, OB, _⟩ := ins_get I.hok hb'
    obtain ⟨od', J', _⟩ := OB.look
    exact PySem.W.binop_K hF I.ok.mod.kin J J'.type O.first O.hs O.hf go
theorem op_intown {op : Operator} {CX : CXT} {n : Nat} {C f g : Addr} {fd : FuncData} {ps : List Str} {sp : Sp} {idl : String} {B : Builtin} (O : OwnOp X.K C op.info.2 g f) (N : IntOp op.info.2 idl B) (F : FnOk X.prog X.w X.K X.mg X.base CX n f fd ps sp) (hb : Binds X.K fd ps []) (hx : Passes CX X E0) (hr : Room n X.A) :
    OpR X (binaryOp op) (fun x y H Q => ∃ (i : Int) (a dx : Addr) (fs : List (Str × V)), x = .int i ∧ y = .ref a ∧ H a = some (.ins C dx fs) ∧ sp [y, x] H Q E0) := by
  intro pins s σ H x y v u Q I rx ry hq
  obtain ⟨i, a, dx, fs, rfl, rfl, ha, hsp⟩ := hq
  obtain ⟨t, rfl⟩ := rx
  cases ry
  obtain ⟨mA, OA, _⟩ := ins_get I.hok ha
  obtain ⟨od, J, _⟩ := OA.look
  refine own_right I.kIn J O N (thn (run_fn (us := [Value.ref a, Value.int i t]) (vs := [V.ref a, V.int i]) (Q := Q) F hr hb .nil hx I (.cons (show RelV (V.ref a) (Value.ref a) from rfl) (.cons ⟨t, rfl⟩ .nil)) hsp) fun r s' hv => ?_)
  obtain ⟨z, H', I', rz, q⟩ := hv
  exact rel_back rz ⟨z, H', I', rz, q⟩
theorem un_negO {CX : CXT} {n : Nat} {C f : Addr} {fd : FuncData} {ps : List Str} {sp : Sp} (hs : PySem.W.findIn X.K (.ref C) "__neg__" = some (some (.ref f))) (hf : PySem.W.isFn X.K (.ref f) = true) (F : FnOk X.prog X.w X.K X.mg X.base CX n f fd ps sp) (hb : Binds X.K fd ps []) (hx : Passes CX X E0) (hr : Room n X.A) :
    UnR X (unaryOp .USub) (fun x H Q => ∃ (a dx : Addr) (fs : List (Str × V)), x = .ref a ∧ H a = some (.ins C dx fs) ∧ sp [x] H Q E0) := by
  intro pins s σ H x v Q I rx hq
  obtain ⟨a, dx, fs, rfl, ha, hsp⟩ := hq
  cases rx
  obtain ⟨mA, OA, _⟩ := ins_get I.hok ha
  obtain ⟨od, J, _⟩ := OA.look
  obtain ⟨m, hF⟩ := I.fr
  exact PySem.W.ksp_neg hF I.ok.mod.kin J hs hf (run_fn (us := [Value.ref a]) (vs := [V.ref a]) (Q := Q) F hr hb .nil hx I (.cons (show RelV (V.ref a) (Value.ref a) from rfl) .nil) hsp)
theorem call_absO {n : Nat} {C f : Addr} {fd : FuncData} {ps : List Str} {sp : Sp} (hs : PySem.W.findIn X.K (.ref C) "__abs__" = some (some (.ref f))) (hf : PySem.W.isFn X.K (.ref f) = true) (F : FnOk X.prog X.w X.K X.mg X.base CX0 n f fd ps sp) (hb : Binds X.K fd ps []) (hr : Room (n + 1) X.A) :
    CallR X (.builtin "abs") (fun xs H Q => ∃ (a dx : Addr) (fs : List (Str × V)), xs = [.ref a] ∧ H a = some (.ins C dx fs) ∧ sp [.ref a] H Q E0) := by
  intro pins s σ H xs us Q I r hq
  obtain ⟨a, dx, fs, rfl, ha, hsp⟩ := hq
  cases r with
  | cons rx rr =>
    cases rr
    cases rx
    obtain ⟨mA, OA, _⟩ := ins_get I.hok ha
    obtain ⟨od, J, _⟩ := OA.look
    refine PySem.Calls.call_function_entry PyProof.Rows.kind_abs PyProof.Rows.plain_abs PyProof.Rows.entry_abs (PyProof.Rows.args_abs _) ?_
    unfold Builtin.«abs»
    refine wpAny_bind (m := oneArg "abs" _) (wpAny_pure ?_)
    have e0 : Env0 X.prog X.w X.K X.mg X.base X.A.in1 X.stack s H := by
      have e := I.env0
      exact ⟨e.frames, e.mod, e.bs, e.bsz, e.funs, e.frf, e.hok, e.bare⟩
    have hl := F.len _ _ _ _ hsp
    have r2 : Vals [V.ref a] [Value.ref a] := .cons rfl .nil
    refine wpAny_bind (m := callSpecial? (.ref a) (Str.ofString "__abs__")) (PySem.W.special_fn I.kIn J hs (beq_iff_eq.mp hf) (wpAny_call (codeAny_mono (F.run X.A.in1 X.stack s H ⟨[.ref a], []⟩ [.ref a] [.ref a] Q E0 hr.in1 e0 (by
      have := hb s [.ref a] I.kIn (by simpa using hl)
      simpa using this) r2 hsp) fun r s' hq => ?_)))
    cases r with
    | error e => exact hq.elim
    | ok fl =>
      cases fl with
      | ret w =>
        obtain ⟨z, H', I', rz, q⟩ := I.after hq
        exact wpAny_pure ⟨_, rfl, z, H', I', rz, q⟩
      | next => exact False.elim hq
      | brk => exact False.elim hq
      | cont => exact False.elim hq
end
/-! ### the ratio's operators -/
def TermAt (C : Addr) (H : Hp) (v : V) (a b : Int) : Prop := (v = .int a ∧ b = 1) ∨ ∃ p dx, v = .ref p ∧ H p = some (.ins C dx (rfl2 a b))
def RatAt (C : Addr) (H : Hp) (x : Addr) (t b : Int) : Prop := ∃ dx, H x = some (.ins C dx (rfl2 (t.fdiv (cmn t b)) (b.fdiv (cmn t b))))
def spTerm (C : Addr) : Sp := fun vs H Q _ => ∃ (v : V) (a b : Int), vs = [v] ∧ TermAt C H v a b ∧ Q (.bl true) H
def spTerms (C : Addr) : Sp := fun vs H Q _ => ∃ (v : V) (a b : Int), vs = [v] ∧ TermAt C H v a b ∧ ∀ q, H q = none → Q (.ref q) (upd H q (.tup [.int a, .int b]))
/-- a binary operator: its new top is g of the four numbers, its new bottom the product -/
def spBin (C : Addr) (g : Int → Int → Int → Int → Int) : Sp := fun vs H Q _ => ∃ (p dx : Addr) (v : V) (a b c d : Int), vs = [.ref p, v] ∧ H p = some (.ins C dx (rfl2 a b)) ∧ TermAt C H v c d ∧ 0 < b ∧ 0 < d ∧ a.natAbs < 2 ^ 110 ∧ b.natAbs < 2 ^ 110 ∧ c.natAbs < 2 ^ 110 ∧ d.natAbs < 2 ^ 110 ∧
  ∀ x H', Same H H' → RatAt C H' x (g a b c d) (b * d) → Q (.ref x) H'
/-- a unary one -/
def spUn (C : Addr) (g : Int → Int) : Sp := fun vs H Q _ => ∃ (p dx : Addr) (a b : Int), vs = [.ref p] ∧ H p = some (.ins C dx (rfl2 a b)) ∧ 0 < b ∧ a.natAbs < 2 ^ 110 ∧ b.natAbs < 2 ^ 110 ∧ ∀ x H', Same H H' → RatAt C H' x (g a) b → Q (.ref x) H'
def gAdd (a b c d : Int) : Int := a * d + c * b
def gSub (a b c d : Int) : Int := a * d - c * b
def gMul (a _ c _ : Int) : Int := a * c
def gRsub (a b c d : Int) : Int := -a * d + c * b
def gAbs (a : Int) : Int := if a < 0 then -a else a
structure TxM (K : PySem.W.Frag) (mg : Str → Option Value) (C fK fM : Addr) : Prop where
  cl : Cls K C
  nT : NoAttr K C "top"
  nB : NoAttr K C "bottom"
  mgC : mg "Ratio" = some (.ref C)
  ic : C8.InsC K C
  nI : PySem.W.kitOne K (.type "int") (.ref C) = some false
  isi : mg "isinstance" = none
  term : At K mg "is_term" fK
  terms : At K mg "terms" fM
theorem TxM.ty {K : PySem.W.Frag} {mg : Str → Option Value} {C fK fM : Addr} (T : TxM K mg C fK fM) {H : Hp} {p dx : Addr} {fs : List (Str × V)} (h : H p = some (.ins C dx fs)) : TyX K H (.ref p) (.ref C) := .base (.ins h T.cl T.ic.ha T.ic.hn T.ic.htk T.ic.hm)
section
variable {P : Program} {w : World} {K : PySem.W.Frag} {mg : Str → Option Value} {base : Heap}
abbrev sTerm : Stmt := top 10
theorem scTerm : FnScope ["value"] ["value"] (defScope sTerm) := ⟨rfl, rfl, rfl, by decide +kernel, rfl, by decide +kernel, by decide +kernel⟩
theorem ok_term {f C fK fM fW : Addr} {fd fdW : FuncData} (F : Fun K "is_term" "is_term" sTerm f fd) (T : TxM K mg C fK fM) (aW : At K mg "is_whole" fW) (GW : FnOk P w K mg base CX0 1 fW fdW ["value"] (spWhole K)) (bW : Binds K fdW ["value"] []) : FnOk P w K mg base CX0 2 f fd ["value"] (spTerm C) := by
  refine F.ok scTerm (fun vs H Q E h => ?_) (fun cdv A outer s H vs Q E hr h => ?_)
  · obtain ⟨v, a, b, rfl, _⟩ := h
    rfl
  · obtain ⟨v, a, b, rfl, t, k⟩ := h
    refine ⟨_, pss_one (ps_ret (pe_or (pe_callB call_isi (by rfl) T.isi (by decide +kernel) (pa_cons (pv 0) (pa_cons (pe_glob (v := .ref C) (by rfl) T.mgC rfl) pa_nil))) (pe_one (pe_call GW hr (by rfl) aW.g aW.k bW .nil pass0 (pa_cons (pv 0) pa_nil))))), ?_⟩
    rcases t with ⟨rfl, _⟩ | ⟨p, dx, rfl, hp⟩
    · exact ⟨_, rfl, _, _, _, _, false, rfl, .own C, .base (.int a), T.nI, false, rfl, iteF ⟨_, rfl, _, true, false, rfl, Kd.int, k⟩⟩
    · exact ⟨_, rfl, _, _, _, _, true, rfl, .own C, T.ty hp, T.ic.me, true, rfl, iteT k⟩
abbrev sTerms : Stmt := top 11
theorem scTerms : FnScope ["value"] ["value"] (defScope sTerms) := ⟨rfl, rfl, rfl, by decide +kernel, rfl, by decide +kernel, by decide +kernel⟩
theorem ok_terms {f C fK fM : Addr} {fd : FuncData} (F : Fun K "terms" "terms" sTerms f fd) (T : TxM K mg C fK fM) : FnOk P w K mg base CX0 1 f fd ["value"] (spTerms C) := by
  refine F.ok scTerms (fun vs H Q E h => ?_) (fun cdv A outer s H vs Q E hr h => ?_)
  · obtain ⟨v, a, b, rfl, _⟩ := h
    rfl
  · obtain ⟨v, a, b, rfl, t, k⟩ := h
    refine ⟨_, pss_cons (ps_if (pt_val (pe_callB call_isi (by rfl) T.isi (by decide +kernel) (pa_cons (pv 0) (pa_cons (pe_glob (v := .ref C) (by rfl) T.mgC rfl) pa_nil)))) (pss_one (ps_ret (pe_tup (pa_cons (pe_fld (pv 0) rfl) (pa_cons (pe_fld (pv 0) rfl) pa_nil))))) pss_nil)
      (pss_one (ps_ret (pe_tup (pa_cons (pv 0) (pa_cons pe_int pa_nil))))), ?_⟩
    rcases t with ⟨rfl, rfl⟩ | ⟨p, dx, rfl, hp⟩
    · exact ⟨_, rfl, _, _, _, _, false, rfl, .own C, .base (.int a), T.nI, false, rfl, iteF ⟨_, rfl, by show 2 ≤ sizeLine; decide, fun q nq => k q nq⟩⟩
    · exact ⟨_, rfl, _, _, _, _, true, rfl, .own C, T.ty hp, T.ic.me, true, rfl, iteT ⟨_, rfl, p, C, dx, _, _, rfl, hp, T.cl, T.nT, rfl2_top _ _, _, rfl, p, C, dx, _, _, rfl, hp, T.cl, T.nB, rfl2_bottom _ _, by show 2 ≤ sizeLine; decide, fun q nq => k q nq⟩⟩
theorem wide_n {a b : Int} (ha : a.natAbs < 2 ^ 110) (hb : b.natAbs < 2 ^ 110) : CMulW a b := wide_mul ha hb (by decide) (by decide) (by decide)
theorem prod_lt {a b : Int} (ha : a.natAbs < 2 ^ 110) (hb : b.natAbs < 2 ^ 110) : (a * b).natAbs < 2 ^ 220 := wide_lt (a := 110) (b := 110) ha hb
abbrev sAdd : Stmt := inClass (top 9) 2
theorem scAdd : FnScope ["self", "other", "top", "bottom"] ["self", "other"] (defScope sAdd) := ⟨rfl, rfl, rfl, by decide +kernel, rfl, by decide +kernel, by decide +kernel⟩
theorem ok_Add {f C CI fE fW fK fM fQ : Addr} {fd fdK fdM fdQ : FuncData} (F : Fun K "__add__" "Ratio.__add__" sAdd f fd) (T : TxM K mg C fK fM) (R : TxR K mg C CI fE fW) (M : Mk K C fQ) (GK : FnOk P w K mg base CX0 2 fK fdK ["value"] (spTerm C)) (bK : Binds K fdK ["value"] []) (GM : FnOk P w K mg base CX0 1 fM fdM ["value"] (spTerms C)) (bM : Binds K fdM ["value"] [])
    (GQ : FnOk P w K mg base (L2.CX P w) 3 fQ fdQ ["self", "top", "bottom"] (spInit K C CI)) (bQ : Binds K fdQ ["self", "top", "bottom"] []) : FnOk P w K mg base CX0 5 f fd ["self", "other"] (spBin C gAdd) := by
  refine F.ok scAdd (fun vs H Q E h => ?_) (fun cdv A outer s H vs Q E hr h => ?_)
  · obtain ⟨p, dx, v, a, b, c, d, rfl, _⟩ := h
    rfl
  · obtain ⟨p, dx, v, a, b, c, d, rfl, hp, t, b0, d0, wa, wb, wc, wd, k⟩ := h
    have nd := scAdd.nd
    refine ⟨_, pss_cons (ps_if (pt_not (pt_val (pe_call GK (hr.mono (by decide)) (by rfl) T.term.g T.term.k bK .nil pass0 (pa_cons (pv 1) pa_nil)))) (pss_one ps_never) pss_nil)
      (pss_cons (ps_asg (pe_call GM (hr.mono (by decide)) (by rfl) T.terms.g T.terms.k bM .nil pass0 (pa_cons (pv 1) pa_nil)) (pg_tup rfl (pgs_cons (pg_name (i := 2) nd rfl (.inl rfl)) (pgs_cons (pg_name (i := 3) nd rfl (.inl rfl)) pgs_nil))))
      (pss_one (ps_ret (pe_make M GQ hr (by rfl) R.mgC bQ .nil passL (pa_cons (pe_op op_add (pe_op op_mulW (pe_fld (pv 0) rfl) (pv 3)) (pe_op op_mulW (pv 2) (pe_fld (pv 0) rfl))) (pa_cons (pe_op op_mulW (pe_fld (pv 0) rfl) (pv 3)) pa_nil)))))), ?_⟩
    refine ⟨_, rfl, v, c, d, rfl, t, _, rfl, iteF ?_⟩
    refine ⟨_, rfl, v, c, d, rfl, t, fun q nq => ?_⟩
    refine ⟨q, _, rfl, SqT.of upd_same, rfl, _, _, rfl, _, _, rfl, rfl, ?_⟩
    have hp' : upd H q (.tup [.int c, .int d]) p = some (.ins C dx (rfl2 a b)) := (same_upd nq) _ _ hp
    have w1 := prod_lt wa wd
    have w2 := prod_lt wc wb
    have w3 := prod_lt wb wd
    have nz : b * d ≠ 0 := Int.mul_ne_zero (by omega) (by omega)
    refine ⟨_, rfl, p, C, dx, _, _, rfl, hp', T.cl, T.nT, rfl2_top _ _, _, rfl, a, d, rfl, rfl, wide_n wa wd, _, rfl, _, rfl, p, C, dx, _, _, rfl, hp', T.cl, T.nB, rfl2_bottom _ _, c, b, rfl, rfl, wide_n wc wb, _, _, rfl, rfl, ?_⟩
    refine ⟨_, rfl, p, C, dx, _, _, rfl, hp', T.cl, T.nB, rfl2_bottom _ _, _, rfl, b, d, rfl, rfl, wide_n wb wd, fun x dx2 nx ndx ne => rd_make (m := gAdd a b c d) (n := b * d) nz (by omega) nx ndx ne rfl fun H8 s8 e8 => ?_⟩
    exact k x H8 ((same_upd nq).trans s8) ⟨dx2, e8⟩
abbrev sSub : Stmt := inClass (top 9) 4
theorem scSub : FnScope ["self", "other", "top", "bottom"] ["self", "other"] (defScope sSub) := ⟨rfl, rfl, rfl, by decide +kernel, rfl, by decide +kernel, by decide +kernel⟩
theorem ok_Sub {f C CI fE fW fK fM fQ : Addr} {fd fdK fdM fdQ : FuncData} (F : Fun K "__sub__" "Ratio.__sub__" sSub f fd) (T : TxM K mg C fK fM) (R : TxR K mg C CI fE fW) (M : Mk K C fQ) (GK : FnOk P w K mg base CX0 2 fK fdK ["value"] (spTerm C)) (bK : Binds K fdK ["value"] []) (GM : FnOk P w K mg base CX0 1 fM fdM ["value"] (spTerms C)) (bM : Binds K fdM ["value"] [])
    (GQ : FnOk P w K mg base (L2.CX P w) 3 fQ fdQ ["self", "top", "bottom"] (spInit K C CI)) (bQ : Binds K fdQ ["self", "top", "bottom"] []) : FnOk P w K mg base CX0 5 f fd ["self", "other"] (spBin C gSub) := by
  refine F.ok scSub (fun vs H Q E h => ?_) (fun cdv A outer s H vs Q E hr h => ?_)
  · obtain ⟨p, dx, v, a, b, c, d, rfl, _⟩ := h
    rfl
  · obtain ⟨p, dx, v, a, b, c, d, rfl, hp, t, b0, d0, wa, wb, wc, wd, k⟩ := h
    have nd := scSub.nd
    refine ⟨_, pss_cons (ps_if (pt_not (pt_val (pe_call GK (hr.mono (by decide)) (by rfl) T.term.g T.term.k bK .nil pass0 (pa_cons (pv 1) pa_nil)))) (pss_one ps_never) pss_nil)
      (pss_cons (ps_asg (pe_call GM (hr.mono (by decide)) (by rfl) T.terms.g T.terms.k bM .nil pass0 (pa_cons (pv 1) pa_nil)) (pg_tup rfl (pgs_cons (pg_name (i := 2) nd rfl (.inl rfl)) (pgs_cons (pg_name (i := 3) nd rfl (.inl rfl)) pgs_nil))))
      (pss_one (ps_ret (pe_make M GQ hr (by rfl) R.mgC bQ .nil passL (pa_cons (pe_op op_sub (pe_op op_mulW (pe_fld (pv 0) rfl) (pv 3)) (pe_op op_mulW (pv 2) (pe_fld (pv 0) rfl))) (pa_cons (pe_op op_mulW (pe_fld (pv 0) rfl) (pv 3)) pa_nil)))))), ?_⟩
    refine ⟨_, rfl, v, c, d, rfl, t, _, rfl, iteF ?_⟩
    refine ⟨_, rfl, v, c, d, rfl, t, fun q nq => ?_⟩
    refine ⟨q, _, rfl, SqT.of upd_same, rfl, _, _, rfl, _, _, rfl, rfl, ?_⟩
    have hp' : upd H q (.tup [.int c, .int d]) p = some (.ins C dx (rfl2 a b)) := (same_upd nq) _ _ hp
    have w1 := prod_lt wa wd
    have w2 := prod_lt wc wb
    have w3 := prod_lt wb wd
    have nz : b * d ≠ 0 := Int.mul_ne_zero (by omega) (by omega)
    refine ⟨_, rfl, p, C, dx, _, _, rfl, hp', T.cl, T.nT, rfl2_top _ _, _, rfl, a, d, rfl, rfl, wide_n wa wd, _, rfl, _, rfl, p, C, dx, _, _, rfl, hp', T.cl, T.nB, rfl2_bottom _ _, c, b, rfl, rfl, wide_n wc wb, _, _, rfl, rfl, ?_⟩
    refine ⟨_, rfl, p, C, dx, _, _, rfl, hp', T.cl, T.nB, rfl2_bottom _ _, _, rfl, b, d, rfl, rfl, wide_n wb wd, fun x dx2 nx ndx ne => rd_make (m := gSub a b c d) (n := b * d) nz (by omega) nx ndx ne rfl fun H8 s8 e8 => ?_⟩
    exact k x H8 ((same_upd nq).trans s8) ⟨dx2, e8⟩
abbrev sMul : Stmt := inClass (top 9) 6
theorem scMul : FnScope ["self", "other", "top", "bottom"] ["self", "other"] (defScope sMul) := ⟨rfl, rfl, rfl, by decide +kernel, rfl, by decide +kernel, by decide +kernel⟩
theorem ok_Mul {f C CI fE fW fK fM fQ : Addr} {fd fdK fdM fdQ : FuncData} (F : Fun K "__mul__" "Ratio.__mul__" sMul f fd) (T : TxM K mg C fK fM) (R : TxR K mg C CI fE fW) (M : Mk K C fQ) (GK : FnOk P w K mg base CX0 2 fK fdK ["value"] (spTerm C)) (bK : Binds K fdK ["value"] []) (GM : FnOk P w K mg base CX0 1 fM fdM ["value"] (spTerms C)) (bM : Binds K fdM ["value"] [])
    (GQ : FnOk P w K mg base (L2.CX P w) 3 fQ fdQ ["self", "top", "bottom"] (spInit K C CI)) (bQ : Binds K fdQ ["self", "top", "bottom"] []) : FnOk P w K mg base CX0 5 f fd ["self", "other"] (spBin C gMul) := by
  refine F.ok scMul (fun vs H Q E h => ?_) (fun cdv A outer s H vs Q E hr h => ?_)
  · obtain ⟨p, dx, v, a, b, c, d, rfl, _⟩ := h
    rfl
  · obtain ⟨p, dx, v, a, b, c, d, rfl, hp, t, b0, d0, wa, wb, wc, wd, k⟩ := h
    have nd := scMul.nd
    refine ⟨_, pss_cons (ps_if (pt_not (pt_val (pe_call GK (hr.mono (by decide)) (by rfl) T.term.g T.term.k bK .nil pass0 (pa_cons (pv 1) pa_nil)))) (pss_one ps_never) pss_nil)
      (pss_cons (ps_asg (pe_call GM (hr.mono (by decide)) (by rfl) T.terms.g T.terms.k bM .nil pass0 (pa_cons (pv 1) pa_nil)) (pg_tup rfl (pgs_cons (pg_name (i := 2) nd rfl (.inl rfl)) (pgs_cons (pg_name (i := 3) nd rfl (.inl rfl)) pgs_nil))))
      (pss_one (ps_ret (pe_make M GQ hr (by rfl) R.mgC bQ .nil passL (pa_cons (pe_op op_mulW (pe_fld (pv 0) rfl) (pv 2)) (pa_cons (pe_op op_mulW (pe_fld (pv 0) rfl) (pv 3)) pa_nil)))))), ?_⟩
    refine ⟨_, rfl, v, c, d, rfl, t, _, rfl, iteF ?_⟩
    refine ⟨_, rfl, v, c, d, rfl, t, fun q nq => ?_⟩
    refine ⟨q, _, rfl, SqT.of upd_same, rfl, _, _, rfl, _, _, rfl, rfl, ?_⟩
    have hp' : upd H q (.tup [.int c, .int d]) p = some (.ins C dx (rfl2 a b)) := (same_upd nq) _ _ hp
    have w1 := prod_lt wa wd
    have w2 := prod_lt wc wb
    have w3 := prod_lt wb wd
    have nz : b * d ≠ 0 := Int.mul_ne_zero (by omega) (by omega)
    refine ⟨_, rfl, p, C, dx, _, _, rfl, hp', T.cl, T.nT, rfl2_top _ _, _, rfl, a, c, rfl, rfl, wide_n wa wc, ?_⟩
    refine ⟨_, rfl, p, C, dx, _, _, rfl, hp', T.cl, T.nB, rfl2_bottom _ _, _, rfl, b, d, rfl, rfl, wide_n wb wd, fun x dx2 nx ndx ne => rd_make (m := gMul a b c d) (n := b * d) nz (by omega) nx ndx ne rfl fun H8 s8 e8 => ?_⟩
    exact k x H8 ((same_upd nq).trans s8) ⟨dx2, e8⟩
abbrev sNeg : Stmt := inClass (top 9) 8
theorem scNeg : FnScope ["self"] ["self"] (defScope sNeg) := ⟨rfl, rfl, rfl, by decide +kernel, rfl, by decide +kernel, by decide +kernel⟩
theorem ok_Neg {f C CI fE fW fK fM fQ : Addr} {fd fdQ : FuncData} (F : Fun K "__neg__" "Ratio.__neg__" sNeg f fd) (T : TxM K mg C fK fM) (R : TxR K mg C CI fE fW) (M : Mk K C fQ) (mA : mg "abs" = none)
    (GQ : FnOk P w K mg base (L2.CX P w) 3 fQ fdQ ["self", "top", "bottom"] (spInit K C CI)) (bQ : Binds K fdQ ["self", "top", "bottom"] []) : FnOk P w K mg base CX0 5 f fd ["self"] (spUn C (fun a => -a)) := by
  refine F.ok scNeg (fun vs H Q E h => ?_) (fun cdv A outer s H vs Q E hr h => ?_)
  · obtain ⟨p, dx, a, b, rfl, _⟩ := h
    rfl
  · obtain ⟨p, dx, a, b, rfl, hp, b0, wa, wb, k⟩ := h
    refine ⟨_, pss_one (ps_ret (pe_make M GQ hr (by rfl) R.mgC bQ .nil passL (pa_cons (pe_un un_neg (pe_fld (pv 0) rfl)) (pa_cons (pe_fld (pv 0) rfl) pa_nil)))), ?_⟩
    refine ⟨_, rfl, p, C, dx, _, _, rfl, hp, T.cl, T.nT, rfl2_top _ _, a, rfl, _, rfl, p, C, dx, _, _, rfl, hp, T.cl, T.nB, rfl2_bottom _ _, fun x dx2 nx ndx ne => rd_make (m := (fun a => -a) a) (n := b) (by omega) (by omega) nx ndx ne rfl fun H8 s8 e8 => ?_⟩
    exact k x H8 s8 ⟨dx2, e8⟩
abbrev sAbs : Stmt := inClass (top 9) 9
theorem scAbs : FnScope ["self"] ["self"] (defScope sAbs) := ⟨rfl, rfl, rfl, by decide +kernel, rfl, by decide +kernel, by decide +kernel⟩
theorem ok_Abs {f C CI fE fW fK fM fQ : Addr} {fd fdQ : FuncData} (F : Fun K "__abs__" "Ratio.__abs__" sAbs f fd) (T : TxM K mg C fK fM) (R : TxR K mg C CI fE fW) (M : Mk K C fQ) (mA : mg "abs" = none)
    (GQ : FnOk P w K mg base (L2.CX P w) 3 fQ fdQ ["self", "top", "bottom"] (spInit K C CI)) (bQ : Binds K fdQ ["self", "top", "bottom"] []) : FnOk P w K mg base CX0 5 f fd ["self"] (spUn C gAbs) := by
  refine F.ok scAbs (fun vs H Q E h => ?_) (fun cdv A outer s H vs Q E hr h => ?_)
  · obtain ⟨p, dx, a, b, rfl, _⟩ := h
    rfl
  · obtain ⟨p, dx, a, b, rfl, hp, b0, wa, wb, k⟩ := h
    refine ⟨_, pss_one (ps_ret (pe_make M GQ hr (by rfl) R.mgC bQ .nil passL (pa_cons (pe_callB call_abs (by rfl) mA (by decide +kernel) (pa_cons (pe_fld (pv 0) rfl) pa_nil)) (pa_cons (pe_fld (pv 0) rfl) pa_nil)))), ?_⟩
    refine ⟨_, rfl, p, C, dx, _, _, rfl, hp, T.cl, T.nT, rfl2_top _ _, a, rfl, _, rfl, p, C, dx, _, _, rfl, hp, T.cl, T.nB, rfl2_bottom _ _, fun x dx2 nx ndx ne => rd_make (m := gAbs a) (n := b) (by omega) (by omega) nx ndx ne rfl fun H8 s8 e8 => ?_⟩
    exact k x H8 s8 ⟨dx2, e8⟩
abbrev sRadd : Stmt := inClass (top 9) 3
theorem scRadd : FnScope ["self", "other"] ["self", "other"] (defScope sRadd) := ⟨rfl, rfl, rfl, by decide +kernel, rfl, by decide +kernel, by decide +kernel⟩
theorem ok_Radd {f C f0 g0 : Addr} {fd fd0 : FuncData} {fo ro : Option Value} (F : Fun K "__radd__" "Ratio.__radd__" sRadd f fd) (O : OwnOp K C "add" f0 g0) (G0 : FnOk P w K mg base CX0 5 f0 fd0 ["self", "other"] (spBin C gAdd)) (b0 : Binds K fd0 ["self", "other"] [])
    (h1 : PySem.W.findIn K (.type "int") (PySem.dunder "add") = some fo) (h2 : PySem.W.findIn K (.type "int") (PySem.dunderR "add") = some ro) : FnOk P w K mg base CX0 6 f fd ["self", "other"] (spBin C gAdd) := by
  refine F.ok scRadd (fun vs H Q E h => ?_) (fun cdv A outer s H vs Q E hr h => ?_)
  · obtain ⟨p, dx, v, a, b, c, d, rfl, _⟩ := h
    rfl
  · obtain ⟨p, dx, v, a, b, c, d, rfl, hp, t, k⟩ := id h
    refine ⟨_, pss_one (ps_ret (pe_op (op_own (op := .Add) O G0 b0 pass0 hr h1 h2) (pv 0) (pv 1))), ?_⟩
    refine ⟨_, rfl, _, rfl, p, dx, _, rfl, hp, ?_, p, dx, v, a, b, c, d, rfl, hp, t, k⟩
    rcases t with ⟨e, _⟩ | ⟨p2, dx2, e, e2⟩
    · exact .inl ⟨c, e⟩
    · exact .inr ⟨p2, dx2, _, e, e2⟩
abbrev sRmul : Stmt := inClass (top 9) 7
theorem scRmul : FnScope ["self", "other"] ["self", "other"] (defScope sRmul) := ⟨rfl, rfl, rfl, by decide +kernel, rfl, by decide +kernel, by decide +kernel⟩
theorem ok_Rmul {f C f0 g0 : Addr} {fd fd0 : FuncData} {fo ro : Option Value} (F : Fun K "__rmul__" "Ratio.__rmul__" sRmul f fd) (O : OwnOp K C "mul" f0 g0) (G0 : FnOk P w K mg base CX0 5 f0 fd0 ["self", "other"] (spBin C gMul)) (b0 : Binds K fd0 ["self", "other"] [])
    (h1 : PySem.W.findIn K (.type "int") (PySem.dunder "mul") = some fo) (h2 : PySem.W.findIn K (.type "int") (PySem.dunderR "mul") = some ro) : FnOk P w K mg base CX0 6 f fd ["self", "other"] (spBin C gMul) := by
  refine F.ok scRmul (fun vs H Q E h => ?_) (fun cdv A outer s H vs Q E hr h => ?_)
  · obtain ⟨p, dx, v, a, b, c, d, rfl, _⟩ := h
    rfl
  · obtain ⟨p, dx, v, a, b, c, d, rfl, hp, t, k⟩ := id h
    refine ⟨_, pss_one (ps_ret (pe_op (op_own (op := .Mult) O G0 b0 pass0 hr h1 h2) (pv 0) (pv 1))), ?_⟩
    refine ⟨_, rfl, _, rfl, p, dx, _, rfl, hp, ?_, p, dx, v, a, b, c, d, rfl, hp, t, k⟩
    rcases t with ⟨e, _⟩ | ⟨p2, dx2, e, e2⟩
    · exact .inl ⟨c, e⟩
    · exact .inr ⟨p2, dx2, _, e, e2⟩
theorem neg_low {a b : Int} (hb : 0 < b) (g : Nat.gcd a.natAbs b.natAbs = 1) : (-a).fdiv (cmn (-a) b) = -a ∧ b.fdiv (cmn (-a) b) = b := by
  rw [cmn_low hb (by rw [Int.natAbs_neg]; exact g), Int.fdiv_one, Int.fdiv_one]
  exact ⟨rfl, rfl⟩
def spRsub (C : Addr) : Sp := fun vs H Q _ => ∃ (p dx : Addr) (v : V) (a b c d : Int), vs = [.ref p, v] ∧ H p = some (.ins C dx (rfl2 a b)) ∧ TermAt C H v c d ∧ 0 < b ∧ 0 < d ∧ a.natAbs < 2 ^ 110 ∧ b.natAbs < 2 ^ 110 ∧ c.natAbs < 2 ^ 110 ∧ d.natAbs < 2 ^ 110 ∧ Nat.gcd a.natAbs b.natAbs = 1 ∧
  ∀ x H', Same H H' → RatAt C H' x (gAdd (-a) b c d) (b * d) → Q (.ref x) H'
abbrev sRsub : Stmt := inClass (top 9) 5
theorem scRsub : FnScope ["self", "other"] ["self", "other"] (defScope sRsub) := ⟨rfl, rfl, rfl, by decide +kernel, rfl, by decide +kernel, by decide +kernel⟩
theorem ok_Rsub {f C f0 g0 fN : Addr} {fd fd0 fdN : FuncData} {fo ro : Option Value} (F : Fun K "__rsub__" "Ratio.__rsub__" sRsub f fd) (O : OwnOp K C "add" f0 g0) (G0 : FnOk P w K mg base CX0 5 f0 fd0 ["self", "other"] (spBin C gAdd)) (b0 : Binds K fd0 ["self", "other"] [])
    (GN : FnOk P w K mg base CX0 5 fN fdN ["self"] (spUn C (fun a => -a))) (bN : Binds K fdN ["self"] []) (aN : PySem.W.findIn K (.ref C) "__neg__" = some (some (.ref fN))) (iN : PySem.W.isFn K (.ref fN) = true)
    (h1 : PySem.W.findIn K (.type "int") (PySem.dunder "add") = some fo) (h2 : PySem.W.findIn K (.type "int") (PySem.dunderR "add") = some ro) : FnOk P w K mg base CX0 6 f fd ["self", "other"] (spRsub C) := by
  refine F.ok scRsub (fun vs H Q E h => ?_) (fun cdv A outer s H vs Q E hr h => ?_)
  · obtain ⟨p, dx, v, a, b, c, d, rfl, _⟩ := h
    rfl
  · obtain ⟨p, dx, v, a, b, c, d, rfl, hp, t, b0', d0, wa, wb, wc, wd, gg, k⟩ := h
    refine ⟨_, pss_one (ps_ret (pe_op (op_own (op := .Add) O G0 b0 pass0 hr h1 h2) (pe_un (un_negO aN iN GN bN pass0 hr) (pv 0)) (pv 1))), ?_⟩
    refine ⟨_, rfl, p, dx, _, rfl, hp, p, dx, a, b, rfl, hp, b0', wa, wb, fun x H1 s1 r1 => ?_⟩
    obtain ⟨dx1, e1⟩ := r1
    rw [(neg_low b0' gg).1, (neg_low b0' gg).2] at e1
    have t1 : TermAt C H1 v c d := by
      rcases t with h | ⟨p2, dx2, e, e2⟩
      · exact .inl h
      · exact .inr ⟨p2, dx2, e, s1 _ _ e2⟩
    refine ⟨_, rfl, x, dx1, _, rfl, e1, ?_, x, dx1, v, -a, b, c, d, rfl, e1, t1, b0', d0, by omega, wb, wc, wd, fun y H2 s2 r2 => k y H2 (s1.trans s2) r2⟩
    rcases t1 with ⟨e, _⟩ | ⟨p2, dx2, e, e2⟩
    · exact .inl ⟨c, e⟩
    · exact .inr ⟨p2, dx2, _, e, e2⟩
end
/-! ### the law -/
structure TxL (K : PySem.W.Frag) (mg : Str → Option Value) (fB fT fI fL fF : Addr) : Prop where
  bag : At K mg "_law_bag" fB
  take : At K mg "_law_take" fT
  is : At K mg "_law_is" fI
  low : At K mg "_law_lowest" fL
  frac : At K mg "_law_fraction" fF
theorem low_one {a b : Int} (hb : 0 < b) (g : Nat.gcd a.natAbs b.natAbs = 1) : a.fdiv (cmn a b) = a ∧ b.fdiv (cmn a b) = b := by
  rw [cmn_low hb g, Int.fdiv_one, Int.fdiv_one]
  exact ⟨rfl, rfl⟩
theorem abs_low {a b : Int} (hb : 0 < b) (g : Nat.gcd a.natAbs b.natAbs = 1) : (gAbs a).fdiv (cmn (gAbs a) b) = gAbs a ∧ b.fdiv (cmn (gAbs a) b) = b := by
  have e : (gAbs a).natAbs = a.natAbs := by unfold gAbs; split <;> omega
  exact low_one hb (by rw [e]; exact g)
section
variable {P : Program} {w : World} {K : PySem.W.Frag} {mg : Str → Option Value} {base : Heap}
abbrev sLaw : Stmt := top 20
theorem scLaw : FnScope ["_law_script", "_law_bag_here", "_law_a", "_law_b", "_law_n", "_law_left", "_law_right"] ["_law_script"] (defScope sLaw) := ⟨rfl, rfl, rfl, by decide +kernel, rfl, by decide +kernel, by decide +kernel⟩
theorem ok_law {f C CI fE fW fB fT fI fL fF fQ fAdd fSub fMult gAdd' gSub' gMult' fNeg fAbs : Addr} {fd fdB fdT fdI fdL fdF fdQ fdA fdS fdM fdA' fdS' fdM' fdN fdH : FuncData} {fo1 ro1 fo2 ro2 fo3 ro3 : Option Value} (F : Fun K "law" "law" sLaw f fd) (T : TxR K mg C CI fE fW) (L : TxL K mg fB fT fI fL fF) (M : Mk K C fQ) (mA : mg "abs" = none)
    (GB : FnOk P w K mg base CX0 1 fB fdB ["_law_script"] (spBag K)) (bB : Binds K fdB ["_law_script"] [])
    (GT : FnOk P w K mg base CX0 1 fT fdT ["_law_bag_here", "_law_size"] spTake) (bT : Binds K fdT ["_law_bag_here", "_law_size"] [])
    (GI : FnOk P w K mg base CX0 2 fI fdI ["_law_actual", "_law_due"] (spIs C)) (bI : Binds K fdI ["_law_actual", "_law_due"] [])
    (GL : FnOk P w K mg base CX0 1 fL fdL ["_law_top", "_law_bottom"] spLowest) (bL : Binds K fdL ["_law_top", "_law_bottom"] [])
    (GF : FnOk P w K mg base CX0 2 fF fdF ["_law_bag_here"] spFrac) (bF : Binds K fdF ["_law_bag_here"] [])
    (GQ : FnOk P w K mg base (L2.CX P w) 3 fQ fdQ ["self", "top", "bottom"] (spInit K C CI)) (bQ : Binds K fdQ ["self", "top", "bottom"] [])
    (OAdd : OwnOp K C "add" fAdd gAdd') (OSub : OwnOp K C "sub" fSub gSub') (OMult : OwnOp K C "mul" fMult gMult')
    (GAdd : FnOk P w K mg base CX0 5 fAdd fdA ["self", "other"] (spBin C gAdd)) (bAdd : Binds K fdA ["self", "other"] []) (GSub : FnOk P w K mg base CX0 5 fSub fdS ["self", "other"] (spBin C gSub)) (bSub : Binds K fdS ["self", "other"] []) (GMult : FnOk P w K mg base CX0 5 fMult fdM ["self", "other"] (spBin C gMul)) (bMult : Binds K fdM ["self", "other"] [])
    (GrAdd : FnOk P w K mg base CX0 6 gAdd' fdA' ["self", "other"] (spBin C gAdd)) (brAdd : Binds K fdA' ["self", "other"] []) (GrSub : FnOk P w K mg base CX0 6 gSub' fdS' ["self", "other"] (spRsub C)) (brSub : Binds K fdS' ["self", "other"] []) (GrMult : FnOk P w K mg base CX0 6 gMult' fdM' ["self", "other"] (spBin C gMul)) (brMult : Binds K fdM' ["self", "other"] [])
    (iAdd1 : PySem.W.findIn K (.type "int") (PySem.dunder "add") = some fo1) (iAdd2 : PySem.W.findIn K (.type "int") (PySem.dunderR "add") = some ro1) (iSub1 : PySem.W.findIn K (.type "int") (PySem.dunder "sub") = some fo2) (iSub2 : PySem.W.findIn K (.type "int") (PySem.dunderR "sub") = some ro2) (iMult1 : PySem.W.findIn K (.type "int") (PySem.dunder "mul") = some fo3) (iMult2 : PySem.W.findIn K (.type "int") (PySem.dunderR "mul") = some ro3)
    (GNeg : FnOk P w K mg base CX0 5 fNeg fdN ["self"] (spUn C (fun a => -a))) (bNeg : Binds K fdN ["self"] []) (aNeg : PySem.W.findIn K (.ref C) "__neg__" = some (some (.ref fNeg))) (iNeg : PySem.W.isFn K (.ref fNeg) = true)
    (GAbs : FnOk P w K mg base CX0 5 fAbs fdH ["self"] (spUn C gAbs)) (bAbs : Binds K fdH ["self"] []) (aAbs : PySem.W.findIn K (.ref C) "__abs__" = some (some (.ref fAbs))) (iAbs : PySem.W.isFn K (.ref fAbs) = true) :
    FnOk P w K mg base CX0 7 f fd ["_law_script"] (spLaw K) := by
  refine F.ok scLaw (fun vs H Q E h => ?_) (fun cdv A outer s H vs Q E hr h => ?_)
  · obtain ⟨t, ns, rfl, _⟩ := h
    rfl
  · obtain ⟨sa, ns, rfl, hS, _, k⟩ := h
    have hr1 : Room 1 _ := hr.mono (by decide)
    have hr2 : Room 2 _ := hr.mono (by decide)
    have hr4 : Room 4 _ := hr.mono (by decide)
    have hr5 : Room 5 _ := hr.mono (by decide)
    have nd := scLaw.nd
    refine ⟨_, pss_cons (ps_set (i := 1) nd rfl (Or.inl rfl) (pe_call GB hr1 (by rfl) L.bag.g L.bag.k bB .nil pass0 (pa_cons (pv 0) pa_nil)))
      (pss_cons (ps_set (i := 2) nd rfl (Or.inl rfl) (pe_call GF hr2 (by rfl) L.frac.g L.frac.k bF .nil pass0 (pa_cons (pv 1) pa_nil)))
      (pss_cons (ps_set (i := 3) nd rfl (Or.inl rfl) (pe_call GF hr2 (by rfl) L.frac.g L.frac.k bF .nil pass0 (pa_cons (pv 1) pa_nil)))
      (pss_cons (ps_set (i := 4) nd rfl (Or.inl rfl) (pe_op op_sub (pe_call GT hr1 (by rfl) L.take.g L.take.k bT .nil pass0 (pa_cons (pv 1) (pa_cons pe_int pa_nil))) pe_int))
      (pss_cons (ps_set (i := 5) nd rfl (Or.inl rfl) (pe_make M GQ hr4 (by rfl) T.mgC bQ .nil passL (pa_cons (pe_ix ix_tup (pv 2) pe_int (fun _ _ => rfl)) (pa_cons (pe_ix ix_tup (pv 2) pe_int (fun _ _ => rfl)) pa_nil))))
      (pss_cons (ps_set (i := 6) nd rfl (Or.inl rfl) (pe_make M GQ hr4 (by rfl) T.mgC bQ .nil passL (pa_cons (pe_ix ix_tup (pv 3) pe_int (fun _ _ => rfl)) (pa_cons (pe_ix ix_tup (pv 3) pe_int (fun _ _ => rfl)) pa_nil))))
      (pss_cons (ps_if (pt_not (pt_val (pe_call GI hr2 (by rfl) L.is.g L.is.k bI .nil pass0 (pa_cons (pe_op (op_own (op := .Add) OAdd GAdd bAdd pass0 hr5 iAdd1 iAdd2) (pv 5) (pv 6)) (pa_cons (pe_call GL hr1 (by rfl) L.low.g L.low.k bL .nil pass0 (pa_cons (pe_op op_add (pe_op op_mulW (pe_ix ix_tup (pv 2) pe_int (fun _ _ => rfl)) (pe_ix ix_tup (pv 3) pe_int (fun _ _ => rfl))) (pe_op op_mulW (pe_ix ix_tup (pv 3) pe_int (fun _ _ => rfl)) (pe_ix ix_tup (pv 2) pe_int (fun _ _ => rfl)))) (pa_cons (pe_op op_mulW (pe_ix ix_tup (pv 2) pe_int (fun _ _ => rfl)) (pe_ix ix_tup (pv 3) pe_int (fun _ _ => rfl))) pa_nil))) pa_nil))))) (pss_one (ps_ret pe_bl)) pss_nil)
      (pss_cons (ps_if (pt_not (pt_val (pe_call GI hr2 (by rfl) L.is.g L.is.k bI .nil pass0 (pa_cons (pe_op (op_own (op := .Sub) OSub GSub bSub pass0 hr5 iSub1 iSub2) (pv 5) (pv 6)) (pa_cons (pe_call GL hr1 (by rfl) L.low.g L.low.k bL .nil pass0 (pa_cons (pe_op op_sub (pe_op op_mulW (pe_ix ix_tup (pv 2) pe_int (fun _ _ => rfl)) (pe_ix ix_tup (pv 3) pe_int (fun _ _ => rfl))) (pe_op op_mulW (pe_ix ix_tup (pv 3) pe_int (fun _ _ => rfl)) (pe_ix ix_tup (pv 2) pe_int (fun _ _ => rfl)))) (pa_cons (pe_op op_mulW (pe_ix ix_tup (pv 2) pe_int (fun _ _ => rfl)) (pe_ix ix_tup (pv 3) pe_int (fun _ _ => rfl))) pa_nil))) pa_nil))))) (pss_one (ps_ret pe_bl)) pss_nil)
      (pss_cons (ps_if (pt_not (pt_val (pe_call GI hr2 (by rfl) L.is.g L.is.k bI .nil pass0 (pa_cons (pe_op (op_own (op := .Mult) OMult GMult bMult pass0 hr5 iMult1 iMult2) (pv 5) (pv 6)) (pa_cons (pe_call GL hr1 (by rfl) L.low.g L.low.k bL .nil pass0 (pa_cons (pe_op op_mulW (pe_ix ix_tup (pv 2) pe_int (fun _ _ => rfl)) (pe_ix ix_tup (pv 3) pe_int (fun _ _ => rfl))) (pa_cons (pe_op op_mulW (pe_ix ix_tup (pv 2) pe_int (fun _ _ => rfl)) (pe_ix ix_tup (pv 3) pe_int (fun _ _ => rfl))) pa_nil))) pa_nil))))) (pss_one (ps_ret pe_bl)) pss_nil)
      (pss_cons (ps_if (pt_not (pt_val (pe_call GI hr2 (by rfl) L.is.g L.is.k bI .nil pass0 (pa_cons (pe_op (op_own (op := .Add) OAdd GAdd bAdd pass0 hr5 iAdd1 iAdd2) (pv 5) (pv 4)) (pa_cons (pe_call GL hr1 (by rfl) L.low.g L.low.k bL .nil pass0 (pa_cons (pe_op op_add (pe_ix ix_tup (pv 2) pe_int (fun _ _ => rfl)) (pe_op op_mulW (pv 4) (pe_ix ix_tup (pv 2) pe_int (fun _ _ => rfl)))) (pa_cons (pe_ix ix_tup (pv 2) pe_int (fun _ _ => rfl)) pa_nil))) pa_nil))))) (pss_one (ps_ret pe_bl)) pss_nil)
      (pss_cons (ps_if (pt_not (pt_val (pe_call GI hr2 (by rfl) L.is.g L.is.k bI .nil pass0 (pa_cons (pe_op (op_intown (op := .Add) OAdd int_add GrAdd brAdd pass0 hr) (pv 4) (pv 5)) (pa_cons (pe_call GL hr1 (by rfl) L.low.g L.low.k bL .nil pass0 (pa_cons (pe_op op_add (pe_ix ix_tup (pv 2) pe_int (fun _ _ => rfl)) (pe_op op_mulW (pv 4) (pe_ix ix_tup (pv 2) pe_int (fun _ _ => rfl)))) (pa_cons (pe_ix ix_tup (pv 2) pe_int (fun _ _ => rfl)) pa_nil))) pa_nil))))) (pss_one (ps_ret pe_bl)) pss_nil)
      (pss_cons (ps_if (pt_not (pt_val (pe_call GI hr2 (by rfl) L.is.g L.is.k bI .nil pass0 (pa_cons (pe_op (op_own (op := .Sub) OSub GSub bSub pass0 hr5 iSub1 iSub2) (pv 5) (pv 4)) (pa_cons (pe_call GL hr1 (by rfl) L.low.g L.low.k bL .nil pass0 (pa_cons (pe_op op_sub (pe_ix ix_tup (pv 2) pe_int (fun _ _ => rfl)) (pe_op op_mulW (pv 4) (pe_ix ix_tup (pv 2) pe_int (fun _ _ => rfl)))) (pa_cons (pe_ix ix_tup (pv 2) pe_int (fun _ _ => rfl)) pa_nil))) pa_nil))))) (pss_one (ps_ret pe_bl)) pss_nil)
      (pss_cons (ps_if (pt_not (pt_val (pe_call GI hr2 (by rfl) L.is.g L.is.k bI .nil pass0 (pa_cons (pe_op (op_intown (op := .Sub) OSub int_sub GrSub brSub pass0 hr) (pv 4) (pv 5)) (pa_cons (pe_call GL hr1 (by rfl) L.low.g L.low.k bL .nil pass0 (pa_cons (pe_op op_sub (pe_op op_mulW (pv 4) (pe_ix ix_tup (pv 2) pe_int (fun _ _ => rfl))) (pe_ix ix_tup (pv 2) pe_int (fun _ _ => rfl))) (pa_cons (pe_ix ix_tup (pv 2) pe_int (fun _ _ => rfl)) pa_nil))) pa_nil))))) (pss_one (ps_ret pe_bl)) pss_nil)
      (pss_cons (ps_if (PW.pt (pw_or (pt_not (pt_val (pe_call GI hr2 (by rfl) L.is.g L.is.k bI .nil pass0 (pa_cons (pe_op (op_own (op := .Mult) OMult GMult bMult pass0 hr5 iMult1 iMult2) (pv 5) (pv 4)) (pa_cons (pe_call GL hr1 (by rfl) L.low.g L.low.k bL .nil pass0 (pa_cons (pe_op op_mulW (pe_ix ix_tup (pv 2) pe_int (fun _ _ => rfl)) (pv 4)) (pa_cons (pe_ix ix_tup (pv 2) pe_int (fun _ _ => rfl)) pa_nil))) pa_nil))))) (pw_or1 (pt_not (pt_val (pe_call GI hr2 (by rfl) L.is.g L.is.k bI .nil pass0 (pa_cons (pe_op (op_intown (op := .Mult) OMult int_mul GrMult brMult pass0 hr) (pv 4) (pv 5)) (pa_cons (pe_call GL hr1 (by rfl) L.low.g L.low.k bL .nil pass0 (pa_cons (pe_op op_mulW (pe_ix ix_tup (pv 2) pe_int (fun _ _ => rfl)) (pv 4)) (pa_cons (pe_ix ix_tup (pv 2) pe_int (fun _ _ => rfl)) pa_nil))) pa_nil)))))))) (pss_one (ps_ret pe_bl)) pss_nil)
      (pss_cons (ps_if (PW.pt (pw_or (pt_not (pt_val (pe_call GI hr2 (by rfl) L.is.g L.is.k bI .nil pass0 (pa_cons (pe_un (un_negO aNeg iNeg GNeg bNeg pass0 hr5) (pv 5)) (pa_cons (pe_tup (pa_cons (pe_op op_sub pe_int (pe_ix ix_tup (pv 2) pe_int (fun _ _ => rfl))) (pa_cons (pe_ix ix_tup (pv 2) pe_int (fun _ _ => rfl)) pa_nil))) pa_nil))))) (pw_or1 (pt_not (pt_val (pe_call GI hr2 (by rfl) L.is.g L.is.k bI .nil pass0 (pa_cons (pe_callB (call_absO aAbs iAbs GAbs bAbs hr) (by rfl) mA (by decide +kernel) (pa_cons (pv 5) pa_nil)) (pa_cons (pe_tup (pa_cons (pe_callB call_abs (by rfl) mA (by decide +kernel) (pa_cons (pe_ix ix_tup (pv 2) pe_int (fun _ _ => rfl)) pa_nil)) (pa_cons (pe_ix ix_tup (pv 2) pe_int (fun _ _ => rfl)) pa_nil))) pa_nil)))))))) (pss_one (ps_ret pe_bl)) pss_nil)
      (pss_one (ps_ret (pe_and (pe_call GI hr2 (by rfl) L.is.g L.is.k bI .nil pass0 (pa_cons (pv 5) (pa_cons (pv 2) pa_nil))) (pe_one (pe_call GI hr2 (by rfl) L.is.g L.is.k bI .nil pass0 (pa_cons (pv 6) (pa_cons (pv 3) pa_nil))))))))))))))))))))), ?_⟩
    refine ⟨_, rfl, sa, ns, rfl, hS, fun b Hb Bb _ _ => ?_⟩
    refine ⟨_, rfl, b, rfl, Bb, fun a0 a1 qa Hc a1p a1w a0w ag Bc _ ec neb => ?_⟩
    refine ⟨_, rfl, b, rfl, Bc, fun b0 b1 qb Hd b1p b1w b0w bg Bd kd ed neb2 => ?_⟩
    refine ⟨_, rfl, b, 2001, rfl, by decide, by decide, Bd, fun d Hg da db Bg kg => ⟨d, 1000, rfl, rfl, ?_⟩⟩
    obtain ⟨n, hn⟩ : ∃ n : Int, n = d - 1000 := ⟨_, rfl⟩
    dsimp only
    rw [← hn]
    have nW : n.natAbs < 2 ^ 20 := by omega
    have eag := kg _ _ (kd _ _ ec neb) neb
    have ebg := kg _ _ ed neb2
    refine ⟨_, rfl, qa, _, _, _, rfl, rfl, SqT.of eag, rfl, _, rfl, qa, _, _, _, rfl, rfl, SqT.of eag, rfl, fun x1 dx1 nx ndx ne => rd_make (m := a0) (n := a1) (by omega) (by omega) nx ndx ne rfl fun Hh sh eh => ?_⟩
    rw [(low_one a1p ag).1, (low_one a1p ag).2] at eh
    have eah := sh _ _ eag
    have ebh := sh _ _ ebg
    refine ⟨_, rfl, qb, _, _, _, rfl, rfl, SqT.of ebh, rfl, _, rfl, qb, _, _, _, rfl, rfl, SqT.of ebh, rfl, fun x2 dx2 nx ndx ne => rd_make (m := b0) (n := b1) (by omega) (by omega) nx ndx ne rfl fun H0 s0 er0 => ?_⟩
    rw [(low_one b1p bg).1, (low_one b1p bg).2] at er0
    have ea0 := s0 _ _ eah
    have eb0 := s0 _ _ ebh
    have el0 := s0 _ _ eh
    have nzB : a1 * b1 ≠ 0 := Int.mul_ne_zero (by omega) (by omega)
    have wB : (a1 * b1).natAbs < 2 ^ 200 := by
      rw [Int.natAbs_mul]
      have h1 : a1.natAbs ≤ 10 ^ 30 := by omega
      have h2 : b1.natAbs ≤ 10 ^ 30 := by omega
      have := Nat.mul_le_mul h1 h2
      omega
    refine ⟨_, rfl, _, rfl, x1, dx1, _, rfl, el0, .inr ⟨x2, dx2, _, rfl, er0⟩, x1, dx1, .ref x2, a0, a1, b0, b1, rfl, el0, .inr ⟨x2, dx2, rfl, er0⟩, a1p, b1p, by omega, by omega, by omega, by omega, fun z1 H1 s1 r1 => ?_⟩
    obtain ⟨dy1, f1⟩ := r1
    have ea1 := s1 _ _ ea0
    have eb1 := s1 _ _ eb0
    have el1 := s1 _ _ el0
    have er1 := s1 _ _ er0
    rw [show gAdd a0 a1 b0 b1 = a0 * b1 + b0 * a1 from rfl] at f1
    refine ⟨_, rfl, qa, _, _, _, rfl, rfl, SqT.of ea1, rfl, _, rfl, qb, _, _, _, rfl, rfl, SqT.of eb1, rfl, a0, b1, rfl, rfl, wide_n (by omega) (by omega), _, rfl, qb, _, _, _, rfl, rfl, SqT.of eb1, rfl, _, rfl, qa, _, _, _, rfl, rfl, SqT.of ea1, rfl, b0, a1, rfl, rfl, wide_n (by omega) (by omega), _, _, rfl, rfl, _, rfl, qa, _, _, _, rfl, rfl, SqT.of ea1, rfl, _, rfl, qb, _, _, _, rfl, rfl, SqT.of eb1, rfl, a1, b1, rfl, rfl, wide_n (by omega) (by omega), a0 * b1 + b0 * a1, a1 * b1, rfl, nzB, wB, fun q nq => ?_⟩
    have s2 := same_upd (o := .tup [.int ((a0 * b1 + b0 * a1).fdiv (cmn (a0 * b1 + b0 * a1) (a1 * b1))), .int ((a1 * b1).fdiv (cmn (a0 * b1 + b0 * a1) (a1 * b1)))]) nq
    have ea2 := s2 _ _ ea1
    have eb2 := s2 _ _ eb1
    have el2 := s2 _ _ el1
    have er2 := s2 _ _ er1
    refine ⟨z1, q, dy1, _, _, _, _, rfl, s2 _ _ f1, upd_same, ?_⟩
    rw [decide_eq_true rfl, decide_eq_true rfl]
    refine ⟨_, rfl, iteF ?_⟩
    refine ⟨_, rfl, _, rfl, x1, dx1, _, rfl, el2, .inr ⟨x2, dx2, _, rfl, er2⟩, x1, dx1, .ref x2, a0, a1, b0, b1, rfl, el2, .inr ⟨x2, dx2, rfl, er2⟩, a1p, b1p, by omega, by omega, by omega, by omega, fun z3 H3 s3 r3 => ?_⟩
    obtain ⟨dy3, f3⟩ := r3
    have ea3 := s3 _ _ ea2
    have eb3 := s3 _ _ eb2
    have el3 := s3 _ _ el2
    have er3 := s3 _ _ er2
    rw [show gSub a0 a1 b0 b1 = a0 * b1 - b0 * a1 from rfl] at f3
    refine ⟨_, rfl, qa, _, _, _, rfl, rfl, SqT.of ea3, rfl, _, rfl, qb, _, _, _, rfl, rfl, SqT.of eb3, rfl, a0, b1, rfl, rfl, wide_n (by omega) (by omega), _, rfl, qb, _, _, _, rfl, rfl, SqT.of eb3, rfl, _, rfl, qa, _, _, _, rfl, rfl, SqT.of ea3, rfl, b0, a1, rfl, rfl, wide_n (by omega) (by omega), _, _, rfl, rfl, _, rfl, qa, _, _, _, rfl, rfl, SqT.of ea3, rfl, _, rfl, qb, _, _, _, rfl, rfl, SqT.of eb3, rfl, a1, b1, rfl, rfl, wide_n (by omega) (by omega), a0 * b1 - b0 * a1, a1 * b1, rfl, nzB, wB, fun q nq => ?_⟩
    have s4 := same_upd (o := .tup [.int ((a0 * b1 - b0 * a1).fdiv (cmn (a0 * b1 - b0 * a1) (a1 * b1))), .int ((a1 * b1).fdiv (cmn (a0 * b1 - b0 * a1) (a1 * b1)))]) nq
    have ea4 := s4 _ _ ea3
    have eb4 := s4 _ _ eb3
    have el4 := s4 _ _ el3
    have er4 := s4 _ _ er3
    refine ⟨z3, q, dy3, _, _, _, _, rfl, s4 _ _ f3, upd_same, ?_⟩
    rw [decide_eq_true rfl, decide_eq_true rfl]
    refine ⟨_, rfl, iteF ?_⟩
    refine ⟨_, rfl, _, rfl, x1, dx1, _, rfl, el4, .inr ⟨x2, dx2, _, rfl, er4⟩, x1, dx1, .ref x2, a0, a1, b0, b1, rfl, el4, .inr ⟨x2, dx2, rfl, er4⟩, a1p, b1p, by omega, by omega, by omega, by omega, fun z5 H5 s5 r5 => ?_⟩
    obtain ⟨dy5, f5⟩ := r5
    have ea5 := s5 _ _ ea4
    have eb5 := s5 _ _ eb4
    have el5 := s5 _ _ el4
    have er5 := s5 _ _ er4
    rw [show gMul a0 a1 b0 b1 = a0 * b0 from rfl] at f5
    refine ⟨_, rfl, qa, _, _, _, rfl, rfl, SqT.of ea5, rfl, _, rfl, qb, _, _, _, rfl, rfl, SqT.of eb5, rfl, a0, b0, rfl, rfl, wide_n (by omega) (by omega), _, rfl, qa, _, _, _, rfl, rfl, SqT.of ea5, rfl, _, rfl, qb, _, _, _, rfl, rfl, SqT.of eb5, rfl, a1, b1, rfl, rfl, wide_n (by omega) (by omega), a0 * b0, a1 * b1, rfl, nzB, wB, fun q nq => ?_⟩
    have s6 := same_upd (o := .tup [.int ((a0 * b0).fdiv (cmn (a0 * b0) (a1 * b1))), .int ((a1 * b1).fdiv (cmn (a0 * b0) (a1 * b1)))]) nq
    have ea6 := s6 _ _ ea5
    have eb6 := s6 _ _ eb5
    have el6 := s6 _ _ el5
    have er6 := s6 _ _ er5
    refine ⟨z5, q, dy5, _, _, _, _, rfl, s6 _ _ f5, upd_same, ?_⟩
    rw [decide_eq_true rfl, decide_eq_true rfl]
    refine ⟨_, rfl, iteF ?_⟩
    refine ⟨_, rfl, _, rfl, x1, dx1, _, rfl, el6, .inl ⟨n, rfl⟩, x1, dx1, .int n, a0, a1, n, 1, rfl, el6, .inl ⟨rfl, rfl⟩, a1p, by decide, by omega, by omega, by omega, by decide, fun z7 H7 s7 r7 => ?_⟩
    obtain ⟨dy7, f7⟩ := r7
    have ea7 := s7 _ _ ea6
    have eb7 := s7 _ _ eb6
    have el7 := s7 _ _ el6
    have er7 := s7 _ _ er6
    rw [show gAdd a0 a1 n 1 = a0 + n * a1 from by unfold gAdd; rw [Int.mul_one], Int.mul_one] at f7
    refine ⟨_, rfl, qa, _, _, _, rfl, rfl, SqT.of ea7, rfl, _, rfl, _, rfl, qa, _, _, _, rfl, rfl, SqT.of ea7, rfl, n, a1, rfl, rfl, wide_n (by omega) (by omega), _, _, rfl, rfl, _, rfl, qa, _, _, _, rfl, rfl, SqT.of ea7, rfl, a0 + n * a1, a1, rfl, (by omega), (by omega), fun q nq => ?_⟩
    have s8 := same_upd (o := .tup [.int ((a0 + n * a1).fdiv (cmn (a0 + n * a1) (a1))), .int ((a1).fdiv (cmn (a0 + n * a1) (a1)))]) nq
    have ea8 := s8 _ _ ea7
    have eb8 := s8 _ _ eb7
    have el8 := s8 _ _ el7
    have er8 := s8 _ _ er7
    refine ⟨z7, q, dy7, _, _, _, _, rfl, s8 _ _ f7, upd_same, ?_⟩
    rw [decide_eq_true rfl, decide_eq_true rfl]
    refine ⟨_, rfl, iteF ?_⟩
    refine ⟨_, rfl, _, rfl, n, x1, dx1, _, rfl, rfl, el8, x1, dx1, .int n, a0, a1, n, 1, rfl, el8, .inl ⟨rfl, rfl⟩, a1p, by decide, by omega, by omega, by omega, by decide, fun z9 H9 s9 r9 => ?_⟩
    obtain ⟨dy9, f9⟩ := r9
    have ea9 := s9 _ _ ea8
    have eb9 := s9 _ _ eb8
    have el9 := s9 _ _ el8
    have er9 := s9 _ _ er8
    rw [show gAdd a0 a1 n 1 = a0 + n * a1 from by unfold gAdd; rw [Int.mul_one], Int.mul_one] at f9
    refine ⟨_, rfl, qa, _, _, _, rfl, rfl, SqT.of ea9, rfl, _, rfl, _, rfl, qa, _, _, _, rfl, rfl, SqT.of ea9, rfl, n, a1, rfl, rfl, wide_n (by omega) (by omega), _, _, rfl, rfl, _, rfl, qa, _, _, _, rfl, rfl, SqT.of ea9, rfl, a0 + n * a1, a1, rfl, (by omega), (by omega), fun q nq => ?_⟩
    have s10 := same_upd (o := .tup [.int ((a0 + n * a1).fdiv (cmn (a0 + n * a1) (a1))), .int ((a1).fdiv (cmn (a0 + n * a1) (a1)))]) nq
    have ea10 := s10 _ _ ea9
    have eb10 := s10 _ _ eb9
    have el10 := s10 _ _ el9
    have er10 := s10 _ _ er9
    refine ⟨z9, q, dy9, _, _, _, _, rfl, s10 _ _ f9, upd_same, ?_⟩
    rw [decide_eq_true rfl, decide_eq_true rfl]
    refine ⟨_, rfl, iteF ?_⟩
    refine ⟨_, rfl, _, rfl, x1, dx1, _, rfl, el10, .inl ⟨n, rfl⟩, x1, dx1, .int n, a0, a1, n, 1, rfl, el10, .inl ⟨rfl, rfl⟩, a1p, by decide, by omega, by omega, by omega, by decide, fun z11 H11 s11 r11 => ?_⟩
    obtain ⟨dy11, f11⟩ := r11
    have ea11 := s11 _ _ ea10
    have eb11 := s11 _ _ eb10
    have el11 := s11 _ _ el10
    have er11 := s11 _ _ er10
    rw [show gSub a0 a1 n 1 = a0 - n * a1 from by unfold gSub; rw [Int.mul_one], Int.mul_one] at f11
    refine ⟨_, rfl, qa, _, _, _, rfl, rfl, SqT.of ea11, rfl, _, rfl, _, rfl, qa, _, _, _, rfl, rfl, SqT.of ea11, rfl, n, a1, rfl, rfl, wide_n (by omega) (by omega), _, _, rfl, rfl, _, rfl, qa, _, _, _, rfl, rfl, SqT.of ea11, rfl, a0 - n * a1, a1, rfl, (by omega), (by omega), fun q nq => ?_⟩
    have s12 := same_upd (o := .tup [.int ((a0 - n * a1).fdiv (cmn (a0 - n * a1) (a1))), .int ((a1).fdiv (cmn (a0 - n * a1) (a1)))]) nq
    have ea12 := s12 _ _ ea11
    have eb12 := s12 _ _ eb11
    have el12 := s12 _ _ el11
    have er12 := s12 _ _ er11
    refine ⟨z11, q, dy11, _, _, _, _, rfl, s12 _ _ f11, upd_same, ?_⟩
    rw [decide_eq_true rfl, decide_eq_true rfl]
    refine ⟨_, rfl, iteF ?_⟩
    refine ⟨_, rfl, _, rfl, n, x1, dx1, _, rfl, rfl, el12, x1, dx1, .int n, a0, a1, n, 1, rfl, el12, .inl ⟨rfl, rfl⟩, a1p, by decide, by omega, by omega, by omega, by decide, ag, fun z13 H13 s13 r13 => ?_⟩
    obtain ⟨dy13, f13⟩ := r13
    have ea13 := s13 _ _ ea12
    have eb13 := s13 _ _ eb12
    have el13 := s13 _ _ el12
    have er13 := s13 _ _ er12
    rw [show gAdd (-a0) a1 n 1 = n * a1 - a0 from by unfold gAdd; rw [Int.mul_one]; omega, Int.mul_one] at f13
    refine ⟨_, rfl, _, rfl, qa, _, _, _, rfl, rfl, SqT.of ea13, rfl, n, a1, rfl, rfl, wide_n (by omega) (by omega), _, rfl, qa, _, _, _, rfl, rfl, SqT.of ea13, rfl, _, _, rfl, rfl, _, rfl, qa, _, _, _, rfl, rfl, SqT.of ea13, rfl, n * a1 - a0, a1, rfl, (by omega), (by omega), fun q nq => ?_⟩
    have s14 := same_upd (o := .tup [.int ((n * a1 - a0).fdiv (cmn (n * a1 - a0) (a1))), .int ((a1).fdiv (cmn (n * a1 - a0) (a1)))]) nq
    have ea14 := s14 _ _ ea13
    have eb14 := s14 _ _ eb13
    have el14 := s14 _ _ el13
    have er14 := s14 _ _ er13
    refine ⟨z13, q, dy13, _, _, _, _, rfl, s14 _ _ f13, upd_same, ?_⟩
    rw [decide_eq_true rfl, decide_eq_true rfl]
    refine ⟨_, rfl, iteF ?_⟩
    refine ⟨_, rfl, _, rfl, x1, dx1, _, rfl, el14, .inl ⟨n, rfl⟩, x1, dx1, .int n, a0, a1, n, 1, rfl, el14, .inl ⟨rfl, rfl⟩, a1p, by decide, by omega, by omega, by omega, by decide, fun z15 H15 s15 r15 => ?_⟩
    obtain ⟨dy15, f15⟩ := r15
    have ea15 := s15 _ _ ea14
    have eb15 := s15 _ _ eb14
    have el15 := s15 _ _ el14
    have er15 := s15 _ _ er14
    rw [show gMul a0 a1 n 1 = a0 * n from rfl, Int.mul_one] at f15
    refine ⟨_, rfl, qa, _, _, _, rfl, rfl, SqT.of ea15, rfl, _, rfl, a0, n, rfl, rfl, wide_n (by omega) (by omega), _, rfl, qa, _, _, _, rfl, rfl, SqT.of ea15, rfl, a0 * n, a1, rfl, (by omega), (by omega), fun q nq => ?_⟩
    have s16 := same_upd (o := .tup [.int ((a0 * n).fdiv (cmn (a0 * n) (a1))), .int ((a1).fdiv (cmn (a0 * n) (a1)))]) nq
    have ea16 := s16 _ _ ea15
    have eb16 := s16 _ _ eb15
    have el16 := s16 _ _ el15
    have er16 := s16 _ _ er15
    refine ⟨z15, q, dy15, _, _, _, _, rfl, s16 _ _ f15, upd_same, ?_⟩
    rw [decide_eq_true rfl, decide_eq_true rfl]
    refine ⟨_, rfl, iteF ?_⟩
    refine ⟨_, rfl, _, rfl, n, x1, dx1, _, rfl, rfl, el16, x1, dx1, .int n, a0, a1, n, 1, rfl, el16, .inl ⟨rfl, rfl⟩, a1p, by decide, by omega, by omega, by omega, by decide, fun z17 H17 s17 r17 => ?_⟩
    obtain ⟨dy17, f17⟩ := r17
    have ea17 := s17 _ _ ea16
    have eb17 := s17 _ _ eb16
    have el17 := s17 _ _ el16
    have er17 := s17 _ _ er16
    rw [show gMul a0 a1 n 1 = a0 * n from rfl, Int.mul_one] at f17
    refine ⟨_, rfl, qa, _, _, _, rfl, rfl, SqT.of ea17, rfl, _, rfl, a0, n, rfl, rfl, wide_n (by omega) (by omega), _, rfl, qa, _, _, _, rfl, rfl, SqT.of ea17, rfl, a0 * n, a1, rfl, (by omega), (by omega), fun q nq => ?_⟩
    have s18 := same_upd (o := .tup [.int ((a0 * n).fdiv (cmn (a0 * n) (a1))), .int ((a1).fdiv (cmn (a0 * n) (a1)))]) nq
    have ea18 := s18 _ _ ea17
    have eb18 := s18 _ _ eb17
    have el18 := s18 _ _ el17
    have er18 := s18 _ _ er17
    refine ⟨z17, q, dy17, _, _, _, _, rfl, s18 _ _ f17, upd_same, ?_⟩
    rw [decide_eq_true rfl, decide_eq_true rfl]
    refine ⟨_, rfl, iteF ?_⟩
    refine ⟨_, rfl, x1, dx1, _, rfl, el18, x1, dx1, a0, a1, rfl, el18, a1p, by omega, by omega, fun z19 H19 s19 r19 => ?_⟩
    obtain ⟨dy19, f19⟩ := r19
    have ea19 := s19 _ _ ea18
    have eb19 := s19 _ _ eb18
    have el19 := s19 _ _ el18
    have er19 := s19 _ _ er18
    rw [(neg_low a1p ag).1, (neg_low a1p ag).2, ← Int.zero_sub] at f19
    refine ⟨_, rfl, qa, _, _, _, rfl, rfl, SqT.of ea19, rfl, 0, a0, rfl, rfl, _, rfl, qa, _, _, _, rfl, rfl, SqT.of ea19, rfl, by show 2 ≤ sizeLine; decide, fun q nq => ?_⟩
    have s20 := same_upd (o := .tup [.int (0 - a0), .int a1]) nq
    have ea20 := s20 _ _ ea19
    have eb20 := s20 _ _ eb19
    have el20 := s20 _ _ el19
    have er20 := s20 _ _ er19
    refine ⟨z19, q, dy19, _, _, _, _, rfl, s20 _ _ f19, upd_same, ?_⟩
    rw [decide_eq_true rfl, decide_eq_true rfl]
    refine ⟨_, rfl, iteF ?_⟩
    refine ⟨_, rfl, x1, dx1, _, rfl, el20, x1, dx1, a0, a1, rfl, el20, a1p, by omega, by omega, fun z21 H21 s21 r21 => ?_⟩
    obtain ⟨dy21, f21⟩ := r21
    have ea21 := s21 _ _ ea20
    have eb21 := s21 _ _ eb20
    have el21 := s21 _ _ el20
    have er21 := s21 _ _ er20
    rw [(abs_low a1p ag).1, (abs_low a1p ag).2, show gAbs a0 = (if a0 < 0 then -a0 else a0) from rfl] at f21
    refine ⟨_, rfl, qa, _, _, _, rfl, rfl, SqT.of ea21, rfl, a0, rfl, _, rfl, qa, _, _, _, rfl, rfl, SqT.of ea21, rfl, by show 2 ≤ sizeLine; decide, fun q nq => ?_⟩
    have s22 := same_upd (o := .tup [.int (if a0 < 0 then -a0 else a0), .int a1]) nq
    have ea22 := s22 _ _ ea21
    have eb22 := s22 _ _ eb21
    have el22 := s22 _ _ el21
    have er22 := s22 _ _ er21
    refine ⟨z21, q, dy21, _, _, _, _, rfl, s22 _ _ f21, upd_same, ?_⟩
    rw [decide_eq_true rfl, decide_eq_true rfl]
    refine ⟨_, rfl, iteF ?_⟩
    refine ⟨_, rfl, _, rfl, x1, qa, dx1, _, _, _, _, rfl, el22, ea22, ?_⟩
    rw [decide_eq_true rfl, decide_eq_true rfl]
    refine ⟨_, rfl, iteT ?_⟩
    refine ⟨_, rfl, _, rfl, x2, qb, dx2, _, _, _, _, rfl, er22, eb22, ?_⟩
    rw [decide_eq_true rfl, decide_eq_true rfl]
    exact k _
end
/-! ### what the top has written, and the end -/
theorem all_mk {l : PySem.W.OpenLaw} {w : World} {K : PySem.W.Frag} {h : Heap} {mg : Str → Option Value} {fa : Addr} {fW fK fM fE fQ fAd fRa fSu fRs fMu fRm fNe fAb fB fT fN fI fL fF fZ C CI CF : Addr} (X : K.In h) (G : h.Ns mainGlobals mg) (hfa : mg "law" = some (.ref fa))
    {odW anW odK anK odM anM odE anE odQ anQ odAd anAd odRa anRa odSu anSu odRs anRs odMu anMu odRm anRm odNe anNe odAb anAb odB anB odT anT odN anN odI anI odL anL odF anF odZ anZ : Option Addr} {slW slK slM slE slQ slAd slRa slSu slRs slMu slRm slNe slAb slB slT slN slI slL slF slZ : Array (Option Value)} {ocW kVW dcW pmW cdW ctW ocK kVK dcK pmK cdK ctK ocM kVM dcM pmM cdM ctM ocE kVE dcE pmE cdE ctE ocQ kVQ dcQ pmQ cdQ ctQ ocAd kVAd dcAd pmAd cdAd ctAd ocRa kVRa dcRa pmRa cdRa ctRa ocSu kVSu dcSu pmSu cdSu ctSu ocRs kVRs dcRs pmRs cdRs ctRs ocMu kVMu dcMu pmMu cdMu ctMu ocRm kVRm dcRm pmRm cdRm ctRm ocNe kVNe dcNe pmNe cdNe ctNe ocAb kVAb dcAb pmAb cdAb ctAb ocB kVB dcB pmB cdB ctB ocT kVT dcT pmT cdT ctT ocN kVN dcN pmN cdN ctN ocI kVI dcI pmI cdI ctI ocL kVL dcL pmL cdL ctL ocF kVF dcF pmF cdF ctF ocZ kVZ dcZ pmZ cdZ ctZ : Value} {DQ : Addr} {dclQ : Value} {dddQ : Option Addr} {dnnQ : Nat} {dslQ : Array (Option Value)} {tQ : Tok} {xnm xq : Str} {xN : Addr} {xbs : List Value} {xsn : List Str} {xsub : List Value} {xab : Bool} {xcol : Option Bool} {xdd : Option Addr} {xm0 xm1 xm2 xm3 xm5 : Option Value} {fo1 ro1 fo2 ro2 fo3 ro3 : Option Value}
    (aCI : PySem.W.nsIn K mainGlobals "InvalidNumber" = some (some (.ref CI)))
    (aCF : PySem.W.nsIn K mainGlobals "FontError" = some (some (.ref CF)))
    (aC : PySem.W.nsIn K mainGlobals "Ratio" = some (some (.ref C)))
    (aW : PySem.W.nsIn K mainGlobals "is_whole" = some (some (.ref fW)))
    (lW : K.lookup fW = some ⟨ocW, odW, .func (PySem.W.fnOf "is_whole" "is_whole" (defArgs sWhole) (defBody sWhole) (defScope sWhole) .none kVW dcW pmW anW cdW ctW), slW⟩)
    (cW : PySem.W.codeIn K cdW "is_whole" = true)
    (kW : PySem.W.keepIn K (.ref fW) = true)
    (aK : PySem.W.nsIn K mainGlobals "is_term" = some (some (.ref fK)))
    (lK : K.lookup fK = some ⟨ocK, odK, .func (PySem.W.fnOf "is_term" "is_term" (defArgs sTerm) (defBody sTerm) (defScope sTerm) .none kVK dcK pmK anK cdK ctK), slK⟩)
    (cK : PySem.W.codeIn K cdK "is_term" = true)
    (kK : PySem.W.keepIn K (.ref fK) = true)
    (aM : PySem.W.nsIn K mainGlobals "terms" = some (some (.ref fM)))
    (lM : K.lookup fM = some ⟨ocM, odM, .func (PySem.W.fnOf "terms" "terms" (defArgs sTerms) (defBody sTerms) (defScope sTerms) .none kVM dcM pmM anM cdM ctM), slM⟩)
    (cM : PySem.W.codeIn K cdM "terms" = true)
    (kM : PySem.W.keepIn K (.ref fM) = true)
    (aE : PySem.W.findIn K (.ref CI) "__init__" = some (some (.ref fE)))
    (tE : PySem.W.typeIn K (.ref fE) = some (.type "function"))
    (lE : K.lookup fE = some ⟨ocE, odE, .func (PySem.W.fnOf "__init__" "InvalidNumber.__init__" (defArgs sEI) (defBody sEI) (defScope sEI) .none kVE dcE pmE anE cdE ctE), slE⟩)
    (cE : PySem.W.codeIn K cdE "InvalidNumber.__init__" = true)
    (kE : PySem.W.keepIn K (.ref fE) = true)
    (aQ : PySem.W.findIn K (.ref C) "__init__" = some (some (.ref fQ)))
    (iQ : PySem.W.isFn K (.ref fQ) = true)
    (lQ : K.lookup fQ = some ⟨ocQ, odQ, .func (PySem.W.fnOf "__init__" "Ratio.__init__" (defArgs sInit) (defBody sInit) (defScope sInit) (.ref DQ) kVQ dcQ pmQ anQ cdQ ctQ), slQ⟩)
    (cQ : PySem.W.codeIn K cdQ "Ratio.__init__" = true)
    (kQ : PySem.W.keepIn K (.ref fQ) = true)
    (dQ : K.lookup DQ = some ⟨dclQ, dddQ, .seq #[.int 1 tQ] dnnQ, dslQ⟩)
    (aAd : PySem.W.findIn K (.ref C) "__add__" = some (some (.ref fAd)))
    (iAd : PySem.W.isFn K (.ref fAd) = true)
    (lAd : K.lookup fAd = some ⟨ocAd, odAd, .func (PySem.W.fnOf "__add__" "Ratio.__add__" (defArgs sAdd) (defBody sAdd) (defScope sAdd) .none kVAd dcAd pmAd anAd cdAd ctAd), slAd⟩)
    (cAd : PySem.W.codeIn K cdAd "Ratio.__add__" = true)
    (kAd : PySem.W.keepIn K (.ref fAd) = true)
    (aRa : PySem.W.findIn K (.ref C) "__radd__" = some (some (.ref fRa)))
    (iRa : PySem.W.isFn K (.ref fRa) = true)
    (lRa : K.lookup fRa = some ⟨ocRa, odRa, .func (PySem.W.fnOf "__radd__" "Ratio.__radd__" (defArgs sRadd) (defBody sRadd) (defScope sRadd) .none kVRa dcRa pmRa anRa cdRa ctRa), slRa⟩)
    (cRa : PySem.W.codeIn K cdRa "Ratio.__radd__" = true)
    (kRa : PySem.W.keepIn K (.ref fRa) = true)
    (aSu : PySem.W.findIn K (.ref C) "__sub__" = some (some (.ref fSu)))
    (iSu : PySem.W.isFn K (.ref fSu) = true)
    (lSu : K.lookup fSu = some ⟨ocSu, odSu, .func (PySem.W.fnOf "__sub__" "Ratio.__sub__" (defArgs sSub) (defBody sSub) (defScope sSub) .none kVSu dcSu pmSu anSu cdSu ctSu), slSu⟩)
    (cSu : PySem.W.codeIn K cdSu "Ratio.__sub__" = true)
    (kSu : PySem.W.keepIn K (.ref fSu) = true)
    (aRs : PySem.W.findIn K (.ref C) "__rsub__" = some (some (.ref fRs)))
    (iRs : PySem.W.isFn K (.ref fRs) = true)
    (lRs : K.lookup fRs = some ⟨ocRs, odRs, .func (PySem.W.fnOf "__rsub__" "Ratio.__rsub__" (defArgs sRsub) (defBody sRsub) (defScope sRsub) .none kVRs dcRs pmRs anRs cdRs ctRs), slRs⟩)
    (cRs : PySem.W.codeIn K cdRs "Ratio.__rsub__" = true)
    (kRs : PySem.W.keepIn K (.ref fRs) = true)
    (aMu : PySem.W.findIn K (.ref C) "__mul__" = some (some (.ref fMu)))
    (iMu : PySem.W.isFn K (.ref fMu) = true)
    (lMu : K.lookup fMu = some ⟨ocMu, odMu, .func (PySem.W.fnOf "__mul__" "Ratio.__mul__" (defArgs sMul) (defBody sMul) (defScope sMul) .none kVMu dcMu pmMu anMu cdMu ctMu), slMu⟩)
    (cMu : PySem.W.codeIn K cdMu "Ratio.__mul__" = true)
    (kMu : PySem.W.keepIn K (.ref fMu) = true)
    (aRm : PySem.W.findIn K (.ref C) "__rmul__" = some (some (.ref fRm)))
    (iRm : PySem.W.isFn K (.ref fRm) = true)
    (lRm : K.lookup fRm = some ⟨ocRm, odRm, .func (PySem.W.fnOf "__rmul__" "Ratio.__rmul__" (defArgs sRmul) (defBody sRmul) (defScope sRmul) .none kVRm dcRm pmRm anRm cdRm ctRm), slRm⟩)
    (cRm : PySem.W.codeIn K cdRm "Ratio.__rmul__" = true)
    (kRm : PySem.W.keepIn K (.ref fRm) = true)
    (aNe : PySem.W.findIn K (.ref C) "__neg__" = some (some (.ref fNe)))
    (iNe : PySem.W.isFn K (.ref fNe) = true)
    (lNe : K.lookup fNe = some ⟨ocNe, odNe, .func (PySem.W.fnOf "__neg__" "Ratio.__neg__" (defArgs sNeg) (defBody sNeg) (defScope sNeg) .none kVNe dcNe pmNe anNe cdNe ctNe), slNe⟩)
    (cNe : PySem.W.codeIn K cdNe "Ratio.__neg__" = true)
    (kNe : PySem.W.keepIn K (.ref fNe) = true)
    (aAb : PySem.W.findIn K (.ref C) "__abs__" = some (some (.ref fAb)))
    (iAb : PySem.W.isFn K (.ref fAb) = true)
    (lAb : K.lookup fAb = some ⟨ocAb, odAb, .func (PySem.W.fnOf "__abs__" "Ratio.__abs__" (defArgs sAbs) (defBody sAbs) (defScope sAbs) .none kVAb dcAb pmAb anAb cdAb ctAb), slAb⟩)
    (cAb : PySem.W.codeIn K cdAb "Ratio.__abs__" = true)
    (kAb : PySem.W.keepIn K (.ref fAb) = true)
    (aB : PySem.W.nsIn K mainGlobals "_law_bag" = some (some (.ref fB)))
    (lB : K.lookup fB = some ⟨ocB, odB, .func (PySem.W.fnOf "_law_bag" "_law_bag" (defArgs sBag) (defBody sBag) (defScope sBag) .none kVB dcB pmB anB cdB ctB), slB⟩)
    (cB : PySem.W.codeIn K cdB "_law_bag" = true)
    (kB : PySem.W.keepIn K (.ref fB) = true)
    (aT : PySem.W.nsIn K mainGlobals "_law_take" = some (some (.ref fT)))
    (lT : K.lookup fT = some ⟨ocT, odT, .func (PySem.W.fnOf "_law_take" "_law_take" (defArgs sTake) (defBody sTake) (defScope sTake) .none kVT dcT pmT anT cdT ctT), slT⟩)
    (cT : PySem.W.codeIn K cdT "_law_take" = true)
    (kT : PySem.W.keepIn K (.ref fT) = true)
    (aN : PySem.W.nsIn K mainGlobals "_law_int" = some (some (.ref fN)))
    (lN : K.lookup fN = some ⟨ocN, odN, .func (PySem.W.fnOf "_law_int" "_law_int" (defArgs sInt) (defBody sInt) (defScope sInt) .none kVN dcN pmN anN cdN ctN), slN⟩)
    (cN : PySem.W.codeIn K cdN "_law_int" = true)
    (kN : PySem.W.keepIn K (.ref fN) = true)
    (aI : PySem.W.nsIn K mainGlobals "_law_is" = some (some (.ref fI)))
    (lI : K.lookup fI = some ⟨ocI, odI, .func (PySem.W.fnOf "_law_is" "_law_is" (defArgs sIs) (defBody sIs) (defScope sIs) .none kVI dcI pmI anI cdI ctI), slI⟩)
    (cI : PySem.W.codeIn K cdI "_law_is" = true)
    (kI : PySem.W.keepIn K (.ref fI) = true)
    (aL : PySem.W.nsIn K mainGlobals "_law_lowest" = some (some (.ref fL)))
    (lL : K.lookup fL = some ⟨ocL, odL, .func (PySem.W.fnOf "_law_lowest" "_law_lowest" (defArgs sLowest) (defBody sLowest) (defScope sLowest) .none kVL dcL pmL anL cdL ctL), slL⟩)
    (cL : PySem.W.codeIn K cdL "_law_lowest" = true)
    (kL : PySem.W.keepIn K (.ref fL) = true)
    (aF : PySem.W.nsIn K mainGlobals "_law_fraction" = some (some (.ref fF)))
    (lF : K.lookup fF = some ⟨ocF, odF, .func (PySem.W.fnOf "_law_fraction" "_law_fraction" (defArgs sFrac) (defBody sFrac) (defScope sFrac) .none kVF dcF pmF anF cdF ctF), slF⟩)
    (cF : PySem.W.codeIn K cdF "_law_fraction" = true)
    (kF : PySem.W.keepIn K (.ref fF) = true)
    (aZ : PySem.W.nsIn K mainGlobals "law" = some (some (.ref fZ)))
    (lZ : K.lookup fZ = some ⟨ocZ, odZ, .func (PySem.W.fnOf "law" "law" (defArgs sLaw) (defBody sLaw) (defScope sLaw) .none kVZ dcZ pmZ anZ cdZ ctZ), slZ⟩)
    (cZ : PySem.W.codeIn K cdZ "law" = true)
    (kZ : PySem.W.keepIn K (.ref fZ) = true)
    (xCI : K.lookup CI = some (excClassObj xnm xq CI xN xbs [.ref CF, .type "ValueError", .type "Exception", .type "BaseException", .type "object"] true xsn xsub xab xcol xdd xm0 xm1 xm2 xm3 xm5 "ValueError.__new__"))
    (saI : PySem.W.findIn K (.ref CI) "__setattr__" = some (some (.builtin "object.__setattr__")))
    (exI : PySem.W.subIn K (.ref CI) (.type "BaseException") = some true)
    (tyI : PySem.W.typeIn K (.ref CI) = some (.type "type"))
    (kpI : PySem.W.keepIn K (.ref CI) = true)
    (noI : PySem.W.findIn K (.ref CI) "value" = some none)
    (pg : PySem.W.plainGet K C Str.empty = true)
    (hd : PySem.W.hasDictIn K C = true)
    (po : PySem.W.plainOver K C = true)
    (sa : PySem.W.findIn K (.ref C) "__setattr__" = some (some (.builtin "object.__setattr__")))
    (mk : PySem.W.makesIn K C = true)
    (kc : PySem.W.keepIn K (.ref C) = true)
    (nT : PySem.W.findIn K (.ref C) "top" = some none)
    (nB : PySem.W.findIn K (.ref C) "bottom" = some none)
    (icA : PySem.W.findIn K (.ref C) "__class__" = some (some (.builtin "object.__class__")))
    (icN : PySem.W.specialIn K (.builtin "object.__class__") "__get__" = some (some (.builtin "getset_descriptor.__get__")))
    (icT : PySem.W.takesIn K (.builtin "object.__class__") = some true)
    (icM : PySem.W.mroIn K C (.type "object") = some true)
    (icE : PySem.W.kitOne K (.ref C) (.ref C) = some true)
    (gG : PySem.W.nsIn K mainGlobals "gcd" = some (some (.builtin "math.gcd")))
    (kII : PySem.W.kitOne K (.type "int") (.ref C) = some false)
    (sII : PySem.W.subIn K (.type "int") (.ref C) = some false)
    (sCI : PySem.W.subIn K (.ref C) (.type "int") = some false)
    (sfC : PySem.W.selfFirst K C = true)
    (oA1 : PySem.W.findIn K (.type "int") (PySem.dunder "add") = some fo1)
    (oA2 : PySem.W.findIn K (.type "int") (PySem.dunderR "add") = some ro1)
    (oS1 : PySem.W.findIn K (.type "int") (PySem.dunder "sub") = some fo2)
    (oS2 : PySem.W.findIn K (.type "int") (PySem.dunderR "sub") = some ro2)
    (oM1 : PySem.W.findIn K (.type "int") (PySem.dunder "mul") = some fo3)
    (oM2 : PySem.W.findIn K (.type "int") (PySem.dunderR "mul") = some ro3)
    (z_isinstance : PySem.W.nsIn K mainGlobals "isinstance" = some none)
    (z_int : PySem.W.nsIn K mainGlobals "int" = some none)
    (z_bool : PySem.W.nsIn K mainGlobals "bool" = some none)
    (z_len : PySem.W.nsIn K mainGlobals "len" = some none)
    (z_list : PySem.W.nsIn K mainGlobals "list" = some none)
    (z_range : PySem.W.nsIn K mainGlobals "range" = some none)
    (z_abs : PySem.W.nsIn K mainGlobals "abs" = some none) :
    ∃ fd : FuncData, (∀ (s : Shared) (v : Value), BindsTo s fd ⟨[v], []⟩ [("_law_script", v)]) ∧ ∀ base : Heap, K.In base → base.Ns mainGlobals mg → FnOk l.prog w K mg base CX0 7 fa fd ["_law_script"] (spLaw K) := by
  have e := hfa.symm.trans (PySem.W.mg_of X G aZ)
  cases e
  have FW := fun_mk (st := sWhole) lW cW kW
  have bW := FW.binds (ps := ["value"]) fun _ _ _ _ _ _ us hl => match us, hl with | [_], _ => rfl
  have FK := fun_mk (st := sTerm) lK cK kK
  have bK := FK.binds (ps := ["value"]) fun _ _ _ _ _ _ us hl => match us, hl with | [_], _ => rfl
  have FM := fun_mk (st := sTerms) lM cM kM
  have bM := FM.binds (ps := ["value"]) fun _ _ _ _ _ _ us hl => match us, hl with | [_], _ => rfl
  have FE := fun_mk (st := sEI) lE cE kE
  have bE := FE.binds (ps := ["self", "value"]) fun _ _ _ _ _ _ us hl => match us, hl with | [_, _], _ => rfl
  have FQ : FunD K "__init__" "Ratio.__init__" (defArgs sInit) (defBody sInit) (defScope sInit) [.int 1] [] fQ _ := ⟨⟨ocQ, odQ, _, kVQ, dcQ, pmQ, anQ, cdQ, ctQ, slQ, rfl, lQ, cQ, .inr ⟨by simp, DQ, _, [.int 1 tQ], dnnQ, rfl, dQ, rfl, .cons ⟨tQ, rfl⟩ .nil⟩, .inl rfl⟩, kQ⟩
  obtain ⟨ds0, v0, bQ⟩ := FQ.binds1 (ps := ["self", "top", "bottom"]) 3 1 (by simp) rfl fun T kV doc pm an cdv ct us its h1 h2 => match us, its, h1, h2 with | [_, _, _], [_], _, _ => ⟨_, rfl, rfl⟩
  obtain ⟨ds, vQ1, bQ1⟩ := FQ.binds1 (ps := ["self", "top", "bottom"]) 2 0 (by simp) rfl fun T kV doc pm an cdv ct us its h1 h2 => match us, its, h1, h2 with | [_, _], [_], _, _ => ⟨_, rfl, rfl⟩
  cases v0
  have FAd := fun_mk (st := sAdd) lAd cAd kAd
  have bAd := FAd.binds (ps := ["self", "other"]) fun _ _ _ _ _ _ us hl => match us, hl with | [_, _], _ => rfl
  have FRa := fun_mk (st := sRadd) lRa cRa kRa
  have bRa := FRa.binds (ps := ["self", "other"]) fun _ _ _ _ _ _ us hl => match us, hl with | [_, _], _ => rfl
  have FSu := fun_mk (st := sSub) lSu cSu kSu
  have bSu := FSu.binds (ps := ["self", "other"]) fun _ _ _ _ _ _ us hl => match us, hl with | [_, _], _ => rfl
  have FRs := fun_mk (st := sRsub) lRs cRs kRs
  have bRs := FRs.binds (ps := ["self", "other"]) fun _ _ _ _ _ _ us hl => match us, hl with | [_, _], _ => rfl
  have FMu := fun_mk (st := sMul) lMu cMu kMu
  have bMu := FMu.binds (ps := ["self", "other"]) fun _ _ _ _ _ _ us hl => match us, hl with | [_, _], _ => rfl
  have FRm := fun_mk (st := sRmul) lRm cRm kRm
  have bRm := FRm.binds (ps := ["self", "other"]) fun _ _ _ _ _ _ us hl => match us, hl with | [_, _], _ => rfl
  have FNe := fun_mk (st := sNeg) lNe cNe kNe
  have bNe := FNe.binds (ps := ["self"]) fun _ _ _ _ _ _ us hl => match us, hl with | [_], _ => rfl
  have FAb := fun_mk (st := sAbs) lAb cAb kAb
  have bAb := FAb.binds (ps := ["self"]) fun _ _ _ _ _ _ us hl => match us, hl with | [_], _ => rfl
  have FB := fun_mk (st := sBag) lB cB kB
  have bB := FB.binds (ps := ["_law_script"]) fun _ _ _ _ _ _ us hl => match us, hl with | [_], _ => rfl
  have FT := fun_mk (st := sTake) lT cT kT
  have bT := FT.binds (ps := ["_law_bag_here", "_law_size"]) fun _ _ _ _ _ _ us hl => match us, hl with | [_, _], _ => rfl
  have FN := fun_mk (st := sInt) lN cN kN
  have bN := FN.binds (ps := ["_law_actual"]) fun _ _ _ _ _ _ us hl => match us, hl with | [_], _ => rfl
  have FI := fun_mk (st := sIs) lI cI kI
  have bI := FI.binds (ps := ["_law_actual", "_law_due"]) fun _ _ _ _ _ _ us hl => match us, hl with | [_, _], _ => rfl
  have FL := fun_mk (st := sLowest) lL cL kL
  have bL := FL.binds (ps := ["_law_top", "_law_bottom"]) fun _ _ _ _ _ _ us hl => match us, hl with | [_, _], _ => rfl
  have FF := fun_mk (st := sFrac) lF cF kF
  have bF := FF.binds (ps := ["_law_bag_here"]) fun _ _ _ _ _ _ us hl => match us, hl with | [_], _ => rfl
  have FZ := fun_mk (st := sLaw) lZ cZ kZ
  have TO : OexC K CI := ⟨⟨xnm, xq, xN, xbs, _, xsn, xsub, xab, xcol, xdd, xm0, xm1, xm2, xm3, xm5, xCI, (by show PySem.HandSPX.refsVE [.type "ValueError", .type "Exception", .type "BaseException", .type "object"] = true; decide +kernel)⟩, saI, exI, tyI, kpI⟩
  have TR : TxR K mg C CI fE fW := ⟨⟨pg, hd, po, sa⟩, nT, nB, PySem.W.mg_of X G aC, ⟨PySem.W.mg_of X G aCI, TO, aE, tE⟩, PySem.W.mg_of X G aW, kW, PySem.W.mg_of X G gG⟩
  have IC : C8.InsC K C := ⟨⟨pg, hd, po, sa⟩, icA, icN, icT, icM, icE⟩
  have MQ : Mk K C fQ := ⟨mk, aQ, iQ, kc⟩
  have mz : ∀ {x : Str}, PySem.W.nsIn K mainGlobals x = some none → mg x = none := fun z => PySem.W.mg_none_of X G z
  have TM : TxM K mg C fK fM := ⟨⟨pg, hd, po, sa⟩, nT, nB, PySem.W.mg_of X G aC, IC, kII, mz z_isinstance, ⟨PySem.W.mg_of X G aK, kK⟩, ⟨PySem.W.mg_of X G aM, kM⟩⟩
  have TL : TxL K mg fB fT fI fL fF := ⟨⟨PySem.W.mg_of X G aB, kB⟩, ⟨PySem.W.mg_of X G aT, kT⟩, ⟨PySem.W.mg_of X G aI, kI⟩, ⟨PySem.W.mg_of X G aL, kL⟩, ⟨PySem.W.mg_of X G aF, kF⟩⟩
  have OA : OwnOp K C "add" fAd fRa := ⟨aAd, aRa, iAd, iRa, sfC, sCI, sII⟩
  have OS : OwnOp K C "sub" fSu fRs := ⟨aSu, aRs, iSu, iRs, sfC, sCI, sII⟩
  have OM : OwnOp K C "mul" fMu fRm := ⟨aMu, aRm, iMu, iRm, sfC, sCI, sII⟩
  exact ⟨PySem.W.fnOf "law" "law" (defArgs sLaw) (defBody sLaw) (defScope sLaw) .none kVZ dcZ pmZ anZ cdZ ctZ, fun s v => .of_eq rfl, fun base _ _ => by
    have GE : FnOk l.prog w K mg base CX0 1 fE _ ["self", "value"] (spEx1 CI "value") := ok_ei FE TO noI
    have GW : FnOk l.prog w K mg base CX0 1 fW _ ["value"] (spWhole K) := ok_whole FW (mz z_isinstance) (mz z_int) (mz z_bool)
    have GQ := ok_init FQ TR GE bE GW bW
    have GN : FnOk l.prog w K mg base CX0 1 fN _ ["_law_actual"] (spWhole K) := ok_int FN (mz z_isinstance) (mz z_int) (mz z_bool)
    have GT : FnOk l.prog w K mg base CX0 1 fT _ ["_law_bag_here", "_law_size"] spTake := ok_take FT (mz z_len) (mz z_int)
    have GL : FnOk l.prog w K mg base CX0 1 fL _ ["_law_top", "_law_bottom"] spLowest := ok_lowest FL (mz z_abs) (mz z_range)
    have GK := ok_term (P := l.prog) (w := w) (base := base) FK TM ⟨PySem.W.mg_of X G aW, kW⟩ GW bW
    have GM := ok_terms (P := l.prog) (w := w) (base := base) FM TM
    have GAd := ok_Add FAd TM TR MQ GK bK GM bM GQ bQ
    have GSu := ok_Sub FSu TM TR MQ GK bK GM bM GQ bQ
    have GMu := ok_Mul FMu TM TR MQ GK bK GM bM GQ bQ
    have GNe := ok_Neg (fK := fK) (fM := fM) FNe TM TR MQ (mz z_abs) GQ bQ
    have GAb := ok_Abs (fK := fK) (fM := fM) FAb TM TR MQ (mz z_abs) GQ bQ
    have GRa := ok_Radd FRa OA GAd bAd oA1 oA2
    have GRm := ok_Rmul FRm OM GMu bMu oM1 oM2
    have GRs := ok_Rsub FRs OA GAd bAd GNe bNe aNe iNe oA1 oA2
    exact ok_law FZ TR TL MQ (mz z_abs) (ok_bag FB (mz z_list)) bB GT bT (ok_is FI TR IC (mz z_isinstance) GN bN (PySem.W.mg_of X G aN) kN) bI GL bL (ok_frac FF ⟨PySem.W.mg_of X G aT, kT⟩ ⟨PySem.W.mg_of X G aL, kL⟩ GT bT GL bL) bF GQ bQ OA OS OM GAd bAd GSu bSu GMu bMu GRa bRa GRs bRs GRm bRm oA1 oA2 oS1 oS2 oM1 oM2 GNe bNe aNe iNe GAb bAb aAb iAb⟩
theorem walk {l : PySem.W.OpenLaw} {q : Program} {loose : List Str} {XP : (Str → Option Value) → Heap → Prop} {YP : World → Heap → Prop} {d : DefRec} {K : Params → PySem.W.Frag} (hn : l.most = some 63) (hdf : d.params.defaults = [])
    (hY : ∀ (w : World) (h : Heap), YP w h → (K w.params).In h)
    (F : ∀ (w : World) (mg : Str → Option Value) (fa : Addr) (h : Heap), (K w.params).In h → h.Ns mainGlobals mg → mg d.name = some (.ref fa) →
      ∃ fd : FuncData, (∀ (s : Shared) (u : Value), BindsTo s fd ⟨[u], []⟩ [("_law_script", u)]) ∧ ∀ base : Heap, (K w.params).In base → base.Ns mainGlobals mg → FnOk l.prog w (K w.params) mg base CX0 7 fa fd ["_law_script"] (spLaw (K w.params))) :
    PySem.W.WalkO q loose XP YP l.row.toRowW d [] (fun f vs => PySem.call f vs) :=
  L2.walk_of (n := 63) (k := 7) (x := "_law_script") (CX := fun _ => CX0) (sp := fun w => spLaw (K w.params)) hn (by decide) hdf ⟨rfl, by decide, by decide⟩ hY F (fun _ _ a ns hl _ hS => ⟨a, ns, rfl, hS, hl, fun _ => rfl⟩) fun _ _ _ _ _ z => z
end Toy
open PySem PySem.W PyProof.Rows
set_option maxRecDepth 100000 in
set_option maxHeartbeats 0 in
theorem PySem.Challenge.cw_fontgap_k02_ratio_arithmetic_holds : PySem.Challenge.rw_fontgap_k02_ratio_arithmetic.Holds := by
  w_on; o_law; k_head; (case hw => w_witness2)
  k_fill
  refine Toy.walk (l := PySem.Challenge.rw_fontgap_k02_ratio_arithmetic) rfl rfl (fun w h Y => PySem.W.kIn_of Y) ?F
  case F =>
    intro w mg fa h KX G hmg
    refine' Toy.all_mk KX G hmg ?aCI ?aCF ?aC ?aW ?lW ?cW ?kW ?aK ?lK ?cK ?kK ?aM ?lM ?cM ?kM ?aE ?tE ?lE ?cE ?kE ?aQ ?iQ ?lQ ?cQ ?kQ ?dQ ?aAd ?iAd ?lAd ?cAd ?kAd ?aRa ?iRa ?lRa ?cRa ?kRa ?aSu ?iSu ?lSu ?cSu ?kSu ?aRs ?iRs ?lRs ?cRs ?kRs ?aMu ?iMu ?lMu ?cMu ?kMu ?aRm ?iRm ?lRm ?cRm ?kRm ?aNe ?iNe ?lNe ?cNe ?kNe ?aAb ?iAb ?lAb ?cAb ?kAb ?aB ?lB ?cB ?kB ?aT ?lT ?cT ?kT ?aN ?lN ?cN ?kN ?aI ?lI ?cI ?kI ?aL ?lL ?cL ?kL ?aF ?lF ?cF ?kF ?aZ ?lZ ?cZ ?kZ ?xCI ?saI ?exI ?tyI ?kpI ?noI ?pg ?hd ?po ?sa ?mk ?kc ?nT ?nB ?icA ?icN ?icT ?icM ?icE ?gG ?kII ?sII ?sCI ?sfC ?oA1 ?oA2 ?oS1 ?oS2 ?oM1 ?oM2 ?z_isinstance ?z_int ?z_bool ?z_len ?z_list ?z_range ?z_abs
    (case aCI => k_is)
    (case aCF => k_is)
    (case aC => k_is)
    (case aW => k_is)
    (case lW => k_is)
    (case cW => k_is)
    (case kW => k_is)
    (case aK => k_is)
    (case lK => k_is)
    (case cK => k_is)
    (case kK => k_is)
    (case aM => k_is)
    (case lM => k_is)
    (case cM => k_is)
    (case kM => k_is)
    (case aE => k_is)
    (case tE => k_is)
    (case lE => k_is)
    (case cE => k_is)
    (case kE => k_is)
    (case aQ => k_is)
    (case iQ => k_is)
    (case lQ => k_is)
    (case cQ => k_is)
    (case kQ => k_is)
    (case dQ => k_is)
    (case aAd => k_is)
    (case iAd => k_is)
    (case lAd => k_is)
    (case cAd => k_is)
    (case kAd => k_is)
    (case aRa => k_is)
    (case iRa => k_is)
    (case lRa => k_is)
    (case cRa => k_is)
    (case kRa => k_is)
    (case aSu => k_is)
    (case iSu => k_is)
    (case lSu => k_is)
    (case cSu => k_is)
    (case kSu => k_is)
    (case aRs => k_is)
    (case iRs => k_is)
    (case lRs => k_is)
    (case cRs => k_is)
    (case kRs => k_is)
    (case aMu => k_is)
    (case iMu => k_is)
    (case lMu => k_is)
    (case cMu => k_is)
    (case kMu => k_is)
    (case aRm => k_is)
    (case iRm => k_is)
    (case lRm => k_is)
    (case cRm => k_is)
    (case kRm => k_is)
    (case aNe => k_is)
    (case iNe => k_is)
    (case lNe => k_is)
    (case cNe => k_is)
    (case kNe => k_is)
    (case aAb => k_is)
    (case iAb => k_is)
    (case lAb => k_is)
    (case cAb => k_is)
    (case kAb => k_is)
    (case aB => k_is)
    (case lB => k_is)
    (case cB => k_is)
    (case kB => k_is)
    (case aT => k_is)
    (case lT => k_is)
    (case cT => k_is)
    (case kT => k_is)
    (case aN => k_is)
    (case lN => k_is)
    (case cN => k_is)
    (case kN => k_is)
    (case aI => k_is)
    (case lI => k_is)
    (case cI => k_is)
    (case kI => k_is)
    (case aL => k_is)
    (case lL => k_is)
    (case cL => k_is)
    (case kL => k_is)
    (case aF => k_is)
    (case lF => k_is)
    (case cF => k_is)
    (case kF => k_is)
    (case aZ => k_is)
    (case lZ => k_is)
    (case cZ => k_is)
    (case kZ => k_is)
    (case xCI => k_is)
    (case saI => k_is)
    (case exI => k_is)
    (case tyI => k_is)
    (case kpI => k_is)
    (case noI => k_is)
    (case pg => k_is)
    (case hd => k_is)
    (case po => k_is)
    (case sa => k_is)
    (case mk => k_is)
    (case kc => k_is)
    (case nT => k_is)
    (case nB => k_is)
    (case icA => k_is)
    (case icN => k_is)
    (case icT => k_is)
    (case icM => k_is)
    (case icE => kit_is)
    (case gG => k_is)
    (case kII => kit_is)
    (case sII => k_is)
    (case sCI => k_is)
    (case sfC => k_is)
    (case oA1 => k_is)
    (case oA2 => k_is)
    (case oS1 => k_is)
    (case oS2 => k_is)
    (case oM1 => k_is)
    (case oM2 => k_is)
    (case z_isinstance => k_is)
    (case z_int => k_is)
    (case z_bool => k_is)
    (case z_len => k_is)
    (case z_list => k_is)
    (case z_range => k_is)
    (case z_abs => k_is)
