import PyProof.Rows.All
import Wide.All
import OpenK.AllK
import Wide.FinOn
import HandS.ForMost
import HandS.Exc
import HandS.TryOnly
import HandS.WordsExc
import HandS.Wide
import HandS.Gcd
import HandS.IsInst
import HandS.Codes
import HandS.Defaults
import HandS.ExcInit
import HandS.ExcField
import HandS.ExcIs
import HandS.TryMany
import KE.KExcIs
import KE.KOpsOwn
import KE.SortKeyHeap
import KE.SortData
import HandS.SortKw
import HandS.RaiseMore
import HandS.DictTup
import HandS.Conv
import HandS.Style
import HandS.Flow
import HandS.StrMore
import HandS.Property
import KE.KxField
import HandS.WideBits
import HandS.FStr
import KE.KCallOwn
import HandS.ClsMeth
import HandS.Comp
import HandS.Iter
import HandS.Walk
import PySem.Challenge.RW_fontgap_k01_ratio_in_lowest_terms
set_option Elab.async false
set_option maxRecDepth 100000
set_option maxHeartbeats 4000000
set_option exponentiation.threshold 2000
namespace Toy
open PySem L2
def top (i : Nat) : Stmt := PySem.Challenge.pw_fontgap_k01_ratio_in_lowest_terms.main.body.getD i (.Pass ⟨0, 0, 0, 0⟩)
/-! ### the bag of draws -/
/-- a bag stands at b: the script's ints at l, the place, the rest, the state, the count -/
def BagAt (H : Hp) (b : Addr) : Prop := ∃ (l : Addr) (ns : List Int) (p q r c : Int), H b = some (.lst [.ref l, .int p, .int q, .int r, .int c]) ∧ H l = some (.lst (ns.map V.int)) ∧ 0 ≤ p ∧ 0 ≤ r ∧ r < 2147483647
def Keep (b : Addr) (H H' : Hp) : Prop := ∀ a o, H a = some o → a ≠ b → H' a = some o
def spBag (K : PySem.W.Frag) : Sp := fun vs H Q _ => ∃ (a : Addr) (ns : List Int), vs = [.ref a] ∧ SqL K H a (ns.map V.int) ∧ ∀ b H', BagAt H' b → H b = none → Same H H' → Q (.ref b) H'
def spTake : Sp := fun vs H Q _ => ∃ (b : Addr) (n : Int), vs = [.ref b, .int n] ∧ 0 < n ∧ n.natAbs < 2 ^ 300 ∧ BagAt H b ∧
  ∀ (d : Int) H', 0 ≤ d → d < n → BagAt H' b → Keep b H H' → Q (.int d) H'
abbrev sBag : Stmt := top 15
abbrev sTake : Stmt := top 16
theorem cut63 (ns : List Int) : cutV (ns.map V.int) none (some 63) = ((ns.take (HT.sIx (ns.map V.int).length (ns.map V.int).length (some 63) - HT.sIx (ns.map V.int).length 0 none)).drop 0).map V.int ∨ True := .inr trivial
theorem cut_map (ns : List Int) (lo hi : Option Int) : ∃ ms : List Int, cutV (ns.map V.int) lo hi = ms.map V.int := by
  unfold cutV
  rw [← List.map_drop, ← List.map_take]
  exact ⟨_, rfl⟩
section
variable {P : Program} {w : World} {K : PySem.W.Frag} {mg : Str → Option Value} {base : Heap}
theorem scBag : FnScope ["_law_script"] ["_law_script"] (defScope sBag) := ⟨rfl, rfl, rfl, by decide +kernel, rfl, by decide +kernel, by decide +kernel⟩
theorem ok_bag {f : Addr} {fd : FuncData} (F : Fun K "_law_bag" "_law_bag" sBag f fd) (mL : mg "list" = none) : FnOk P w K mg base CX0 1 f fd ["_law_script"] (spBag K) := by
  refine F.ok scBag (fun vs H Q E h => ?_) (fun cdv A outer s H vs Q E hr h => ?_)
  · obtain ⟨a, ns, rfl, _⟩ := h
    rfl
  · obtain ⟨a, ns, rfl, hS, k⟩ := h
    refine ⟨_, pss_one (ps_ret (pe_lst (pa_cons (pe_callTy call_list_of (by rfl) mL (by decide +kernel) (pa_cons (pe_slice sl_list (pv 0) po_none (po_some pe_int)) pa_nil)) (pa_cons pe_int (pa_cons pe_int (pa_cons pe_int (pa_cons pe_int pa_nil))))))), ?_⟩
    refine ⟨_, rfl, _, rfl, a, _, rfl, hS, fun p np => ?_⟩
    obtain ⟨ms, em⟩ := cut_map ns none (some 63)
    refine ⟨p, _, rfl, .inl (SqL.of upd_same), fun l nl => ?_⟩
    refine ⟨by show 5 ≤ sizeLine; decide, fun b nb => ?_⟩
    have hlp : l ≠ p := fun z => by rw [z, upd_same] at nl; cases nl
    have hbl : l ≠ b := fun z => by rw [← z, upd_same] at nb; cases nb
    have hbp : p ≠ b := fun z => by rw [← z, upd_ne (Ne.symm hlp), upd_same] at nb; cases nb
    refine k b _ ⟨l, ms, 0, 0, 7, 0, upd_same, ?_, by decide, by decide, by decide⟩ ?_ ?_
    · rw [upd_ne hbl, upd_same, em]
    · rw [upd_ne (Ne.symm hbl), upd_ne (Ne.symm hbp)] at nb
      exact nb
    · intro c o e
      have hcp : c ≠ p := ne_of_none e np
      have hcl : c ≠ l := fun z => by rw [z] at e; rw [upd_ne hlp] at nl; rw [nl] at e; cases e
      have hcb : c ≠ b := fun z => by rw [z] at e; rw [upd_ne (Ne.symm hbl), upd_ne (Ne.symm hbp)] at nb; rw [nb] at e; cases e
      rw [upd_ne hcb, upd_ne hcl, upd_ne hcp]
      exact e
end
section
variable {P : Program} {w : World} {K : PySem.W.Frag} {mg : Str → Option Value} {base : Heap}
theorem scTake : FnScope ["_law_bag_here", "_law_size", "_law_digit", "_law_cell"] ["_law_bag_here", "_law_size"] (defScope sTake) := ⟨rfl, rfl, rfl, by decide +kernel, rfl, by decide +kernel, by decide +kernel⟩
theorem fm_nn (a : Int) {n : Int} (h : 0 < n) : 0 ≤ a.fmod n ∧ a.fmod n < n := by
  rw [Int.fmod_eq_emod_of_nonneg _ (by omega)]
  exact ⟨Int.emod_nonneg _ (by omega), Int.emod_lt_of_pos _ h⟩
theorem bag_keep {H : Hp} {b : Addr} {o : HO} : Keep b H (upd H b o) := fun a u e h => by rw [upd_ne h]; exact e
theorem Keep.trans {b : Addr} {H H1 H2 : Hp} (a : Keep b H H1) (c : Keep b H1 H2) : Keep b H H2 := fun x o e h => c x o (a x o e h) h
theorem Keep.refl {b : Addr} {H : Hp} : Keep b H H := fun _ _ e _ => e
theorem ok_take {f : Addr} {fd : FuncData} (F : Fun K "_law_take" "_law_take" sTake f fd) (mL : mg "len" = none) (mI : mg "int" = none) : FnOk P w K mg base CX0 1 f fd ["_law_bag_here", "_law_size"] spTake := by
  refine F.ok scTake (fun vs H Q E h => ?_) (fun cdv A outer s H vs Q E hr h => ?_)
  · obtain ⟨a, ns, rfl, _⟩ := h
    rfl
  · obtain ⟨b, n, rfl, n0, nW, ⟨l, ns, p, q, r, c, hb, hl, p0, r0, r1⟩, k⟩ := h
    have wd : CDivW 0 n := wide_div n0 nW (by decide) (by decide)
    have nn : n ≠ 0 := by omega
    refine ⟨_, pss_cons (ps_if (pt_cmpR op_ge (pe_ix ix_list (pv 0) pe_int (fun _ _ => rfl)) (pe_op op_pow pe_int pe_int) (nomark _))
        (pss_cons (ps_set (i := 2) scTake.nd rfl (Or.inl rfl) (pe_op op_modN (pe_callTy call_int1 (by rfl) mI (by decide +kernel) (pa_cons (pe_ix ix_list (pv 0) pe_int (fun _ _ => rfl)) pa_nil)) (pv 1)))
        (pss_cons (ps_asg (pe_op op_fdivW (pe_ix ix_list (pv 0) pe_int (fun _ _ => rfl)) (pv 1)) (pg_sub (pv 0) pe_int set_list))
        (pss_one (ps_ret (pv 2))))) pss_nil)
      (pss_cons (ps_set (i := 3) scTake.nd rfl (Or.inl rfl) pe_int)
      (C8.pss_cut (ps_if (pt_cmpR op_lt (pe_ix ix_list (pv 0) pe_int (fun _ _ => rfl)) (pe_callB call_len_seq (by rfl) mL PySem.boot_len (pa_cons (pe_ix ix_list (pv 0) pe_int (fun _ _ => rfl)) pa_nil)) (nomark _))
        (pss_cons (ps_set (i := 3) scTake.nd rfl (Or.inl rfl) (pe_ix ix_list (pe_ix ix_list (pv 0) pe_int (fun _ _ => rfl)) (pe_ix ix_list (pv 0) pe_int (fun _ _ => rfl)) (fun _ _ => rfl)))
        (pss_one (ps_asg (pe_op op_add (pe_ix ix_list (pv 0) pe_int (fun _ _ => rfl)) pe_int) (pg_sub (pv 0) pe_int set_list)))) pss_nil)
      (pss_cons (ps_if (pt_cmpR op_ge (pv 3) (pe_op op_pow pe_int pe_int) (nomark _))
        (pss_cons (ps_asg (pe_op op_fdivW (pv 3) (pv 1)) (pg_sub (pv 0) pe_int set_list))
        (pss_one (ps_ret (pe_op op_modN (pe_callTy call_int1 (by rfl) mI (by decide +kernel) (pa_cons (pv 3) pa_nil)) (pv 1))))) pss_nil)
      (pss_cons (ps_asg (pe_op op_add (pe_ix ix_list (pv 0) pe_int (fun _ _ => rfl)) pe_int) (pg_sub (pv 0) pe_int set_list))
      (pss_cons (ps_asg (pe_op op_mod (pe_callTy call_int1 (by rfl) mI (by decide +kernel) (pa_cons (pe_op op_add (pe_op op_add (pe_op op_mul (pe_ix ix_list (pv 0) pe_int (fun _ _ => rfl)) pe_int) (pv 3)) (pe_op op_mul (pe_ix ix_list (pv 0) pe_int (fun _ _ => rfl)) pe_int)) pa_nil)) pe_int) (pg_sub (pv 0) pe_int set_list))
      (pss_one (ps_ret (pe_op op_modN (pe_op op_fdiv (pe_op op_mod (pe_callTy call_int1 (by rfl) mI (by decide +kernel) (pa_cons (pe_op op_mul (pe_ix ix_list (pv 0) pe_int (fun _ _ => rfl)) (pe_ix ix_list (pv 0) pe_int (fun _ _ => rfl))) pa_nil)) pe_int) pe_int) (pv 1))))))))), ?_⟩
    have at2 : ∀ (a0 a1 a2 a3 a4 : V), atI [a0, a1, a2, a3, a4] 2 = some a2 := fun _ _ _ _ _ => rfl
    -- if bag[2] >= 10 ** 18
    refine ⟨_, rfl, b, _, _, _, rfl, rfl, SqL.of hb, rfl, 10, 18, rfl, rfl, ⟨by decide, by decide, by decide⟩, _, _, rfl, rfl, _, rfl, ?_⟩
    refine ite2 (fun _ => ?_) (fun _ => ?_)
    · refine ⟨_, rfl, b, _, _, _, rfl, rfl, SqL.of hb, rfl, .inl ⟨_, rfl, ?_⟩⟩
      refine ⟨_, rfl, _, _, rfl, rfl, nn, ?_⟩
      refine ⟨_, rfl, b, _, _, _, rfl, rfl, SqL.of hb, rfl, _, rfl, _, _, rfl, rfl, ⟨wd.1, wd.2⟩, ?_⟩
      refine ⟨_, rfl, b, _, _, 2, rfl, rfl, hb, rfl, ?_⟩
      refine ⟨_, rfl, k _ _ (fm_nn _ n0).1 (fm_nn _ n0).2 ⟨l, ns, p, q / n, r, c, upd_same, ?_, p0, r0, r1⟩ bag_keep⟩
      rw [upd_ne (ne_of hl hb (by intro z; cases ns with | nil => cases z | cons a t => cases z))]
      exact hl
    · -- cell = 0; the join
      refine ⟨fun σ' H' => ∃ (p' cell : Int) (v : Option V), σ' = [some (.ref b), some (.int n), v, some (.int cell)] ∧ 0 ≤ p' ∧ H' b = some (.lst [.ref l, .int p', .int q, .int r, .int c]) ∧ H' l = some (.lst (ns.map V.int)) ∧ Keep b H H', ?_, ?_⟩
      · refine ⟨_, rfl, b, _, _, _, rfl, rfl, SqL.of hb, rfl, _, rfl, b, _, _, _, rfl, rfl, SqL.of hb, rfl, l, _, rfl, .inl (SqL.of hl), _, _, rfl, rfl, _, rfl, ?_⟩
        refine ite2 (fun hp => ?_) (fun _ => ?_)
        · have hp' : p < ((ns.map V.int).length : Int) := of_decide_eq_true hp
          rw [List.length_map] at hp'
          obtain ⟨m, rfl⟩ : ∃ m : Nat, p = (m : Int) := ⟨p.toNat, by omega⟩
          have hm : m < ns.length := by omega
          refine ⟨_, rfl, b, _, _, _, rfl, rfl, SqL.of hb, rfl, _, rfl, b, _, _, _, rfl, rfl, SqL.of hb, rfl, l, _, _, .int ns[m], rfl, rfl, SqL.of hl, atI_nat (by rw [List.getElem?_map, List.getElem?_eq_getElem hm]; rfl), ?_⟩
          refine ⟨_, rfl, b, _, _, _, rfl, rfl, SqL.of hb, rfl, _, _, rfl, rfl, ?_⟩
          refine ⟨_, rfl, b, _, _, 1, rfl, rfl, hb, rfl, ?_⟩
          refine ⟨(m : Int) + 1, ns[m], none, rfl, by omega, upd_same, ?_, bag_keep⟩
          rw [upd_ne (ne_of hl hb (by intro z; cases ns with | nil => cases z | cons a t => cases z))]
          exact hl
        · exact ⟨p, 0, none, rfl, p0, hb, hl, Keep.refl⟩
      · rintro σ' H' ⟨p', cell, v, rfl, p0', hb', hl', kp⟩
        have hbl : ∀ o, upd H' b o l = some (.lst (ns.map V.int)) := fun o => by
          rw [upd_ne (ne_of hl' hb' (by intro z; cases ns with | nil => cases z | cons a t => cases z))]
          exact hl'
        refine ⟨_, rfl, 10, 18, rfl, rfl, ⟨by decide, by decide, by decide⟩, _, _, rfl, rfl, _, rfl, ?_⟩
        refine ite2 (fun _ => ?_) (fun _ => ?_)
        · refine ⟨_, rfl, _, rfl, _, _, rfl, rfl, ⟨wd.1, wd.2⟩, ?_⟩
          refine ⟨_, rfl, b, _, _, 2, rfl, rfl, hb', rfl, ?_⟩
          refine ⟨_, rfl, .inl ⟨_, rfl, ?_⟩⟩
          refine ⟨_, rfl, _, _, rfl, rfl, nn, ?_⟩
          exact k _ _ (fm_nn _ n0).1 (fm_nn _ n0).2 ⟨l, ns, p', cell / n, r, c, upd_same, hbl _, p0', r0, r1⟩ (kp.trans bag_keep)
        · refine ⟨_, rfl, b, _, _, _, rfl, rfl, SqL.of hb', rfl, _, _, rfl, rfl, ?_⟩
          refine ⟨_, rfl, b, _, _, 4, rfl, rfl, hb', rfl, ?_⟩
          refine ⟨_, rfl, b, _, _, _, rfl, rfl, SqL.of upd_same, rfl, _, _, rfl, rfl, .inr (by decide), ?_⟩
          refine ⟨_, rfl, _, _, rfl, rfl, ?_⟩
          refine ⟨_, rfl, b, _, _, _, rfl, rfl, SqL.of upd_same, rfl, _, _, rfl, rfl, .inr (by decide), ?_⟩
          refine ⟨_, _, rfl, rfl, .inl ⟨_, rfl, ?_⟩⟩
          refine ⟨_, _, rfl, rfl, (by show (0 : Int) < 2147483647; decide), ?_⟩
          refine ⟨_, rfl, b, _, _, 3, rfl, rfl, upd_same, rfl, ?_⟩
          have z0 : ∀ x : Int, 0 ≤ x % 2147483647 ∧ x % 2147483647 < 2147483647 := fun x => by omega
          generalize (r * 48271 + cell + (c + 1) * 69621 : Int) = x
          obtain ⟨y0, y1⟩ := z0 x
          refine ⟨_, rfl, b, _, _, _, rfl, rfl, SqL.of upd_same, rfl, _, rfl, b, _, _, _, rfl, rfl, SqL.of upd_same, rfl, _, _, rfl, rfl, .inl ⟨by omega, by omega⟩, .inl ⟨_, rfl, ?_⟩⟩
          refine ⟨_, _, rfl, rfl, (by show (0 : Int) < 2147483629; decide), ?_⟩
          refine ⟨_, _, rfl, rfl, ⟨by decide, by decide⟩, ?_⟩
          refine ⟨_, rfl, _, _, rfl, rfl, nn, ?_⟩
          refine k _ _ (fm_nn _ n0).1 (fm_nn _ n0).2 ⟨l, ns, p', q, x % 2147483647, c + 1, upd_same, ?_, p0', y0, y1⟩ ((kp.trans bag_keep).trans bag_keep)
          rw [upd_upd]
          exact hbl _
end
/-! ### rules of my own -/
section
variable {X : Cx}
/-- // by any divisor but 0, below 2 ^ 9000 in size -/
def CDivX (_ j : Int) : Prop := j ≠ 0 ∧ j.natAbs.log2 < 9000
theorem op_fdivX : OpR X (binaryOp .FloorDiv) (rI CDivX fun i j => .int (i.fdiv j)) := opI fun i j _ _ _ _ _ hc q =>
  PyProof.Rows.floordiv_int hc.1 q (.inl (PyProof.noPylong_of_log2 hc.2))
theorem divx {i j : Int} {b : Nat} (h : j ≠ 0) (hb : j.natAbs < 2 ^ b) (h0 : 0 < b) (h9 : b ≤ 9000) : CDivX i j := ⟨h, Nat.lt_of_lt_of_le (PySem.Flt.log2_lt_of h0 hb) h9⟩
/-- C(e, ..) whose __init__ may raise, wished for at the caller's slots -/
def tMakeS (C : Addr) (sp : Sp) (dvs : List V) (E : St → XK) (t : TA) : TE := fun σ H Q => t σ H fun vs H1 => ∀ x dx, H1 x = none → H1 dx = none → dx ≠ x →
  sp (.ref x :: (vs ++ dvs)) (upd (upd H1 dx (.own x)) x (.ins C dx [])) (fun v H2 => v = .non ∧ Q (.ref x) H2) (E σ)
theorem pe_makeS {CX : CXT} {k : Nat} {f C : Addr} {fd : FuncData} {ps : List Str} {sp : Sp} {E : St → XK} {x : Str} {p pos : Pos} {e : Expr} {es : List Expr} {t : TA} {ds : List Value} {dvs : List V}
    (M : Mk X.K C f) (F : FnOk X.prog X.w X.K X.mg X.base CX k f fd ps sp) (hr : Room (k + 1) X.A) (hg : Gl X x) (hm : X.mg x = some (.ref C)) (hb : Binds X.K fd ps ds) (hd : Vals dvs ds) (hx : ∀ σ, PassesAt CX X σ (E σ))
    (ha : PA X (e :: es) t) (hdb : (x == ("__debug__" : Str)) = false := by decide) (he : starEach (e :: es) X.env = (false, eval e X.env) :: starEach es X.env := by rfl) (hpl : (backTo pos (starEach es X.env)).any (·.1) = false := by rfl) :
    PE X (.Call (.Name x p) (e :: es) [] pos) (tMakeS C sp dvs E t) := by
  refine ⟨fun pins s σ H Q I h => ?_⟩
  refine PySem.wpAny_Call_Name_kw (ld_glob I hg hm ?_ hdb)
  refine PySem.W.callWith_K (h₀ := X.base) I.ok.mod.kin M.kp (thn (ha.run pos pins s σ H _ I h) fun us s1 ⟨vs, H1, I1, r, q1⟩ => ⟨I1.kIn, ?_⟩) he hpl
  have hq := q1 (s1.heap.objs.size + 1) s1.heap.objs.size (I1.hok.fresh (Nat.le_succ _)) (I1.hok.fresh (Nat.le_refl _)) (Nat.ne_of_lt (Nat.lt_succ_self _))
  have I2 := Inv.made (C := C) I1
  have r2 : Vals (V.ref (s1.heap.objs.size + 1) :: (vs ++ dvs)) (Value.ref (s1.heap.objs.size + 1) :: (us ++ ds)) := .cons rfl (r.append hd)
  have hl : (Value.ref (s1.heap.objs.size + 1) :: us ++ ds).length = ps.length := by
    have e := r2.length
    rw [F.len _ _ _ _ hq] at e
    exact e.symm
  refine wpAny_call (make_map (f := f) I1.kIn M.makes M.init (beq_iff_eq.mp M.fn) (codeAny_mono (F.run _ X.stack _ _ ⟨Value.ref (s1.heap.objs.size + 1) :: us, []⟩ (Value.ref (s1.heap.objs.size + 1) :: (us ++ ds)) _ _ (E σ) (hr.make C us [])
    (I2.env0.make C us []) (hb _ (Value.ref (s1.heap.objs.size + 1) :: us) I2.kIn hl) r2 hq) fun r s' hq' => ?_))
  cases r with
  | error e => exact hx σ pins _ _ e s' I2 hq'
  | ok fl =>
    cases fl with
    | ret u =>
      obtain ⟨v, H', I3, rv, ev, q3⟩ := I2.after hq'
      subst ev
      exact ⟨rv, ⟨V.ref (s1.heap.objs.size + 1), H', I3, rfl, q3⟩⟩
    | next => exact False.elim hq'
    | brk => exact False.elim hq'
    | cont => exact False.elim hq'
end
/-! ### an own error with one field -/
theorem upd_exc {H : Hp} {a dx : Addr} {u1 u2 u3 o : HO} (ha : H a = none) (hd : dx ≠ a) : upd (del (upd (upd (upd H a u1) dx u2) a u3) a) dx o = upd H dx o := by
  funext b
  by_cases h1 : b = dx
  · rw [h1, upd_same, upd_same]
  · rw [upd_ne h1, upd_ne h1]
    by_cases h2 : b = a
    · rw [h2, del_same, ha]
    · rw [del_ne h2, upd_ne h2, upd_ne h1, upd_ne h2]
/-- C.__init__(self, y): self.f = y -/
def spEx1 (C : Addr) (f : Str) : Sp := fun vs H Q _ => ∃ (a : Addr) (y : V), vs = [.ref a, y] ∧ H a = some (exo a C none) ∧ ∀ dx, H dx = none → dx ≠ a → Q .non (upd (upd H dx (exd dx [(f, y)])) a (exo a C (some dx)))
theorem mkO1 {C : Addr} {f : Str} {ta : TA} {σ : St} {H : Hp} {Q : XK} (h : ta σ H fun vs H1 => ∃ y, vs = [y] ∧ ∀ d, H1 d = none → Q (.ref C) (some d) (upd H1 d (.xd [(f, y)]))) (hm : ∀ (P R : List V → Hp → Prop), (∀ vs H, P vs H → R vs H) → ta σ H P → ta σ H R) : tMkO C (spEx1 C f) [] ta σ H Q := by
  refine hm _ _ (fun vs H1 ⟨y, ev, k⟩ => ?_) h
  subst ev
  refine ⟨by show 1 ≤ 1000; decide, fun a na => ⟨a, y, rfl, upd_same, fun dx hdx nda => ⟨rfl, dx, [(f, y)], upd_same, ?_, ?_, ?_⟩⟩⟩
  · rw [upd_ne nda, upd_same]
  · rw [upd_ne nda] at hdx
    exact hdx
  · rw [upd_exc na nda]
    rw [upd_ne nda] at hdx
    exact k dx hdx
/-- what the written part says of such a class and its __init__ -/
structure ErrC (K : PySem.W.Frag) (mg : Str → Option Value) (x : Str) (C fI : Addr) : Prop where
  g : mg x = some (.ref C)
  T : OexC K C
  iC : PySem.W.findIn K (.ref C) "__init__" = some (some (.ref fI))
  tI : PySem.W.typeIn K (.ref fI) = some (.type "function")
/-- raise C(e) -/
def tRaise1 (C : Addr) (f : Str) (W : WX) (te : TE) : TS := fun _ σ H => te σ H fun y H1 => ∀ d, H1 d = none → W (.ref C) (some d) σ (upd H1 d (.xd [(f, y)]))
section
variable {X : Cx}
theorem ps_raise1 {CX : CXT} {x f : Str} {C fI : Addr} {k : Nat} {fd : FuncData} {te : TE} {W : WX} {a : Expr} {p pos pos2 : Pos} (R : ErrC X.K X.mg x C fI) (F1 : FnOk X.prog X.w X.K X.mg X.base CX k fI fd ["self", f] (spEx1 C f)) (hr : Room (k + 1) X.A) (hb : Binds X.K fd ["self", f] [])
    (hx : Passes CX X (fun _ _ _ => False)) (hc : X.calm = true) (tk : Takes X W) (ha : PE X a te) (hm : ∀ σ H (P R : V → Hp → Prop), (∀ v H, P v H → R v H) → te σ H P → te σ H R) (hg : Gl X x := by rfl) (hdb : (x == ("__debug__" : Str)) = false := by decide)
    (he : starEach (a :: []) X.env = (false, eval a X.env) :: starEach [] X.env := by rfl) (hpl : (backTo pos (starEach [] X.env)).any (·.1) = false := by rfl) :
    PS X (.Raise (some (.Call (.Name x p) [a] [] pos)) none pos2) (tRaise1 C f W te) := by
  have q := ps_raise hc tk (pmk_oex (p := p) (e := a) (es := []) R.T R.iC R.tI F1 hr hb .nil hx hg R.g (pa_cons ha pa_nil he) hdb he hpl) (pos := pos2)
  refine ⟨fun pins s σ H D I h => q.run pins s σ H D I ?_⟩
  refine mkO1 (f := f) ?_ (fun P R hpr h => ?_)
  · exact hm σ H _ _ (fun y H1 k => ⟨y, rfl, k⟩) h
  · exact hm σ H _ _ (fun v H1 k => hpr _ _ k) h
theorem mono_tVar {i : Nat} (σ : St) (H : Hp) (P R : V → Hp → Prop) (h : ∀ v H, P v H → R v H) : tVar i σ H P → tVar i σ H R := fun ⟨v, e, p⟩ => ⟨v, e, h v H p⟩
end
/-! ### kinds of values -/
/-- v is an int (a truth value too): i; a truth value: b -/
def Kd (K : PySem.W.Frag) (H : Hp) (v : V) (i b : Bool) : Prop := ∃ T : String, TyX K H v (.type T) ∧ kitB T "int" = some i ∧ kitB T "bool" = some b
theorem Kd.int {K : PySem.W.Frag} {H : Hp} {n : Int} : Kd K H (.int n) true false := ⟨"int", .base (.int n), by decide +kernel, by decide +kernel⟩
theorem Kd.bl {K : PySem.W.Frag} {H : Hp} {n : Bool} : Kd K H (.bl n) true true := ⟨"bool", .base (.bl n), by decide +kernel, by decide +kernel⟩
theorem Kd.non {K : PySem.W.Frag} {H : Hp} : Kd K H .non false false := ⟨"NoneType", .base .non, by decide +kernel, by decide +kernel⟩
theorem Kd.str {K : PySem.W.Frag} {H : Hp} {z : Str} : Kd K H (.str z) false false := ⟨"str", .base (.str z), by decide +kernel, by decide +kernel⟩
theorem Kd.lst {K : PySem.W.Frag} {H : Hp} {a : Addr} {xs : List V} (e : H a = some (.lst xs)) : Kd K H (.ref a) false false := ⟨"list", .base (.lst e), by decide +kernel, by decide +kernel⟩
theorem Kd.tup {K : PySem.W.Frag} {H : Hp} {a : Addr} {xs : List V} (e : H a = some (.tup xs)) : Kd K H (.ref a) false false := ⟨"tuple", .base (.tup e), by decide +kernel, by decide +kernel⟩
/-! ### is_whole, and the law's own of that shape -/
def spWhole (K : PySem.W.Frag) : Sp := fun vs H Q _ => ∃ (v : V) (i b : Bool), vs = [v] ∧ Kd K H v i b ∧ Q (.bl (i && !b)) H
section
variable {P : Program} {w : World} {K : PySem.W.Frag} {mg : Str → Option Value} {base : Heap}
abbrev sWhole : Stmt := top 7
theorem scWhole : FnScope ["value"] ["value"] (defScope sWhole) := ⟨rfl, rfl, rfl, by decide +kernel, rfl, by decide +kernel, by decide +kernel⟩
theorem ok_whole {f : Addr} {fd : FuncData} (F : Fun K "is_whole" "is_whole" sWhole f fd) (mIs : mg "isinstance" = none) (mI : mg "int" = none) (mB : mg "bool" = none) : FnOk P w K mg base CX0 1 f fd ["value"] (spWhole K) := by
  refine F.ok scWhole (fun vs H Q E h => ?_) (fun cdv A outer s H vs Q E hr h => ?_)
  · obtain ⟨v, i, b, rfl, _⟩ := h
    rfl
  · obtain ⟨v, i, b, rfl, ⟨T, ty, k1, k2⟩, k⟩ := h
    refine ⟨_, pss_one (ps_ret (pe_and (pe_callB call_isi (by rfl) mIs (by decide +kernel) (pa_cons (pv 0) (pa_cons (pe_bltn (v := .ty "int") (by rfl) mI (by decide +kernel) rfl) pa_nil)))
      (pe_one (pe_not (pe_callB call_isi (by rfl) mIs (by decide +kernel) (pa_cons (pv 0) (pa_cons (pe_bltn (v := .ty "bool") (by rfl) mB (by decide +kernel) rfl) pa_nil))))))), ?_⟩
    refine ⟨_, rfl, _, _, _, _, i, rfl, .ty "int", ty, kit_ty k1, i, rfl, ?_⟩
    cases i with
    | false => exact iteF k
    | true =>
      refine iteT ?_
      exact ⟨_, rfl, _, _, _, _, b, rfl, .ty "bool", ty, kit_ty k2, b, rfl, k⟩
/-! ### an error's __init__ -/
abbrev sEI : Stmt := inClass (top 5) 0
theorem scEI : FnScope ["self", "value"] ["self", "value"] (defScope sEI) := ⟨rfl, rfl, rfl, by decide +kernel, rfl, by decide +kernel, by decide +kernel⟩
theorem ok_ei {f C : Addr} {fd : FuncData} (F : Fun K "__init__" "InvalidNumber.__init__" sEI f fd) (T : OexC K C) (hno : PySem.W.findIn K (.ref C) "value" = some none) : FnOk P w K mg base CX0 1 f fd ["self", "value"] (spEx1 C "value") := by
  refine F.ok scEI (fun vs H Q E h => ?_) (fun cdv A outer s H vs Q E hr h => ?_)
  · obtain ⟨v, i, rfl, _⟩ := h
    rfl
  · obtain ⟨a, y, rfl, ha, k⟩ := h
    refine ⟨_, pss_one (ps_ost (pv 0) (pv 1)), ?_⟩
    exact ⟨_, rfl, _, rfl, a, C, rfl, T, hno, .inl ⟨ha, fun dx n ne => k dx n ne⟩⟩
/-! ### Ratio.__init__ -/
/-- the common divisor, with the bottom's sign -/
def cmn (m n : Int) : Int := if n < 0 then -((Nat.gcd m.natAbs n.natAbs : Nat) : Int) else ((Nat.gcd m.natAbs n.natAbs : Nat) : Int)
theorem cmn_ne {m n : Int} (h : n ≠ 0) : cmn m n ≠ 0 := by
  have z : 0 < Nat.gcd m.natAbs n.natAbs := Nat.gcd_pos_of_pos_right _ (by omega)
  unfold cmn
  split <;> omega
theorem cmn_lt {m n : Int} {b : Nat} (h : n ≠ 0) (hb : n.natAbs < 2 ^ b) : (cmn m n).natAbs < 2 ^ b := by
  have z : Nat.gcd m.natAbs n.natAbs ≤ n.natAbs := Nat.gcd_le_right _ (by omega)
  unfold cmn
  split <;> omega
theorem ne_tb : ¬ (("top" : Str) = "bottom") := by decide +kernel
/-- a ratio's fields -/
def rfl2 (a b : Int) : List (Str × V) := putF "bottom" (.int b) (putF "top" (.int a) [])
theorem rfl2_top (a b : Int) : (rfl2 a b).lookup ("top" : Str) = some (.int a) := by
  unfold rfl2
  rw [lookup_putF, if_neg ne_tb, lookup_putF, if_pos rfl]
theorem rfl2_bottom (a b : Int) : (rfl2 a b).lookup ("bottom" : Str) = some (.int b) := by
  unfold rfl2
  rw [lookup_putF, if_pos rfl]
theorem rfl2_no (a b : Int) {m : Str} (h1 : ¬ m = "bottom") (h2 : ¬ m = "top") : (rfl2 a b).lookup m = none := by
  unfold rfl2
  rw [lookup_putF, if_neg h1, lookup_putF, if_neg h2]
  all_goals rfl
def spInit (K : PySem.W.Frag) (C CI : Addr) : Sp := fun vs H Q E => ∃ (p dx : Addr) (t u : V) (i b j c : Bool), vs = [.ref p, t, u] ∧ H p = some (.ins C dx []) ∧ Kd K H t i b ∧ Kd K H u j c ∧
  ((i && !b) = false → ∀ d, H d = none → E (.ref CI) (some d) (upd H d (.xd [("value", t)]))) ∧
  ((i && !b) = true → (j && !c) = false → ∀ d, H d = none → E (.ref CI) (some d) (upd H d (.xd [("value", u)]))) ∧
  ((i && !b) = true → (j && !c) = true → ∃ m n : Int, t = .int m ∧ u = .int n ∧ n.natAbs < 2 ^ 900 ∧ (n = 0 → ∀ d, H d = none → E (.ref CI) (some d) (upd H d (.xd [("value", u)]))) ∧
    (n ≠ 0 → Q .non (upd H p (.ins C dx (rfl2 (m.fdiv (cmn m n)) (n.fdiv (cmn m n)))))))
/-- what is asked of the text around Ratio -/
structure TxR (K : PySem.W.Frag) (mg : Str → Option Value) (C CI fE fW : Addr) : Prop where
  cl : Cls K C
  nT : NoAttr K C "top"
  nB : NoAttr K C "bottom"
  mgC : mg "Ratio" = some (.ref C)
  err : ErrC K mg "InvalidNumber" CI fE
  mgW : mg "is_whole" = some (.ref fW)
  kW : PySem.W.keepIn K (.ref fW) = true
  mgG : mg "gcd" = some (.builtin "math.gcd")
abbrev sInit : Stmt := inClass (top 10) 1
theorem scInit : FnScope ["self", "top", "bottom", "common"] ["self", "top", "bottom"] (defScope sInit) := ⟨rfl, rfl, rfl, by decide +kernel, rfl, by decide +kernel, by decide +kernel⟩
theorem ok_init {f C CI fE fW : Addr} {fd fdE fdW : FuncData} (F : FunD K "__init__" "Ratio.__init__" (defArgs sInit) (defBody sInit) (defScope sInit) [.int 1] [] f fd) (T : TxR K mg C CI fE fW)
    (GE : FnOk P w K mg base CX0 1 fE fdE ["self", "value"] (spEx1 CI "value")) (bE : Binds K fdE ["self", "value"] []) (GW : FnOk P w K mg base CX0 1 fW fdW ["value"] (spWhole K)) (bW : Binds K fdW ["value"] []) : FnOk P w K mg base (L2.CX P w) 3 f fd ["self", "top", "bottom"] (spInit K C CI) := by
  refine F.ok scInit (fun vs H Q E h => ?_) (fun cdv A outer s H vs Q E hr h => ?_)
  · obtain ⟨p, dx, t, u, i, b, j, c, rfl, _⟩ := h
    rfl
  · obtain ⟨p, dx, t, u, i, b, j, c, rfl, hp, kt, ku, e1, e2, e3⟩ := h
    have hr1 : Room 1 _ := hr.mono (by decide)
    refine ⟨_, pss_cons (ps_if (pt_not (pt_val (pe_call GW hr1 (by rfl) T.mgW T.kW bW .nil pass0 (pa_cons (pv 1) pa_nil)))) (pss_one (ps_raise1 T.err GE hr bE pass0 rfl (takes_of rfl rfl rfl rfl) (pv 1) (fun σ H P R h => mono_tVar σ H P R h))) pss_nil)
      (pss_cons (ps_if (PW.pt (pw_or (pt_not (pt_val (pe_call GW hr1 (by rfl) T.mgW T.kW bW .nil pass0 (pa_cons (pv 2) pa_nil)))) (pw_or1 (pt_cmpR op_eq (pv 2) pe_int (nomark _))))) (pss_one (ps_raise1 T.err GE hr bE pass0 rfl (takes_of rfl rfl rfl rfl) (pv 2) (fun σ H P R h => mono_tVar σ H P R h))) pss_nil)
      (pss_cons (ps_set (i := 3) scInit.nd rfl (Or.inl rfl) (pe_callBfun cr_gcd (by rfl) T.mgG (pa_cons (pv 1) (pa_cons (pv 2) pa_nil))))
      (C8.pss_cut (ps_if (pt_cmpR op_lt (pv 2) pe_int (nomark _)) (pss_one (ps_set (i := 3) scInit.nd rfl (Or.inl rfl) (pe_un un_neg (pv 3)))) pss_nil)
      (pss_cons (ps_fld (pv 0) (pe_op op_fdivX (pv 1) (pv 3)) rfl)
      (pss_one (ps_fld (pv 0) (pe_op op_fdivX (pv 2) (pv 3)) rfl)))))), ?_⟩
    refine ⟨_, rfl, t, i, b, rfl, kt, _, rfl, ?_⟩
    cases hi : (i && !b) with
    | false => exact iteT ⟨_, rfl, fun d hd => e1 hi d hd⟩
    | true =>
      refine iteF ⟨_, rfl, u, j, c, rfl, ku, _, rfl, ?_⟩
      cases hj : (j && !c) with
      | false => exact iteT (iteT ⟨_, rfl, fun d hd => e2 hi hj d hd⟩)
      | true =>
        obtain ⟨m, n, rfl, rfl, hn, k0, k1⟩ := e3 hi hj
        refine iteF ⟨_, rfl, rfl, _, rfl, ?_⟩
        rw [dec_int]
        by_cases n0 : n = 0
        · rw [show (n == 0) = true from beq_iff_eq.mpr n0]
          exact iteT ⟨_, rfl, fun d hd => k0 n0 d hd⟩
        · rw [show (n == 0) = false from beq_eq_false_iff_ne.mpr n0]
          refine iteF ⟨_, rfl, _, rfl, m, n, rfl, ?_⟩
          refine ⟨fun σ' H' => H' = H ∧ σ' = [some (.ref p), some (.int m), some (.int n), some (.int (cmn m n))], ?_, ?_⟩
          · refine ⟨_, rfl, _, _, rfl, rfl, _, rfl, ?_⟩
            refine ite2 (fun h0 => ?_) (fun h0 => ?_)
            · refine ⟨_, rfl, _, rfl, rfl, ?_⟩
              unfold cmn
              rw [if_pos (of_decide_eq_true h0)]
              rfl
            · refine ⟨rfl, ?_⟩
              unfold cmn
              rw [if_neg (fun z => h0 (decide_eq_true z))]
              rfl
          · rintro σ' H' ⟨rfl, rfl⟩
            have cn := cmn_ne (m := m) n0
            have cw := cmn_lt (m := m) n0 hn
            refine ⟨_, rfl, _, rfl, _, _, rfl, rfl, divx cn cw (by decide) (by decide), _, rfl, p, C, dx, _, rfl, hp, T.cl, T.nT, (by show 0 < 1000; decide), ?_⟩
            refine ⟨_, rfl, _, rfl, _, _, rfl, rfl, divx cn cw (by decide) (by decide), _, rfl, p, C, dx, _, rfl, upd_same, T.cl, T.nB, (by show 1 < 1000; decide), ?_⟩
            have q := k1 n0
            show Q .non _
            rw [upd_upd]
            exact q
end
/-! ### what stays -/
theorem TyOf.sm {K : PySem.W.Frag} {H H' : Hp} {v : V} {t : Value} (s : Same H H') (h : TyOf K H v t) : TyOf K H' v t := by
  cases h with
  | non => exact .non
  | bl x => exact .bl x
  | int i => exact .int i
  | str x => exact .str x
  | flt x => exact .flt x
  | lst e => exact .lst (s _ _ e)
  | frz e => exact .frz (s _ _ e)
  | tup e => exact .tup (s _ _ e)
  | dK e => exact .dK (s _ _ e)
  | dT e => exact .dT (s _ _ e)
  | ins e cl ha hn htk hm => exact .ins (s _ _ e) cl ha hn htk hm
theorem TyX.sm {K : PySem.W.Frag} {H H' : Hp} {v : V} {t : Value} (s : Same H H') (h : TyX K H v t) : TyX K H' v t := by
  cases h with
  | base b => exact .base (TyOf.sm s b)
  | byt b => exact .byt b
  | set e => exact .set (s _ _ e)
  | kList e c => exact .kList e c
  | kTuple e c => exact .kTuple e c
  | kDict e c => exact .kDict e c
  | fTuple e => exact .fTuple (s _ _ e)
  | fDict e => exact .fDict (s _ _ e)
theorem Kd.sm {K : PySem.W.Frag} {H H' : Hp} {v : V} {i b : Bool} (s : Same H H') : Kd K H v i b → Kd K H' v i b := fun ⟨T, ty, k1, k2⟩ => ⟨T, TyX.sm s ty, k1, k2⟩
theorem same_upd {H : Hp} {a : Addr} {o : HO} (h : H a = none) : Same H (upd H a o) := fun b u e => by
  rw [upd_ne (ne_of_none e h)]
  exact e
theorem fresh_of {H : Hp} {a b : Addr} {u : HO} (h : H a = none) (e : H b = some u) : b ≠ a := fun z => by rw [z, h] at e; cases e
/-! ### the law's own numbers -/
def est (s : Nat × Nat) : Nat × Nat := if 0 < s.2 then (s.2, s.1 % s.2) else s
def eus : Nat → Nat × Nat → Nat × Nat
  | 0, s => s
  | k + 1, s => est (eus k s)
theorem est_gcd (s : Nat × Nat) : Nat.gcd (est s).1 (est s).2 = Nat.gcd s.1 s.2 := by
  unfold est
  split
  · show Nat.gcd s.2 (s.1 % s.2) = Nat.gcd s.1 s.2
    rw [Nat.gcd_comm s.1 s.2, Nat.gcd_rec s.2 s.1, Nat.gcd_comm]
  · rfl
theorem eus_gcd (s : Nat × Nat) : ∀ k, Nat.gcd (eus k s).1 (eus k s).2 = Nat.gcd s.1 s.2
  | 0 => rfl
  | k + 1 => (est_gcd _).trans (eus_gcd s k)
theorem est_half (s : Nat × Nat) : (est (est s)).2 ≤ s.2 / 2 := by
  obtain ⟨a, b⟩ := s
  by_cases hb : 0 < b
  · have e : est (a, b) = (b, a % b) := if_pos hb
    rw [e]
    have hr : a % b < b := Nat.mod_lt _ hb
    by_cases h0 : 0 < a % b
    · have e2 : est (b, a % b) = (a % b, b % (a % b)) := if_pos h0
      rw [e2]
      show b % (a % b) ≤ b / 2
      generalize a % b = r at *
      have h1 : b % r < r := Nat.mod_lt _ h0
      have h2 : b % r + r ≤ b := by
        have e4 := Nat.div_add_mod b r
        have e5 : 1 ≤ b / r := (Nat.one_le_div_iff h0).mpr (Nat.le_of_lt hr)
        have e6 : r * 1 ≤ r * (b / r) := Nat.mul_le_mul_left r e5
        omega
      omega
    · have e2 : est (b, a % b) = (b, a % b) := if_neg h0
      rw [e2]
      show a % b ≤ b / 2
      omega
  · have e : est (a, b) = (a, b) := if_neg hb
    rw [e, e]
    show b ≤ b / 2
    omega
theorem eus_small (s : Nat × Nat) : ∀ k, (eus (2 * k) s).2 ≤ s.2 / 2 ^ k
  | 0 => by show s.2 ≤ s.2 / 1; omega
  | k + 1 => by
    have h := eus_small s k
    have e : eus (2 * (k + 1)) s = est (est (eus (2 * k) s)) := rfl
    rw [e, Nat.pow_succ, ← Nat.div_div_eq_div_mul]
    exact Nat.le_trans (est_half _) (Nat.div_le_div_right h)
theorem eus_end (s : Nat × Nat) (h : s.2 < 2 ^ 200) : (eus 400 s).1 = Nat.gcd s.1 s.2 := by
  have h1 := eus_small s 200
  have h2 : s.2 / 2 ^ 200 = 0 := Nat.div_eq_of_lt h
  have h3 : (eus 400 s).2 = 0 := by
    have e : (eus 400 s).2 ≤ s.2 / 2 ^ 200 := h1
    omega
  have g := eus_gcd s 400
  rw [h3, Nat.gcd_zero_right] at g
  exact g
def spIs (C : Addr) : Sp := fun vs H Q _ => ∃ (p q dx : Addr) (a b c d : Int), vs = [.ref p, .ref q] ∧ H p = some (.ins C dx (rfl2 a b)) ∧ H q = some (.tup [.int c, .int d]) ∧ Q (.bl (decide (a = c) && decide (b = d))) H
def spLowest : Sp := fun vs H Q _ => ∃ (m n : Int), vs = [.int m, .int n] ∧ n ≠ 0 ∧ n.natAbs < 2 ^ 200 ∧ ∀ q, H q = none → Q (.ref q) (upd H q (.tup [.int (m.fdiv (cmn m n)), .int (n.fdiv (cmn m n))]))
section
variable {P : Program} {w : World} {K : PySem.W.Frag} {mg : Str → Option Value} {base : Heap}
abbrev sInt : Stmt := top 17
theorem scInt : FnScope ["_law_actual"] ["_law_actual"] (defScope sInt) := ⟨rfl, rfl, rfl, by decide +kernel, rfl, by decide +kernel, by decide +kernel⟩
theorem ok_int {f : Addr} {fd : FuncData} (F : Fun K "_law_int" "_law_int" sInt f fd) (mIs : mg "isinstance" = none) (mI : mg "int" = none) (mB : mg "bool" = none) : FnOk P w K mg base CX0 1 f fd ["_law_actual"] (spWhole K) := by
  refine F.ok scInt (fun vs H Q E h => ?_) (fun cdv A outer s H vs Q E hr h => ?_)
  · obtain ⟨v, i, b, rfl, _⟩ := h
    rfl
  · obtain ⟨v, i, b, rfl, ⟨T, ty, k1, k2⟩, k⟩ := h
    refine ⟨_, pss_one (ps_ret (pe_and (pe_callB call_isi (by rfl) mIs (by decide +kernel) (pa_cons (pv 0) (pa_cons (pe_bltn (v := .ty "int") (by rfl) mI (by decide +kernel) rfl) pa_nil)))
      (pe_one (pe_not (pe_callB call_isi (by rfl) mIs (by decide +kernel) (pa_cons (pv 0) (pa_cons (pe_bltn (v := .ty "bool") (by rfl) mB (by decide +kernel) rfl) pa_nil))))))), ?_⟩
    refine ⟨_, rfl, _, _, _, _, i, rfl, .ty "int", ty, kit_ty k1, i, rfl, ?_⟩
    cases i with
    | false => exact iteF k
    | true =>
      refine iteT ?_
      exact ⟨_, rfl, _, _, _, _, b, rfl, .ty "bool", ty, kit_ty k2, b, rfl, k⟩
abbrev sIs : Stmt := top 18
theorem scIs : FnScope ["_law_actual", "_law_due"] ["_law_actual", "_law_due"] (defScope sIs) := ⟨rfl, rfl, rfl, by decide +kernel, rfl, by decide +kernel, by decide +kernel⟩
theorem ok_is {f C CI fE fW fN : Addr} {fd fdN : FuncData} (F : Fun K "_law_is" "_law_is" sIs f fd) (T : TxR K mg C CI fE fW) (IC : C8.InsC K C) (mIs : mg "isinstance" = none)
    (GN : FnOk P w K mg base CX0 1 fN fdN ["_law_actual"] (spWhole K)) (bN : Binds K fdN ["_law_actual"] []) (mN : mg "_law_int" = some (.ref fN)) (kN : PySem.W.keepIn K (.ref fN) = true) : FnOk P w K mg base CX0 2 f fd ["_law_actual", "_law_due"] (spIs C) := by
  refine F.ok scIs (fun vs H Q E h => ?_) (fun cdv A outer s H vs Q E hr h => ?_)
  · obtain ⟨p, q, dx, a, b, c, d, rfl, _⟩ := h
    rfl
  · obtain ⟨p, q, dx, a, b, c, d, rfl, hp, hq, k⟩ := h
    refine ⟨_, pss_cons (ps_if (PW.pt (pw_or (pt_not (pt_val (pe_callB (C8.call_isC IC) (by rfl) mIs (by decide +kernel) (pa_cons (pv 0) (pa_cons (pe_glob (v := .ref C) (by rfl) T.mgC rfl) pa_nil)))))
        (pw_or (pt_not (pt_val (pe_call GN hr (by rfl) mN kN bN .nil pass0 (pa_cons (pe_fld (pv 0) rfl) pa_nil))))
        (pw_or1 (pt_not (pt_val (pe_call GN hr (by rfl) mN kN bN .nil pass0 (pa_cons (pe_fld (pv 0) rfl) pa_nil)))))))) (pss_one (ps_ret pe_bl)) pss_nil)
      (pss_one (ps_ret (pe_and (pe_cmpR op_eq (pe_fld (pv 0) rfl) (pe_ix ix_tup (pv 1) pe_int (fun _ _ => rfl)) (nomark _)) (pe_one (pe_cmpR op_eq (pe_fld (pv 0) rfl) (pe_ix ix_tup (pv 1) pe_int (fun _ _ => rfl)) (nomark _)))))), ?_⟩
    refine ⟨_, rfl, p, dx, _, rfl, hp, true, rfl, iteF ?_⟩
    refine ⟨_, rfl, p, C, dx, _, _, rfl, hp, T.cl, T.nT, rfl2_top _ _, _, _, _, rfl, Kd.int, _, rfl, iteF ?_⟩
    refine ⟨_, rfl, p, C, dx, _, _, rfl, hp, T.cl, T.nB, rfl2_bottom _ _, _, _, _, rfl, Kd.int, _, rfl, iteF ?_⟩
    refine ⟨_, rfl, p, C, dx, _, _, rfl, hp, T.cl, T.nT, rfl2_top _ _, _, rfl, q, _, _, _, rfl, rfl, SqT.of hq, rfl, rfl, _, rfl, ?_⟩
    rw [dec_int]
    by_cases e : a = c
    · rw [show (a == c) = true from beq_iff_eq.mpr e]
      rw [decide_eq_true e] at k
      refine iteT ⟨_, rfl, p, C, dx, _, _, rfl, hp, T.cl, T.nB, rfl2_bottom _ _, _, rfl, q, _, _, _, rfl, rfl, SqT.of hq, rfl, rfl, ?_⟩
      rw [dec_int]
      exact k
    · rw [show (a == c) = false from beq_eq_false_iff_ne.mpr e]
      rw [decide_eq_false e] at k
      exact iteF k
abbrev sLowest : Stmt := top 19
theorem scLowest : FnScope ["_law_top", "_law_bottom", "_law_left", "_law_right", "_law_k", "_law_rest"] ["_law_top", "_law_bottom"] (defScope sLowest) := ⟨rfl, rfl, rfl, by decide +kernel, rfl, by decide +kernel, by decide +kernel⟩
theorem abs_nat (i : Int) : (if i < 0 then -i else i) = ((i.natAbs : Nat) : Int) := by
  split <;> omega
theorem ok_lowest {f : Addr} {fd : FuncData} (F : Fun K "_law_lowest" "_law_lowest" sLowest f fd) (mA : mg "abs" = none) (mR : mg "range" = none) : FnOk P w K mg base CX0 1 f fd ["_law_top", "_law_bottom"] spLowest := by
  refine F.ok scLowest (fun vs H Q E h => ?_) (fun cdv A outer s H vs Q E hr h => ?_)
  · obtain ⟨m, n, rfl, _⟩ := h
    rfl
  · obtain ⟨m, n, rfl, n0, hn, k⟩ := h
    refine ⟨_, pss_cons (ps_set (i := 2) scLowest.nd rfl (Or.inl rfl) (pe_callB call_abs (by rfl) mA (by decide +kernel) (pa_cons (pv 0) pa_nil)))
      (pss_cons (ps_set (i := 3) scLowest.nd rfl (Or.inl rfl) (pe_callB call_abs (by rfl) mA (by decide +kernel) (pa_cons (pv 1) pa_nil)))
      (pss_cons (ps_for PassesOwn.never rfl (pi_range1 (by rfl) mR (pa_cons pe_int pa_nil)) (pg_name (i := 4) scLowest.nd rfl (Or.inl rfl))
        (pss_one (ps_if (pt_cmpR op_gt (pv 3) pe_int (nomark _)) (pss_cons (ps_set (i := 5) scLowest.nd rfl (Or.inl rfl) (pe_op op_modN (pv 2) (pv 3)))
          (pss_cons (ps_set (i := 2) scLowest.nd rfl (Or.inl rfl) (pv 3)) (pss_one (ps_set (i := 3) scLowest.nd rfl (Or.inl rfl) (pv 5))))) pss_nil)))
      (C8.pss_cut (ps_if (pt_cmpR op_lt (pv 1) pe_int (nomark _)) (pss_one (ps_set (i := 2) scLowest.nd rfl (Or.inl rfl) (pe_op op_sub pe_int (pv 2)))) pss_nil)
      (pss_one (ps_ret (pe_tup (pa_cons (pe_op op_fdivX (pv 0) (pv 2)) (pa_cons (pe_op op_fdivX (pv 1) (pv 2)) pa_nil)))))))), ?_⟩
    refine ⟨_, rfl, m, rfl, _, rfl, n, rfl, ?_⟩
    rw [abs_nat, abs_nat]
    refine ⟨400, rfl, by decide, by decide, for_range (lo := 0) (n := 400) (fun i σ H' => H' = H ∧ ∃ v u : Option V, σ = [some (.int m), some (.int n), some (.int ((eus i (m.natAbs, n.natAbs)).1 : Int)), some (.int ((eus i (m.natAbs, n.natAbs)).2 : Int)), v, u]) ?_ ?_ ?_⟩
    · exact ⟨rfl, none, none, rfl⟩
    · rintro i σ H' hi ⟨rfl, v, u, rfl⟩
      have e : eus (i + 1) (m.natAbs, n.natAbs) = est (eus i (m.natAbs, n.natAbs)) := rfl
      refine ⟨_, rfl, _, _, rfl, rfl, _, rfl, ?_⟩
      refine ite2 (fun h0 => ?_) (fun h0 => ?_)
      · have h1 := of_decide_eq_true h0
        have e1 : est (eus i (m.natAbs, n.natAbs)) = ((eus i (m.natAbs, n.natAbs)).2, (eus i (m.natAbs, n.natAbs)).1 % (eus i (m.natAbs, n.natAbs)).2) := if_pos (by omega)
        refine ⟨_, rfl, _, rfl, _, _, rfl, rfl, by omega, _, rfl, _, rfl, rfl, some (.int (0 + (i : Int))), some (.int (((eus i (m.natAbs, n.natAbs)).1 : Int).fmod ((eus i (m.natAbs, n.natAbs)).2 : Int))), ?_⟩
        have fm : ((eus i (m.natAbs, n.natAbs)).1 : Int).fmod ((eus i (m.natAbs, n.natAbs)).2 : Int) = (((eus i (m.natAbs, n.natAbs)).1 % (eus i (m.natAbs, n.natAbs)).2 : Nat) : Int) := by
          rw [Int.fmod_eq_emod_of_nonneg _ (by omega)]
          rfl
        rw [e, e1]
        show [some (V.int m), some (V.int n), some (V.int ((eus i (m.natAbs, n.natAbs)).2 : Int)), some (V.int (((eus i (m.natAbs, n.natAbs)).1 : Int).fmod ((eus i (m.natAbs, n.natAbs)).2 : Int))), some (V.int (0 + (i : Int))), some (V.int (((eus i (m.natAbs, n.natAbs)).1 : Int).fmod ((eus i (m.natAbs, n.natAbs)).2 : Int)))] = _
        rw [fm]
      · have h1 : ¬ (0 : Int) < ((eus i (m.natAbs, n.natAbs)).2 : Int) := fun z => h0 (decide_eq_true z)
        have e1 : est (eus i (m.natAbs, n.natAbs)) = eus i (m.natAbs, n.natAbs) := if_neg (by omega)
        refine ⟨rfl, some (.int (0 + (i : Int))), u, ?_⟩
        rw [e, e1]
        rfl
    · rintro σ H' ⟨rfl, v, u, rfl⟩
      rw [eus_end _ hn]
      refine ⟨fun σ' H'' => H'' = H' ∧ σ' = [some (.int m), some (.int n), some (.int (cmn m n)), some (.int ((eus 400 (m.natAbs, n.natAbs)).2 : Int)), v, u], ?_, ?_⟩
      · refine ⟨_, rfl, _, _, rfl, rfl, _, rfl, ?_⟩
        refine ite2 (fun h0 => ?_) (fun h0 => ?_)
        · refine ⟨_, rfl, _, _, rfl, rfl, rfl, ?_⟩
          unfold cmn
          rw [if_pos (of_decide_eq_true h0), ← Int.zero_sub]
          rfl
        · refine ⟨rfl, ?_⟩
          unfold cmn
          rw [if_neg (fun z => h0 (decide_eq_true z))]
      · rintro σ' H'' ⟨rfl, rfl⟩
        have cn := cmn_ne (m := m) n0
        have cw := cmn_lt (m := m) n0 hn
        refine ⟨_, rfl, _, rfl, _, _, rfl, rfl, divx cn cw (by decide) (by decide), _, rfl, _, rfl, _, _, rfl, rfl, divx cn cw (by decide) (by decide), by show 2 ≤ sizeLine; decide, fun q hq => k q hq⟩
end
/-! ### the refusal, caught -/
/-- isinstance(e, c), e the exception that the suite holds -/
def rIsX (K : PySem.W.Frag) (D a : Addr) (cls : Value) (d : Option Addr) : List V → Hp → VK → Prop := fun xs H Q => ∃ (c : V) (cv : Value) (b : Bool) (dd : Addr) (fs : List (Str × V)), xs = [.ref a, c] ∧ cls = .ref D ∧ d = some dd ∧ H dd = some (.xd fs) ∧ ClsV c cv ∧ PySem.W.kitOne K (.ref D) cv = some b ∧ Q (.bl b) H
theorem call_isX {X : Cx} {a D : Addr} {cls : Value} {d : Option Addr} {oe : Obj} {pn : List (Addr × Obj)} (C : ExcC X.K D) (hz : Zc cls d oe) (hf : ∃ vs, oe.data = .fields vs) : CallR (X.suite a ((a, oe) :: pn)) (.builtin "isinstance") (rIsX X.K D a cls d) := by
  intro pins s σ H xs us Q I r h
  obtain ⟨c, cv, b, dd, fs, rfl, ec, ed, hdd, hcv, e, q⟩ := h
  subst ec
  subst ed
  cases r with
  | cons rx rr =>
    cases rr with
    | cons rt rr =>
      cases rr
      cases rx
      have ec := hcv.eq rt
      subst ec
      obtain ⟨hget, _⟩ := I.pin (a, oe) (List.mem_append.mpr (.inl List.mem_cons_self))
      obtain ⟨vs, hv⟩ := hf
      have hcl : (PySem.W.clsIn X.K D).isSome = true := by
        obtain ⟨cd, hc, _⟩ := PySem.W.any_some C.hd
        rw [hc]
        rfl
      have hx : ObjOk X.prog X.w H s.heap dd (.xd fs) := I.hok dd _ hdd
      obtain ⟨mA, hns, _⟩ := hx
      obtain ⟨od, ho, _⟩ := lookIn_ns hns
      have J : PySem.W.InstAt s.heap a oe D (some od) := by
        obtain ⟨oc, odd, oda, osl⟩ := oe
        obtain ⟨h1, h2⟩ := hz
        dsimp only at h1 h2 hv
        subst h1 h2 hv
        exact ⟨hget, rfl, rfl, ho⟩
      exact PySem.W.kia_one (PySem.W.kitx_exc hcl C.hg C.hk C.hs C.ha C.hn C.ht C.hm) I.kIn J e (fun z => nomatch z) fun tk => ⟨.bl b, H, I.kept (t' := tk) fun _ _ z => z, rfl, q⟩
/-- what is asked of the text around the errors -/
structure TxE (K : PySem.W.Frag) (mg : Str → Option Value) (CF CI CG : Addr) : Prop where
  gF : mg "FontError" = some (.ref CF)
  te : PySem.W.exmOne K (.ref CI) (.ref CF) = some true
  ex : ExcC K CI
  xf : XfC K CI
  hno : PySem.W.findIn K (.ref CI) "value" = some none
  gG : mg "InvalidGlyph" = some (.ref CG)
  k1 : PySem.W.kitOne K (.ref CI) (.ref CI) = some true
  k2 : PySem.W.kitOne K (.ref CI) (.type "ValueError") = some true
  k3 : PySem.W.kitOne K (.ref CI) (.ref CG) = some false
  mV : mg "ValueError" = none
  mIs : mg "isinstance" = none
def spRefusal (K : PySem.W.Frag) : Sp := fun vs H Q _ => ∃ (t u : V) (i b j c : Bool) (ans : List V), vs = [t, u] ∧ Kd K H t i b ∧ Kd K H u j c ∧ ((i && !b) = false → ans = [t]) ∧ ((i && !b) = true → (j && !c) = false → ans = [u]) ∧
  ((i && !b) = true → (j && !c) = true → ∃ m n : Int, t = .int m ∧ u = .int n ∧ n.natAbs < 2 ^ 900 ∧ (n = 0 → ans = [u]) ∧ (n ≠ 0 → ans = [])) ∧ ∀ l H', Same H H' → H' l = some (.lst ans) → H l = none → Q (.ref l) H'
section
variable {P : Program} {w : World} {K : PySem.W.Frag} {mg : Str → Option Value} {base : Heap}
abbrev sRefusal : Stmt := top 20
theorem scRefusal : FnScope ["_law_top", "_law_bottom", "e"] ["_law_top", "_law_bottom"] (defScope sRefusal) := ⟨rfl, rfl, rfl, by decide +kernel, rfl, by decide +kernel, by decide +kernel⟩
def t_suite (K : PySem.W.Frag) (CI CG : Addr) : Addr → Value → Option Addr → TS := fun a cls d =>
  tIfS (tAnd (tB (tCB (rIsX K CI a cls d) (tCons (tVar 2) (tCons (tC (.ref CI)) tNil)))) (tAnd (tB (tCB (rIsX K CI a cls d) (tCons (tVar 2) (tCons (tC (.ty "ValueError")) tNil)))) (tNot (tB (tCB (rIsX K CI a cls d) (tCons (tVar 2) (tCons (tC (.ref CG)) tNil)))))))
    (tRet (tLst (tCons (tXf a cls d CI "value" (tVar 2)) tNil))) tNext
theorem ok_refusal {f C CI CF CG fE fW fR : Addr} {fd fdR : FuncData} (F : Fun K "_law_refusal" "_law_refusal" sRefusal f fd) (T : TxR K mg C CI fE fW) (TE : TxE K mg CF CI CG) (M : Mk K C fR)
    (GR : FnOk P w K mg base (L2.CX P w) 3 fR fdR ["self", "top", "bottom"] (spInit K C CI)) (bR : Binds K fdR ["self", "top", "bottom"] []) : FnOk P w K mg base CX0 5 f fd ["_law_top", "_law_bottom"] (spRefusal K) := by
  refine F.ok scRefusal (fun vs H Q E h => ?_) (fun cdv A outer s H vs Q E hr h => ?_)
  · obtain ⟨t, u, i, b, j, c, ans, rfl, _⟩ := h
    rfl
  · obtain ⟨t, u, i, b, j, c, ans, rfl, kt, ku, e1, e2, e3, k⟩ := h
    refine ⟨_, pss_cons (ps_try_as (i := 2) (tb := fun W => tDrop (tMakeS C (spInit K C CI) [] (WE W) (tCons (tVar 0) (tCons (tVar 1) tNil)))) (ts := t_suite K CI CG) (Wout := fun _ _ _ _ => False) rfl rfl scRefusal.nd rfl rfl ⟨rfl, by decide, Or.inl TE.gF⟩ takes0
          (fun W pn xe tk _ => pss_one (ps_expr (by exact (pe_makeS M GR hr rfl T.mgC bR .nil (fun σ => passAt tk σ) (by exact (pa_cons (pv 0) (pa_cons (pv 1) pa_nil)))))))
          (fun a oe cls d pn hz hf => pss_one (by exact (ps_if (PW.pt (pw_and (pt_val (pe_callB (call_isX TE.ex hz hf) (by rfl) TE.mIs (by decide +kernel) (pa_cons (pv 2) (pa_cons (pe_glob (v := .ref CI) (by rfl) T.err.g rfl) pa_nil))))
            (pw_and (pt_val (pe_callB (call_isX TE.ex hz hf) (by rfl) TE.mIs (by decide +kernel) (pa_cons (pv 2) (pa_cons (pe_bltn (v := .ty "ValueError") (by rfl) TE.mV (by decide +kernel) rfl) pa_nil))))
            (pw_and1 (pt_not (pt_val (pe_callB (call_isX TE.ex hz hf) (by rfl) TE.mIs (by decide +kernel) (pa_cons (pv 2) (pa_cons (pe_glob (v := .ref CG) (by rfl) TE.gG rfl) pa_nil))))))))) (pss_one (ps_ret (pe_lst (pa_cons (pe_xf TE.xf TE.hno hz hf (pv 2)) pa_nil)))) pss_nil)))
        ) (pss_one (ps_ret (pe_lst pa_nil))), ?_⟩
    refine ⟨_, rfl, _, rfl, fun x dx nx ndx nex => ?_⟩
    have s0 : Same H (upd (upd H dx (.own x)) x (.ins C dx [])) := (same_upd ndx).trans (same_upd (by rw [upd_ne (Ne.symm nex)]; exact nx))
    -- what a raise leads to
    have caught : ∀ (y : V), ans = [y] → ∀ d, (upd (upd H dx (.own x)) x (.ins C dx [])) d = none → WE (wAs K (.ref CF) 2 (t_suite K CI CG) (fun _ _ _ _ => False) { nx := fun σ H => tRet (tLst tNil) { nx := fun _ H' => Q .non H', rt := Q } σ H, rt := Q }) (start ["_law_top", "_law_bottom", "e"] [t, u]) (.ref CI) (some d) (upd (upd (upd H dx (.own x)) x (.ins C dx [])) d (.xd [("value", y)])) := by
      intro y ey d hd
      refine ⟨true, TE.te, fun _ a ha => ?_, fun q => Bool.noConfusion q⟩
      refine ⟨_, rfl, _, _, _, d, _, rfl, rfl, rfl, upd_same, .own CI, TE.k1, true, rfl, iteT ?_⟩
      refine ⟨_, rfl, _, _, _, d, _, rfl, rfl, rfl, upd_same, .ty "ValueError", TE.k2, true, rfl, iteT ?_⟩
      refine ⟨_, rfl, _, _, _, d, _, rfl, rfl, rfl, upd_same, .own CG, TE.k3, false, rfl, iteT ?_⟩
      refine ⟨_, rfl, rfl, rfl, d, _, y, rfl, upd_same, by simp [List.lookup], by show 1 ≤ sizeLine; decide, fun l hl => ?_⟩
      have s1 := s0.trans (same_upd (o := .xd [(("value" : Str), y)]) hd)
      refine k l _ (s1.trans (same_upd hl)) (by rw [ey]; exact upd_same) (s1.free hl)
    refine ⟨x, dx, t, u, i, b, j, c, rfl, upd_same, kt.sm s0, ku.sm s0, fun hi d hd => caught t (e1 hi) d hd, fun hi hj d hd => caught u (e2 hi hj) d hd, fun hi hj => ?_⟩
    obtain ⟨m, n, rfl, rfl, hn, a0, a1⟩ := e3 hi hj
    refine ⟨m, n, rfl, rfl, hn, fun n0 d hd => caught _ (a0 n0) d hd, fun n0 => ⟨rfl, ?_⟩⟩
    refine ⟨by show 0 ≤ sizeLine; decide, fun l hl => ?_⟩
    have s1 : Same H (upd (upd (upd H dx (.own x)) x (.ins C dx [])) x (.ins C dx (rfl2 (m.fdiv (cmn m n)) (n.fdiv (cmn m n))))) := by
      rw [upd_upd]
      exact (same_upd ndx).trans (same_upd (by rw [upd_ne (Ne.symm nex)]; exact nx))
    exact k l _ (s1.trans (same_upd hl)) (by rw [a1 n0]; exact upd_same) (s1.free hl)
end
/-! ### odd values are refused -/
/-- v is no int, and equal to itself -/
def Odd (K : PySem.W.Frag) (H : Hp) (v : V) : Prop := (∃ i b : Bool, (i && !b) = false ∧ ∀ H', Same H H' → Kd K H' v i b) ∧ ∃ d : PyData, SeqAt.shaped d = true ∧ ∀ H', Same H H' → Dp K H' v d
def spOdd (K : PySem.W.Frag) : Sp := fun vs H Q _ => ∃ v : V, vs = [v] ∧ Odd K H v ∧ ∀ H', Same H H' → Q (.bl true) H'
theorem eqv_shaped {d : PyData} (h : SeqAt.shaped d = true) : PyData.eqv d d = true := SeqAt.eqv_refl d (SeqAt.canLay_of_shaped h)
theorem get3 {α : Type} {a b c x : α} {i : Nat} (h : [a, b, c][i]? = some x) : x = a ∨ x = b ∨ x = c := by
  match i, h with
  | 0, h => exact .inl (Option.some.inj h).symm
  | 1, h => exact .inr (.inl (Option.some.inj h).symm)
  | 2, h => exact .inr (.inr (Option.some.inj h).symm)
section
variable {P : Program} {w : World} {K : PySem.W.Frag} {mg : Str → Option Value} {base : Heap}
abbrev sOdd : Stmt := top 21
theorem scOdd : FnScope ["_law_odd", "_law_told"] ["_law_odd"] (defScope sOdd) := ⟨rfl, rfl, rfl, by decide +kernel, rfl, by decide +kernel, by decide +kernel⟩
theorem ok_odd {f fR : Addr} {fd fdR : FuncData} (F : Fun K "_law_odd_refused" "_law_odd_refused" sOdd f fd) (GR : FnOk P w K mg base CX0 5 fR fdR ["_law_top", "_law_bottom"] (spRefusal K)) (bR : Binds K fdR ["_law_top", "_law_bottom"] []) (mR : mg "_law_refusal" = some (.ref fR)) (kR : PySem.W.keepIn K (.ref fR) = true)
    (mIs : mg "isinstance" = none) (mB : mg "bool" = none) (mL : mg "len" = none) : FnOk P w K mg base CX0 6 f fd ["_law_odd"] (spOdd K) := by
  refine F.ok scOdd (fun vs H Q E h => ?_) (fun cdv A outer s H vs Q E hr h => ?_)
  · obtain ⟨t, rfl, _⟩ := h
    rfl
  · obtain ⟨v, rfl, ⟨⟨i, b, hib, hk⟩, d, sd, hd⟩, k⟩ := h
    refine ⟨_, pss_cons (ps_for PassesOwn.never rfl (pi_list (pe_lst (pa_cons (pe_call GR hr (by rfl) mR kR bR .nil pass0 (pa_cons (pv 0) (pa_cons pe_int pa_nil))) (pa_cons (pe_call GR hr (by rfl) mR kR bR .nil pass0 (pa_cons pe_int (pa_cons (pv 0) pa_nil))) (pa_cons (pe_call GR hr (by rfl) mR kR bR .nil pass0 (pa_cons (pv 0) (pa_cons pe_int pa_nil))) pa_nil)))))
        (pg_name (i := 1) scOdd.nd rfl (Or.inl rfl))
        (pss_one (ps_if (PW.pt (pw_or (pt_cmpR op_ne (pe_callB call_len_seq (by rfl) mL PySem.boot_len (pa_cons (pv 1) pa_nil)) pe_int (nomark _))
          (pw_or (pt_cmpR op_ne (pe_callB call_isi (by rfl) mIs (by decide +kernel) (pa_cons (pv 0) (pa_cons (pe_bltn (v := .ty "bool") (by rfl) mB (by decide +kernel) rfl) pa_nil))) (pe_callB call_isi (by rfl) mIs (by decide +kernel) (pa_cons (pe_ix ix_list (pv 1) pe_int (fun _ _ => rfl)) (pa_cons (pe_bltn (v := .ty "bool") (by rfl) mB (by decide +kernel) rfl) pa_nil))) (nomark _))
          (pw_or1 (pt_cmpR (op_neD hr.units) (pe_ix ix_list (pv 1) pe_int (fun _ _ => rfl)) (pv 0) (nomark _)))))) (pss_one (ps_ret pe_bl)) pss_nil)))
      (pss_one (ps_ret pe_bl)), ?_⟩
    have hn : ∀ (q : Int), q.natAbs < 2 ^ 900 → True := fun _ _ => trivial
    refine ⟨_, rfl, v, .int 1, i, b, true, false, [v], rfl, hk _ (Same.refl _), Kd.int, fun _ => rfl, fun h => (by rw [hib] at h; cases h), fun h => (by rw [hib] at h; cases h), fun l1 H1 s1 e1 n1 => ?_⟩
    refine ⟨_, rfl, .int 3, v, true, false, i, b, [v], rfl, Kd.int, hk _ s1, fun h => (by cases h), fun _ _ => rfl, fun _ h => (by rw [hib] at h; cases h), fun l2 H2 s2 e2 n2 => ?_⟩
    refine ⟨_, rfl, v, .int 0, i, b, true, false, [v], rfl, hk _ (s1.trans s2), Kd.int, fun _ => rfl, fun h => (by rw [hib] at h; cases h), fun h => (by rw [hib] at h; cases h), fun l3 H3 s3 e3 n3 => ?_⟩
    refine ⟨by show 3 ≤ sizeLine; decide, fun L hL => ⟨L, rfl, ⟨_, SqL.of upd_same⟩, for_list (K := K) (a := L) (xs := [.ref l1, .ref l2, .ref l3]) (fun i σ H' => ∃ u : Option V, σ = [some v, u] ∧ H' = upd H3 L (.lst [.ref l1, .ref l2, .ref l3])) ⟨none, rfl, rfl⟩ (fun i σ H' _ ⟨_, _, e⟩ => by rw [e]; exact SqL.of upd_same) ?_ ?_⟩⟩
    · rintro j y σ H' hj ⟨u, rfl, rfl⟩
      have s4 : Same H3 (upd H3 L (.lst [.ref l1, .ref l2, .ref l3])) := same_upd hL
      have sA : Same H (upd H3 L (.lst [.ref l1, .ref l2, .ref l3])) := ((s1.trans s2).trans s3).trans s4
      obtain ⟨l, rfl, hl⟩ : ∃ l, y = V.ref l ∧ upd H3 L (.lst [.ref l1, .ref l2, .ref l3]) l = some (.lst [v]) := by
        rcases get3 hj with e | e | e
        · exact ⟨l1, e, s4 _ _ (s3 _ _ (s2 _ _ e1))⟩
        · exact ⟨l2, e, s4 _ _ (s3 _ _ e2)⟩
        · exact ⟨l3, e, s4 _ _ e3⟩
      obtain ⟨T, ty, k1, k2⟩ := hk _ sA
      refine ⟨_, rfl, l, _, rfl, .inl (SqL.of hl), rfl, _, rfl, ?_⟩
      rw [dec_int]
      refine iteF ⟨_, rfl, _, _, _, _, b, rfl, .ty "bool", ty, kit_ty k2, _, rfl, l, _, _, _, rfl, rfl, SqL.of hl, rfl, _, _, _, _, b, rfl, .ty "bool", ty, kit_ty k2, rfl, _, rfl, ?_⟩
      rw [dec_bl, show (b == b) = true from by cases b <;> rfl]
      refine iteF ⟨_, rfl, l, _, _, _, rfl, rfl, SqL.of hl, rfl, _, rfl, d, d, hd _ sA, hd _ sA, sd, sd, _, rfl, ?_⟩
      rw [eqv_shaped sd]
      exact iteF ⟨_, rfl, rfl⟩
    · rintro σ H' ⟨u, rfl, rfl⟩
      exact k _ (((s1.trans s2).trans s3).trans (same_upd hL))
end
/-! ### what the laws of ratios share -/
structure At (K : PySem.W.Frag) (mg : Str → Option Value) (x : Str) (f : Addr) : Prop where
  g : mg x = some (.ref f)
  k : PySem.W.keepIn K (.ref f) = true
theorem BagAt.sm {H H' : Hp} {b : Addr} (s : Same H H') : BagAt H b → BagAt H' b := fun ⟨l, ns, p, q, r, c, h1, h2, h3⟩ => ⟨l, ns, p, q, r, c, s _ _ h1, s _ _ h2, h3⟩
theorem BagAt.ne {H : Hp} {a b : Addr} : BagAt H b → H a = none → a ≠ b := fun ⟨l, ns, p, q, r, c, h1, _⟩ h z => by rw [z, h1] at h; cases h
theorem atI_in {α : Type} {xs : List α} {d : Int} (h0 : 0 ≤ d) (h1 : d < (xs.length : Int)) : ∃ v, atI xs d = some v ∧ v ∈ xs := by
  obtain ⟨m, rfl⟩ : ∃ m : Nat, d = (m : Int) := ⟨d.toNat, by omega⟩
  have hm : m < xs.length := by omega
  exact ⟨xs[m], atI_nat (List.getElem?_eq_getElem hm), List.getElem_mem hm⟩
theorem rd_make {K : PySem.W.Frag} {C CI : Addr} {H : Hp} {m n : Int} {R : Hp → Prop} {E : XK} {x dx : Addr} {vs : List V} (n0 : n ≠ 0) (hn : n.natAbs < 2 ^ 900) (nx : H x = none) (ndx : H dx = none) (nex : dx ≠ x) (ev : vs = [.ref x, .int m, .int n])
    (k : ∀ H', Same H H' → H' x = some (.ins C dx (rfl2 (m.fdiv (cmn m n)) (n.fdiv (cmn m n)))) → R H') :
    spInit K C CI vs (upd (upd H dx (.own x)) x (.ins C dx [])) (fun v H2 => v = .non ∧ R H2) E := by
  subst ev
  refine ⟨x, dx, .int m, .int n, true, false, true, false, rfl, upd_same, Kd.int, Kd.int, fun h => (by cases h), fun _ h => (by cases h), fun _ _ => ⟨m, n, rfl, rfl, hn, fun h => absurd h n0, fun _ => ⟨rfl, ?_⟩⟩⟩
  refine k _ ?_ upd_same
  rw [upd_upd]
  exact (same_upd ndx).trans (same_upd (by rw [upd_ne (Ne.symm nex)]; exact nx))
theorem cmn_one (m : Int) : cmn m 1 = 1 := by
  unfold cmn
  rw [if_neg (by decide)]
  show ((Nat.gcd m.natAbs 1 : Nat) : Int) = 1
  rw [Nat.gcd_one_right]
  rfl
theorem cmn_zero {n : Int} (h : 0 < n) : cmn 0 n = n := by
  unfold cmn
  rw [if_neg (by omega)]
  show ((Nat.gcd 0 n.natAbs : Nat) : Int) = n
  rw [Nat.gcd_zero_left]
  omega
theorem cmn_mul {m n f : Int} (h : 0 < f) : cmn (m * f) (n * f) = cmn m n * f := by
  have e : ((Nat.gcd (m * f).natAbs (n * f).natAbs : Nat) : Int) = ((Nat.gcd m.natAbs n.natAbs : Nat) : Int) * f := by
    rw [Int.natAbs_mul, Int.natAbs_mul, Nat.gcd_mul_right, Int.natCast_mul]
    congr 1
    omega
  unfold cmn
  by_cases hn : n < 0
  · rw [if_pos hn, if_pos (Int.mul_neg_of_neg_of_pos hn h), e, Int.neg_mul]
  · rw [if_neg hn, if_neg (by have := Int.mul_nonneg (show 0 ≤ n by omega) (show 0 ≤ f by omega); omega), e]
theorem wide_in {v : V} (h : v ∈ [V.int 4, .int 60, .int ((10 : Int) ^ (6 : Int).toNat), .int ((10 : Int) ^ (30 : Int).toNat)]) : ∃ W : Int, v = .int W ∧ 0 < W ∧ W ≤ 10 ^ 30 := by
  simp only [List.mem_cons, List.not_mem_nil, or_false] at h
  rcases h with rfl | rfl | rfl | rfl
  · exact ⟨_, rfl, by decide, by decide⟩
  · exact ⟨_, rfl, by decide, by decide⟩
  · exact ⟨_, rfl, by decide, by decide⟩
  · exact ⟨_, rfl, by decide, by decide⟩
def spLaw (K : PySem.W.Frag) : Sp := fun vs H Q _ => ∃ (a : Addr) (ns : List Int), vs = [.ref a] ∧ SqL K H a (ns.map V.int) ∧ ns.length ≤ 63 ∧ ∀ H', Q (.bl true) H'
/-! ### the law -/
theorem odd_in {K : PySem.W.Frag} {H : Hp} {v : V} {l t : Addr} (hl : H l = some (.lst [.int 1])) (ht : H t = some (.tup [.int 1, .int 2])) (h : v ∈ [V.bl true, .bl false, .non, .str "3", .ref l, .ref t]) : Odd K H v := by
  simp only [List.mem_cons, List.not_mem_nil, or_false] at h
  rcases h with rfl | rfl | rfl | rfl | rfl | rfl
  · exact ⟨⟨true, true, rfl, fun _ _ => Kd.bl⟩, _, by decide +kernel, fun _ _ => .bl true⟩
  · exact ⟨⟨true, true, rfl, fun _ _ => Kd.bl⟩, _, by decide +kernel, fun _ _ => .bl false⟩
  · exact ⟨⟨false, false, rfl, fun _ _ => Kd.non⟩, _, by decide +kernel, fun _ _ => .non⟩
  · exact ⟨⟨false, false, rfl, fun _ _ => Kd.str⟩, _, by decide +kernel, fun _ _ => .str "3"⟩
  · exact ⟨⟨false, false, rfl, fun _ s => Kd.lst (s _ _ hl)⟩, _, by decide +kernel, fun _ s => .lst (SqL.of (s _ _ hl)) (.cons (.int 1) .nil)⟩
  · exact ⟨⟨false, false, rfl, fun _ s => Kd.tup (s _ _ ht)⟩, _, by decide +kernel, fun _ s => .tup (SqT.of (s _ _ ht)) (.cons (.int 1) (.cons (.int 2) .nil))⟩
structure TxL (K : PySem.W.Frag) (mg : Str → Option Value) (fB fT fO fI fR fN fL : Addr) : Prop where
  bag : At K mg "_law_bag" fB
  take : At K mg "_law_take" fT
  odd : At K mg "_law_odd_refused" fO
  is : At K mg "_law_is" fI
  ref : At K mg "_law_refusal" fR
  int : At K mg "_law_int" fN
  low : At K mg "_law_lowest" fL
  len : mg "len" = none
section
variable {P : Program} {w : World} {K : PySem.W.Frag} {mg : Str → Option Value} {base : Heap}
abbrev sLaw : Stmt := top 22
theorem scLaw : FnScope ["_law_script", "_law_bag_here", "_law_wide", "_law_top", "_law_bottom", "_law_factor", "_law_odd", "_law_told", "_law_due"] ["_law_script"] (defScope sLaw) := ⟨rfl, rfl, rfl, by decide +kernel, rfl, by decide +kernel, by decide +kernel⟩
theorem ok_law {f C CI fE fW fB fT fO fI fR fN fL fQ : Addr} {fd fdB fdT fdO fdI fdR fdN fdL fdQ : FuncData} {ds : List Value} (F : Fun K "law" "law" sLaw f fd) (T : TxR K mg C CI fE fW) (L : TxL K mg fB fT fO fI fR fN fL) (M : Mk K C fQ)
    (GB : FnOk P w K mg base CX0 1 fB fdB ["_law_script"] (spBag K)) (bB : Binds K fdB ["_law_script"] [])
    (GT : FnOk P w K mg base CX0 1 fT fdT ["_law_bag_here", "_law_size"] spTake) (bT : Binds K fdT ["_law_bag_here", "_law_size"] [])
    (GO : FnOk P w K mg base CX0 6 fO fdO ["_law_odd"] (spOdd K)) (bO : Binds K fdO ["_law_odd"] [])
    (GI : FnOk P w K mg base CX0 2 fI fdI ["_law_actual", "_law_due"] (spIs C)) (bI : Binds K fdI ["_law_actual", "_law_due"] [])
    (GR : FnOk P w K mg base CX0 5 fR fdR ["_law_top", "_law_bottom"] (spRefusal K)) (bR : Binds K fdR ["_law_top", "_law_bottom"] [])
    (GN : FnOk P w K mg base CX0 1 fN fdN ["_law_actual"] (spWhole K)) (bN : Binds K fdN ["_law_actual"] [])
    (GL : FnOk P w K mg base CX0 1 fL fdL ["_law_top", "_law_bottom"] spLowest) (bL : Binds K fdL ["_law_top", "_law_bottom"] [])
    (GQ : FnOk P w K mg base (L2.CX P w) 3 fQ fdQ ["self", "top", "bottom"] (spInit K C CI)) (bQ : Binds K fdQ ["self", "top", "bottom"] []) (bQ1 : Binds K fdQ ["self", "top", "bottom"] ds) (vQ1 : Vals [.int 1] ds) :
    FnOk P w K mg base CX0 7 f fd ["_law_script"] (spLaw K) := by
  refine F.ok scLaw (fun vs H Q E h => ?_) (fun cdv A outer s H vs Q E hr h => ?_)
  · obtain ⟨t, ns, rfl, _⟩ := h
    rfl
  · obtain ⟨a, ns, rfl, hS, _, k⟩ := h
    have hr1 : Room 1 _ := hr.mono (by decide)
    have hr2 : Room 2 _ := hr.mono (by decide)
    have hr4 : Room 4 _ := hr.mono (by decide)
    have hr5 : Room 5 _ := hr.mono (by decide)
    have nd := scLaw.nd
    refine ⟨_, pss_cons (ps_set (i := 1) nd rfl (Or.inl rfl) (pe_call GB hr1 (by rfl) L.bag.g L.bag.k bB .nil pass0 (pa_cons (pv 0) pa_nil)))
      (pss_cons (ps_set (i := 2) nd rfl (Or.inl rfl) (pe_ix ix_list (pe_lst (pa_cons pe_int (pa_cons pe_int (pa_cons (pe_op op_pow pe_int pe_int) (pa_cons (pe_op op_pow pe_int pe_int) pa_nil))))) (pe_call GT hr1 (by rfl) L.take.g L.take.k bT .nil pass0 (pa_cons (pv 1) (pa_cons pe_int pa_nil))) (fun _ _ => rfl)))
      (pss_cons (ps_set (i := 3) nd rfl (Or.inl rfl) (pe_op op_sub (pe_call GT hr1 (by rfl) L.take.g L.take.k bT .nil pass0 (pa_cons (pv 1) (pa_cons (pe_op op_add (pe_op op_mul pe_int (pv 2)) pe_int) pa_nil))) (pv 2)))
      (pss_cons (ps_set (i := 4) nd rfl (Or.inl rfl) (pe_op op_sub (pe_call GT hr1 (by rfl) L.take.g L.take.k bT .nil pass0 (pa_cons (pv 1) (pa_cons (pe_op op_add (pe_op op_mul pe_int (pv 2)) pe_int) pa_nil))) (pv 2)))
      (pss_cons (ps_set (i := 5) nd rfl (Or.inl rfl) (pe_op op_add pe_int (pe_call GT hr1 (by rfl) L.take.g L.take.k bT .nil pass0 (pa_cons (pv 1) (pa_cons pe_int pa_nil)))))
      (pss_cons (ps_set (i := 6) nd rfl (Or.inl rfl) (pe_ix ix_list (pe_lst (pa_cons pe_bl (pa_cons pe_bl (pa_cons pe_non (pa_cons pe_str (pa_cons (pe_lst (pa_cons pe_int pa_nil)) (pa_cons (pe_tup (pa_cons pe_int (pa_cons pe_int pa_nil))) pa_nil))))))) (pe_call GT hr1 (by rfl) L.take.g L.take.k bT .nil pass0 (pa_cons (pv 1) (pa_cons pe_int pa_nil))) (fun _ _ => rfl)))
      (pss_cons (ps_if (pt_not (pt_val (pe_call GO hr (by rfl) L.odd.g L.odd.k bO .nil pass0 (pa_cons (pv 6) pa_nil)))) (pss_one (ps_ret pe_bl)) pss_nil)
      (pss_cons (ps_if (PW.pt (pw_or (pt_not (pt_val (pe_call GI hr2 (by rfl) L.is.g L.is.k bI .nil pass0 (pa_cons (pe_make M GQ hr4 (by rfl) T.mgC bQ1 vQ1 passL (pa_cons (pv 3) pa_nil)) (pa_cons (pe_tup (pa_cons (pv 3) (pa_cons pe_int pa_nil))) pa_nil)))))
          (pw_or1 (pt_not (pt_val (pe_call GI hr2 (by rfl) L.is.g L.is.k bI .nil pass0 (pa_cons (pe_make M GQ hr4 (by rfl) T.mgC bQ .nil passL (pa_cons pe_int (pa_cons (pv 5) pa_nil))) (pa_cons (pe_tup (pa_cons pe_int (pa_cons pe_int pa_nil))) pa_nil)))))))) (pss_one (ps_ret pe_bl)) pss_nil)
      (pss_cons (ps_set (i := 7) nd rfl (Or.inl rfl) (pe_call GR hr5 (by rfl) L.ref.g L.ref.k bR .nil pass0 (pa_cons (pv 3) (pa_cons pe_int pa_nil))))
      (pss_cons (ps_if (PW.pt (pw_or (pt_cmpR op_ne (pe_callB call_len_seq (by rfl) L.len PySem.boot_len (pa_cons (pv 7) pa_nil)) pe_int (nomark _))
          (pw_or (pt_not (pt_val (pe_call GN hr1 (by rfl) L.int.g L.int.k bN .nil pass0 (pa_cons (pe_ix ix_list (pv 7) pe_int (fun _ _ => rfl)) pa_nil))))
          (pw_or1 (pt_cmpR op_ne (pe_ix ix_list (pv 7) pe_int (fun _ _ => rfl)) pe_int (nomark _)))))) (pss_one (ps_ret pe_bl)) pss_nil)
      (pss_cons (ps_if (pt_cmpR op_eq (pv 4) pe_int (nomark _)) (pss_one (ps_ret pe_bl)) pss_nil)
      (pss_cons (ps_set (i := 8) nd rfl (Or.inl rfl) (pe_call GL hr1 (by rfl) L.low.g L.low.k bL .nil pass0 (pa_cons (pv 3) (pa_cons (pv 4) pa_nil))))
      (pss_one (ps_ret (pe_and (pe_call GI hr2 (by rfl) L.is.g L.is.k bI .nil pass0 (pa_cons (pe_make M GQ hr4 (by rfl) T.mgC bQ .nil passL (pa_cons (pv 3) (pa_cons (pv 4) pa_nil))) (pa_cons (pv 8) pa_nil)))
        (pe_one (pe_call GI hr2 (by rfl) L.is.g L.is.k bI .nil pass0 (pa_cons (pe_make M GQ hr4 (by rfl) T.mgC bQ .nil passL (pa_cons (pe_op op_mul (pv 3) (pv 5)) (pa_cons (pe_op op_mul (pv 4) (pv 5)) pa_nil))) (pa_cons (pv 8) pa_nil)))))))))))))))))), ?_⟩
    -- the bag
    refine ⟨_, rfl, a, ns, rfl, hS, fun b H1 B1 _ _ => ?_⟩
    -- wide
    refine ⟨_, _, rfl, rfl, ⟨by decide, by decide, by decide⟩, _, _, rfl, rfl, ⟨by decide, by decide, by decide⟩, by show 4 ≤ sizeLine; decide, fun l1 n1 => ?_⟩
    refine ⟨_, rfl, b, 4, rfl, by decide, by decide, B1.sm (same_upd n1), fun d1 H2 d1a d1b B2 k2 => ?_⟩
    obtain ⟨v1, at1, in1⟩ := atI_in (xs := [V.int 4, .int 60, .int ((10 : Int) ^ (6 : Int).toNat), .int ((10 : Int) ^ (30 : Int).toNat)]) d1a d1b
    obtain ⟨W, rfl, W0, W1⟩ := wide_in in1
    refine ⟨l1, _, d1, _, rfl, rfl, SqL.of (k2 _ _ upd_same (B1.ne n1)), at1, ?_⟩
    -- top, bottom
    refine ⟨_, rfl, _, rfl, 2, W, rfl, rfl, .inl ⟨by decide, by decide⟩, _, _, rfl, rfl, b, 2 * W + 1, rfl, by omega, by omega, B2, fun d2 H3 d2a d2b B3 k3 => ?_⟩
    refine ⟨_, rfl, d2, W, rfl, rfl, ?_⟩
    refine ⟨_, rfl, _, rfl, 2, W, rfl, rfl, .inl ⟨by decide, by decide⟩, _, _, rfl, rfl, b, 2 * W + 1, rfl, by omega, by omega, B3, fun d3 H4 d3a d3b B4 k4 => ?_⟩
    refine ⟨_, rfl, d3, W, rfl, rfl, ?_⟩
    obtain ⟨m, hm⟩ : ∃ m : Int, m = d2 - W := ⟨_, rfl⟩
    obtain ⟨n, hn⟩ : ∃ n : Int, n = d3 - W := ⟨_, rfl⟩
    dsimp only
    rw [← hm, ← hn]
    have mW : m.natAbs < 2 ^ 150 := by omega
    have nW : n.natAbs < 2 ^ 150 := by omega
    -- factor
    refine ⟨_, rfl, b, 8, rfl, by decide, by decide, B4, fun d4 H5 d4a d4b B5 k5 => ⟨2, d4, rfl, rfl, ?_⟩⟩
    obtain ⟨fc, hfc⟩ : ∃ fc : Int, fc = 2 + d4 := ⟨_, rfl⟩
    dsimp only
    rw [← hfc]
    have f0 : 2 ≤ fc := by omega
    have f1 : fc ≤ 9 := by omega
    -- odd
    refine ⟨by show 1 ≤ sizeLine; decide, fun l2 n2 => ⟨by show 2 ≤ sizeLine; decide, fun t2 m2 => ⟨by show 6 ≤ sizeLine; decide, fun l3 n3 => ?_⟩⟩⟩
    have S5 := (same_upd (o := .lst [.int 1]) n2).trans ((same_upd (o := .tup [.int 1, .int 2]) m2).trans (same_upd (o := .lst [.bl true, .bl false, .non, .str "3", .ref l2, .ref t2]) n3))
    refine ⟨_, rfl, b, 6, rfl, by decide, by decide, B5.sm S5, fun d5 H6 d5a d5b B6 k6 => ?_⟩
    obtain ⟨ov, at5, in5⟩ := atI_in (xs := [V.bl true, .bl false, .non, .str "3", .ref l2, .ref t2]) d5a d5b
    have B5a := B5.sm (same_upd (o := .lst [.int 1]) n2)
    have B5b := B5a.sm (same_upd (o := .tup [.int 1, .int 2]) m2)
    refine ⟨l3, _, d5, _, rfl, rfl, SqL.of (k6 _ _ upd_same (B5b.ne n3)), at5, ?_⟩
    have O : Odd K H6 ov := odd_in (k6 _ _ ((same_upd n3) _ _ ((same_upd m2) _ _ upd_same)) (B5.ne n2)) (k6 _ _ ((same_upd n3) _ _ upd_same) (B5a.ne m2)) in5
    refine ⟨_, rfl, ov, rfl, O, fun H7 s7 => ⟨_, rfl, iteF ?_⟩⟩
    -- Ratio(top), Ratio(0, factor)
    refine ⟨_, rfl, fun x1 dx1 nx ndx ne => rd_make (m := m) (n := 1) (by decide) (by decide) nx ndx ne rfl fun H8 s8 e8 => ?_⟩
    refine ⟨_, rfl, by show 2 ≤ sizeLine; decide, fun q1 nq1 => ?_⟩
    refine ⟨x1, q1, dx1, _, _, m, 1, rfl, same_upd nq1 _ _ e8, upd_same, ?_⟩
    rw [cmn_one, Int.fdiv_one, Int.fdiv_one, decide_eq_true (rfl : m = m)]
    refine ⟨_, rfl, iteF ?_⟩
    refine ⟨_, rfl, fun x2 dx2 nx ndx ne => rd_make (m := 0) (n := fc) (by omega) (by omega) nx ndx ne rfl fun H9 s9 e9 => ?_⟩
    refine ⟨by show 2 ≤ sizeLine; decide, fun q2 nq2 => ?_⟩
    refine ⟨x2, q2, dx2, _, _, 0, 1, rfl, same_upd nq2 _ _ e9, upd_same, ?_⟩
    rw [cmn_zero (by omega), Int.zero_fdiv, Int.fdiv_self (by omega)]
    refine ⟨_, rfl, iteF ?_⟩
    -- refusal(top, 0)
    refine ⟨_, rfl, .int m, .int 0, true, false, true, false, [.int 0], rfl, Kd.int, Kd.int, fun h => (by cases h), fun _ h => (by cases h), fun _ _ => ⟨m, 0, rfl, rfl, by decide, fun _ => rfl, fun h => absurd rfl h⟩, fun l4 H10 s10 e10 _ => ?_⟩
    refine ⟨_, rfl, l4, _, rfl, .inl (SqL.of e10), rfl, _, rfl, iteF ?_⟩
    refine ⟨_, rfl, l4, _, _, _, rfl, rfl, SqL.of e10, rfl, _, true, false, rfl, Kd.int, _, rfl, iteF ?_⟩
    refine ⟨_, rfl, l4, _, _, _, rfl, rfl, SqL.of e10, rfl, rfl, _, rfl, iteF ?_⟩
    -- bottom == 0
    refine ⟨_, rfl, rfl, _, rfl, ?_⟩
    rw [dec_int]
    by_cases n0 : n = 0
    · rw [show (n == 0) = true from beq_iff_eq.mpr n0]
      exact iteT (k _)
    · rw [show (n == 0) = false from beq_eq_false_iff_ne.mpr n0]
      refine iteF ⟨_, rfl, _, rfl, m, n, rfl, n0, by omega, fun q3 nq3 => ?_⟩
      refine ⟨_, rfl, _, rfl, fun x3 dx3 nx ndx ne => rd_make (m := m) (n := n) n0 (by omega) nx ndx ne rfl fun H11 s11 e11 => ?_⟩
      refine ⟨_, rfl, x3, q3, dx3, _, _, _, _, rfl, e11, s11 _ _ upd_same, ?_⟩
      rw [decide_eq_true rfl, decide_eq_true rfl]
      refine ⟨_, rfl, iteT ?_⟩
      have nf : n * fc ≠ 0 := Int.mul_ne_zero n0 (by omega)
      have nfW : (n * fc).natAbs < 2 ^ 900 := by
        rw [Int.natAbs_mul]
        have h9 : fc.natAbs ≤ 9 := by omega
        have := Nat.mul_le_mul (Nat.le_of_lt nW) h9
        omega
      refine ⟨_, rfl, _, rfl, m, fc, rfl, rfl, .inr ⟨by omega, by omega⟩, _, rfl, _, rfl, n, fc, rfl, rfl, .inr ⟨by omega, by omega⟩, fun x4 dx4 nx ndx ne => rd_make (m := m * fc) (n := n * fc) nf nfW nx ndx ne rfl fun H12 s12 e12 => ?_⟩
      refine ⟨_, rfl, x4, q3, dx4, _, _, _, _, rfl, e12, s12 _ _ (s11 _ _ upd_same), ?_⟩
      rw [cmn_mul (by omega), Int.mul_fdiv_mul_of_pos_left _ _ (by omega), Int.mul_fdiv_mul_of_pos_left _ _ (by omega), decide_eq_true rfl, decide_eq_true rfl]
      exact k _
end
/-! ### what the top has written, and the end -/
theorem all_mk {l : PySem.W.OpenLaw} {w : World} {K : PySem.W.Frag} {h : Heap} {mg : Str → Option Value} {fa : Addr} {fW fE fQ fB fT fN fI fL fR fO fZ C CI CF CG : Addr} (X : K.In h) (G : h.Ns mainGlobals mg) (hfa : mg "law" = some (.ref fa))
    {odW anW odE anE odQ anQ odB anB odT anT odN anN odI anI odL anL odR anR odO anO odZ anZ : Option Addr} {slW slE slQ slB slT slN slI slL slR slO slZ : Array (Option Value)} {ocW kVW dcW pmW cdW ctW ocE kVE dcE pmE cdE ctE ocQ kVQ dcQ pmQ cdQ ctQ ocB kVB dcB pmB cdB ctB ocT kVT dcT pmT cdT ctT ocN kVN dcN pmN cdN ctN ocI kVI dcI pmI cdI ctI ocL kVL dcL pmL cdL ctL ocR kVR dcR pmR cdR ctR ocO kVO dcO pmO cdO ctO ocZ kVZ dcZ pmZ cdZ ctZ : Value} {DQ : Addr} {dclQ : Value} {dddQ : Option Addr} {dnnQ : Nat} {dslQ : Array (Option Value)} {tQ : Tok} {xnm xq : Str} {xN : Addr} {xbs : List Value} {xsn : List Str} {xsub : List Value} {xab : Bool} {xcol : Option Bool} {xdd : Option Addr} {xm0 xm1 xm2 xm3 xm5 : Option Value}
    (aCI : PySem.W.nsIn K mainGlobals "InvalidNumber" = some (some (.ref CI)))
    (aCF : PySem.W.nsIn K mainGlobals "FontError" = some (some (.ref CF)))
    (aC : PySem.W.nsIn K mainGlobals "Ratio" = some (some (.ref C)))
    (aCG : PySem.W.nsIn K mainGlobals "InvalidGlyph" = some (some (.ref CG)))
    (aW : PySem.W.nsIn K mainGlobals "is_whole" = some (some (.ref fW)))
    (lW : K.lookup fW = some ⟨ocW, odW, .func (PySem.W.fnOf "is_whole" "is_whole" (defArgs sWhole) (defBody sWhole) (defScope sWhole) .none kVW dcW pmW anW cdW ctW), slW⟩)
    (cW : PySem.W.codeIn K cdW "is_whole" = true)
    (kW : PySem.W.keepIn K (.ref fW) = true)
    (aE : PySem.W.findIn K (.ref CI) "__init__" = some (some (.ref fE)))
    (tE : PySem.W.typeIn K (.ref fE) = some (.type "function"))
    (lE : K.lookup fE = some ⟨ocE, odE, .func (PySem.W.fnOf "__init__" "InvalidNumber.__init__" (defArgs sEI) (defBody sEI) (defScope sEI) .none kVE dcE pmE anE cdE ctE), slE⟩)
    (cE : PySem.W.codeIn K cdE "InvalidNumber.__init__" = true)
    (kE : PySem.W.keepIn K (.ref fE) = true)
    (aQ : PySem.W.findIn K (.ref C) "__init__" = some (some (.ref fQ)))
    (iQ : PySem.W.isFn K (.ref fQ) = true)
    (lQ : K.lookup fQ = some ⟨ocQ, odQ, .func (PySem.W.fnOf "__init__" "Ratio.__init__" (defArgs sInit) (defBody sInit) (defScope sInit) (.ref DQ) kVQ dcQ pmQ anQ cdQ ctQ), slQ⟩)
    (cQ : PySem.W.codeIn K cdQ "Ratio.__init__" = true)
    (kQ : PySem.W.keepIn K (.ref fQ) = true)
    (dQ : K.lookup DQ = some ⟨dclQ, dddQ, .seq #[.int 1 tQ] dnnQ, dslQ⟩)
    (aB : PySem.W.nsIn K mainGlobals "_law_bag" = some (some (.ref fB)))
    (lB : K.lookup fB = some ⟨ocB, odB, .func (PySem.W.fnOf "_law_bag" "_law_bag" (defArgs sBag) (defBody sBag) (defScope sBag) .none kVB dcB pmB anB cdB ctB), slB⟩)
    (cB : PySem.W.codeIn K cdB "_law_bag" = true)
    (kB : PySem.W.keepIn K (.ref fB) = true)
    (aT : PySem.W.nsIn K mainGlobals "_law_take" = some (some (.ref fT)))
    (lT : K.lookup fT = some ⟨ocT, odT, .func (PySem.W.fnOf "_law_take" "_law_take" (defArgs sTake) (defBody sTake) (defScope sTake) .none kVT dcT pmT anT cdT ctT), slT⟩)
    (cT : PySem.W.codeIn K cdT "_law_take" = true)
    (kT : PySem.W.keepIn K (.ref fT) = true)
    (aN : PySem.W.nsIn K mainGlobals "_law_int" = some (some (.ref fN)))
    (lN : K.lookup fN = some ⟨ocN, odN, .func (PySem.W.fnOf "_law_int" "_law_int" (defArgs sInt) (defBody sInt) (defScope sInt) .none kVN dcN pmN anN cdN ctN), slN⟩)
    (cN : PySem.W.codeIn K cdN "_law_int" = true)
    (kN : PySem.W.keepIn K (.ref fN) = true)
    (aI : PySem.W.nsIn K mainGlobals "_law_is" = some (some (.ref fI)))
    (lI : K.lookup fI = some ⟨ocI, odI, .func (PySem.W.fnOf "_law_is" "_law_is" (defArgs sIs) (defBody sIs) (defScope sIs) .none kVI dcI pmI anI cdI ctI), slI⟩)
    (cI : PySem.W.codeIn K cdI "_law_is" = true)
    (kI : PySem.W.keepIn K (.ref fI) = true)
    (aL : PySem.W.nsIn K mainGlobals "_law_lowest" = some (some (.ref fL)))
    (lL : K.lookup fL = some ⟨ocL, odL, .func (PySem.W.fnOf "_law_lowest" "_law_lowest" (defArgs sLowest) (defBody sLowest) (defScope sLowest) .none kVL dcL pmL anL cdL ctL), slL⟩)
    (cL : PySem.W.codeIn K cdL "_law_lowest" = true)
    (kL : PySem.W.keepIn K (.ref fL) = true)
    (aR : PySem.W.nsIn K mainGlobals "_law_refusal" = some (some (.ref fR)))
    (lR : K.lookup fR = some ⟨ocR, odR, .func (PySem.W.fnOf "_law_refusal" "_law_refusal" (defArgs sRefusal) (defBody sRefusal) (defScope sRefusal) .none kVR dcR pmR anR cdR ctR), slR⟩)
    (cR : PySem.W.codeIn K cdR "_law_refusal" = true)
    (kR : PySem.W.keepIn K (.ref fR) = true)
    (aO : PySem.W.nsIn K mainGlobals "_law_odd_refused" = some (some (.ref fO)))
    (lO : K.lookup fO = some ⟨ocO, odO, .func (PySem.W.fnOf "_law_odd_refused" "_law_odd_refused" (defArgs sOdd) (defBody sOdd) (defScope sOdd) .none kVO dcO pmO anO cdO ctO), slO⟩)
    (cO : PySem.W.codeIn K cdO "_law_odd_refused" = true)
    (kO : PySem.W.keepIn K (.ref fO) = true)
    (aZ : PySem.W.nsIn K mainGlobals "law" = some (some (.ref fZ)))
    (lZ : K.lookup fZ = some ⟨ocZ, odZ, .func (PySem.W.fnOf "law" "law" (defArgs sLaw) (defBody sLaw) (defScope sLaw) .none kVZ dcZ pmZ anZ cdZ ctZ), slZ⟩)
    (cZ : PySem.W.codeIn K cdZ "law" = true)
    (kZ : PySem.W.keepIn K (.ref fZ) = true)
    (xCI : K.lookup CI = some (excClassObj xnm xq CI xN xbs [.ref CF, .type "ValueError", .type "Exception", .type "BaseException", .type "object"] true xsn xsub xab xcol xdd xm0 xm1 xm2 xm3 xm5 "ValueError.__new__"))
    (saI : PySem.W.findIn K (.ref CI) "__setattr__" = some (some (.builtin "object.__setattr__")))
    (exI : PySem.W.subIn K (.ref CI) (.type "BaseException") = some true)
    (tyI : PySem.W.typeIn K (.ref CI) = some (.type "type"))
    (kpI : PySem.W.keepIn K (.ref CI) = true)
    (noI : PySem.W.findIn K (.ref CI) "value" = some none)
    (pg : PySem.W.plainGet K C Str.empty = true)
    (hd : PySem.W.hasDictIn K C = true)
    (po : PySem.W.plainOver K C = true)
    (sa : PySem.W.findIn K (.ref C) "__setattr__" = some (some (.builtin "object.__setattr__")))
    (mk : PySem.W.makesIn K C = true)
    (kc : PySem.W.keepIn K (.ref C) = true)
    (nT : PySem.W.findIn K (.ref C) "top" = some none)
    (nB : PySem.W.findIn K (.ref C) "bottom" = some none)
    (icA : PySem.W.findIn K (.ref C) "__class__" = some (some (.builtin "object.__class__")))
    (icN : PySem.W.specialIn K (.builtin "object.__class__") "__get__" = some (some (.builtin "getset_descriptor.__get__")))
    (icT : PySem.W.takesIn K (.builtin "object.__class__") = some true)
    (icM : PySem.W.mroIn K C (.type "object") = some true)
    (icE : PySem.W.kitOne K (.ref C) (.ref C) = some true)
    (gG : PySem.W.nsIn K mainGlobals "gcd" = some (some (.builtin "math.gcd")))
    (teB : PySem.W.subIn K (.ref CF) (.type "BaseException") = some true)
    (teD : PySem.W.hasDictIn K CF = true)
    (teT : PySem.W.typeIn K (.ref CF) = some (.type "type"))
    (teS : PySem.W.subIn K (.ref CI) (.ref CF) = some true)
    (egA : PySem.W.findIn K (.ref CI) "__getattribute__" = some (some (.builtin "BaseException.__getattribute__")))
    (egG : PySem.W.findIn K (.ref CI) "__getattr__" = some none)
    (ehD : PySem.W.hasDictIn K CI = true)
    (ecA : PySem.W.findIn K (.ref CI) "__class__" = some (some (.builtin "object.__class__")))
    (ecM : PySem.W.mroIn K CI (.type "object") = some true)
    (e1 : PySem.W.kitOne K (.ref CI) (.ref CI) = some true)
    (e2 : PySem.W.kitOne K (.ref CI) (.type "ValueError") = some true)
    (e3 : PySem.W.kitOne K (.ref CI) (.ref CG) = some false)
    (z_isinstance : PySem.W.nsIn K mainGlobals "isinstance" = some none)
    (z_int : PySem.W.nsIn K mainGlobals "int" = some none)
    (z_bool : PySem.W.nsIn K mainGlobals "bool" = some none)
    (z_len : PySem.W.nsIn K mainGlobals "len" = some none)
    (z_list : PySem.W.nsIn K mainGlobals "list" = some none)
    (z_range : PySem.W.nsIn K mainGlobals "range" = some none)
    (z_abs : PySem.W.nsIn K mainGlobals "abs" = some none)
    (z_ValueError : PySem.W.nsIn K mainGlobals "ValueError" = some none) :
    ∃ fd : FuncData, (∀ (s : Shared) (v : Value), BindsTo s fd ⟨[v], []⟩ [("_law_script", v)]) ∧ ∀ base : Heap, K.In base → base.Ns mainGlobals mg → FnOk l.prog w K mg base CX0 7 fa fd ["_law_script"] (spLaw K) := by
  have e := hfa.symm.trans (PySem.W.mg_of X G aZ)
  cases e
  have FW := fun_mk (st := sWhole) lW cW kW
  have bW := FW.binds (ps := ["value"]) fun _ _ _ _ _ _ us hl => match us, hl with | [_], _ => rfl
  have FE := fun_mk (st := sEI) lE cE kE
  have bE := FE.binds (ps := ["self", "value"]) fun _ _ _ _ _ _ us hl => match us, hl with | [_, _], _ => rfl
  have FQ : FunD K "__init__" "Ratio.__init__" (defArgs sInit) (defBody sInit) (defScope sInit) [.int 1] [] fQ _ := ⟨⟨ocQ, odQ, _, kVQ, dcQ, pmQ, anQ, cdQ, ctQ, slQ, rfl, lQ, cQ, .inr ⟨by simp, DQ, _, [.int 1 tQ], dnnQ, rfl, dQ, rfl, .cons ⟨tQ, rfl⟩ .nil⟩, .inl rfl⟩, kQ⟩
  obtain ⟨ds0, v0, bQ⟩ := FQ.binds1 (ps := ["self", "top", "bottom"]) 3 1 (by simp) rfl fun T kV doc pm an cdv ct us its h1 h2 => match us, its, h1, h2 with | [_, _, _], [_], _, _ => ⟨_, rfl, rfl⟩
  obtain ⟨ds, vQ1, bQ1⟩ := FQ.binds1 (ps := ["self", "top", "bottom"]) 2 0 (by simp) rfl fun T kV doc pm an cdv ct us its h1 h2 => match us, its, h1, h2 with | [_, _], [_], _, _ => ⟨_, rfl, rfl⟩
  cases v0
  have FB := fun_mk (st := sBag) lB cB kB
  have bB := FB.binds (ps := ["_law_script"]) fun _ _ _ _ _ _ us hl => match us, hl with | [_], _ => rfl
  have FT := fun_mk (st := sTake) lT cT kT
  have bT := FT.binds (ps := ["_law_bag_here", "_law_size"]) fun _ _ _ _ _ _ us hl => match us, hl with | [_, _], _ => rfl
  have FN := fun_mk (st := sInt) lN cN kN
  have bN := FN.binds (ps := ["_law_actual"]) fun _ _ _ _ _ _ us hl => match us, hl with | [_], _ => rfl
  have FI := fun_mk (st := sIs) lI cI kI
  have bI := FI.binds (ps := ["_law_actual", "_law_due"]) fun _ _ _ _ _ _ us hl => match us, hl with | [_, _], _ => rfl
  have FL := fun_mk (st := sLowest) lL cL kL
  have bL := FL.binds (ps := ["_law_top", "_law_bottom"]) fun _ _ _ _ _ _ us hl => match us, hl with | [_, _], _ => rfl
  have FR := fun_mk (st := sRefusal) lR cR kR
  have bR := FR.binds (ps := ["_law_top", "_law_bottom"]) fun _ _ _ _ _ _ us hl => match us, hl with | [_, _], _ => rfl
  have FO := fun_mk (st := sOdd) lO cO kO
  have bO := FO.binds (ps := ["_law_odd"]) fun _ _ _ _ _ _ us hl => match us, hl with | [_], _ => rfl
  have FZ := fun_mk (st := sLaw) lZ cZ kZ
  have TO : OexC K CI := ⟨⟨xnm, xq, xN, xbs, _, xsn, xsub, xab, xcol, xdd, xm0, xm1, xm2, xm3, xm5, xCI, (by show PySem.HandSPX.refsVE [.type "ValueError", .type "Exception", .type "BaseException", .type "object"] = true; decide +kernel)⟩, saI, exI, tyI, kpI⟩
  have TR : TxR K mg C CI fE fW := ⟨⟨pg, hd, po, sa⟩, nT, nB, PySem.W.mg_of X G aC, ⟨PySem.W.mg_of X G aCI, TO, aE, tE⟩, PySem.W.mg_of X G aW, kW, PySem.W.mg_of X G gG⟩
  have IC : C8.InsC K C := ⟨⟨pg, hd, po, sa⟩, icA, icN, icT, icM, icE⟩
  have MQ : Mk K C fQ := ⟨mk, aQ, iQ, kc⟩
  have mz : ∀ {x : Str}, PySem.W.nsIn K mainGlobals x = some none → mg x = none := fun z => PySem.W.mg_none_of X G z
  have TE : TxE K mg CF CI CG := ⟨PySem.W.mg_of X G aCF, PySem.W.exm_ref teB teD teT teS, ⟨egA, egG, exI, ehD, ecA, icN, icT, ecM⟩, ⟨egA, egG, exI, ehD⟩, noI, PySem.W.mg_of X G aCG, e1, e2, e3, mz z_ValueError, mz z_isinstance⟩
  have TL : TxL K mg fB fT fO fI fR fN fL := ⟨⟨PySem.W.mg_of X G aB, kB⟩, ⟨PySem.W.mg_of X G aT, kT⟩, ⟨PySem.W.mg_of X G aO, kO⟩, ⟨PySem.W.mg_of X G aI, kI⟩, ⟨PySem.W.mg_of X G aR, kR⟩, ⟨PySem.W.mg_of X G aN, kN⟩, ⟨PySem.W.mg_of X G aL, kL⟩, mz z_len⟩
  exact ⟨PySem.W.fnOf "law" "law" (defArgs sLaw) (defBody sLaw) (defScope sLaw) .none kVZ dcZ pmZ anZ cdZ ctZ, fun s v => .of_eq rfl, fun base _ _ => by
    have GE : FnOk l.prog w K mg base CX0 1 fE _ ["self", "value"] (spEx1 CI "value") := ok_ei FE TO noI
    have GW : FnOk l.prog w K mg base CX0 1 fW _ ["value"] (spWhole K) := ok_whole FW (mz z_isinstance) (mz z_int) (mz z_bool)
    have GQ := ok_init FQ TR GE bE GW bW
    have GN : FnOk l.prog w K mg base CX0 1 fN _ ["_law_actual"] (spWhole K) := ok_int FN (mz z_isinstance) (mz z_int) (mz z_bool)
    have GR := ok_refusal FR TR TE MQ GQ bQ
    exact ok_law FZ TR TL MQ (ok_bag FB (mz z_list)) bB (ok_take FT (mz z_len) (mz z_int)) bT (ok_odd FO GR bR (PySem.W.mg_of X G aR) kR (mz z_isinstance) (mz z_bool) (mz z_len)) bO (ok_is FI TR IC (mz z_isinstance) GN bN (PySem.W.mg_of X G aN) kN) bI GR bR GN bN (ok_lowest FL (mz z_abs) (mz z_range)) bL GQ bQ bQ1 vQ1⟩
theorem walk {l : PySem.W.OpenLaw} {q : Program} {loose : List Str} {XP : (Str → Option Value) → Heap → Prop} {YP : World → Heap → Prop} {d : DefRec} {K : Params → PySem.W.Frag} (hn : l.most = some 63) (hdf : d.params.defaults = [])
    (hY : ∀ (w : World) (h : Heap), YP w h → (K w.params).In h)
    (F : ∀ (w : World) (mg : Str → Option Value) (fa : Addr) (h : Heap), (K w.params).In h → h.Ns mainGlobals mg → mg d.name = some (.ref fa) →
      ∃ fd : FuncData, (∀ (s : Shared) (u : Value), BindsTo s fd ⟨[u], []⟩ [("_law_script", u)]) ∧ ∀ base : Heap, (K w.params).In base → base.Ns mainGlobals mg → FnOk l.prog w (K w.params) mg base CX0 7 fa fd ["_law_script"] (spLaw (K w.params))) :
    PySem.W.WalkO q loose XP YP l.row.toRowW d [] (fun f vs => PySem.call f vs) :=
  L2.walk_of (n := 63) (k := 7) (x := "_law_script") (CX := fun _ => CX0) (sp := fun w => spLaw (K w.params)) hn (by decide) hdf ⟨rfl, by decide, by decide⟩ hY F (fun _ _ a ns hl _ hS => ⟨a, ns, rfl, hS, hl, fun _ => rfl⟩) fun _ _ _ _ _ z => z
end Toy
open PySem PySem.W PyProof.Rows
set_option maxRecDepth 100000 in
set_option maxHeartbeats 0 in
theorem PySem.Challenge.cw_fontgap_k01_ratio_in_lowest_terms_holds : PySem.Challenge.rw_fontgap_k01_ratio_in_lowest_terms.Holds := by
  w_on; o_law; k_head; (case hw => w_witness2)
  k_fill
  refine Toy.walk (l := PySem.Challenge.rw_fontgap_k01_ratio_in_lowest_terms) rfl rfl (fun w h Y => PySem.W.kIn_of Y) ?F
  case F =>
    intro w mg fa h KX G hmg
    refine' Toy.all_mk KX G hmg ?aCI ?aCF ?aC ?aCG ?aW ?lW ?cW ?kW ?aE ?tE ?lE ?cE ?kE ?aQ ?iQ ?lQ ?cQ ?kQ ?dQ ?aB ?lB ?cB ?kB ?aT ?lT ?cT ?kT ?aN ?lN ?cN ?kN ?aI ?lI ?cI ?kI ?aL ?lL ?cL ?kL ?aR ?lR ?cR ?kR ?aO ?lO ?cO ?kO ?aZ ?lZ ?cZ ?kZ ?xCI ?saI ?exI ?tyI ?kpI ?noI ?pg ?hd ?po ?sa ?mk ?kc ?nT ?nB ?icA ?icN ?icT ?icM ?icE ?gG ?teB ?teD ?teT ?teS ?egA ?egG ?ehD ?ecA ?ecM ?e1 ?e2 ?e3 ?z_isinstance ?z_int ?z_bool ?z_len ?z_list ?z_range ?z_abs ?z_ValueError
    (case aCI => k_is)
    (case aCF => k_is)
    (case aC => k_is)
    (case aCG => k_is)
    (case aW => k_is)
    (case lW => k_is)
    (case cW => k_is)
    (case kW => k_is)
    (case aE => k_is)
    (case tE => k_is)
    (case lE => k_is)
    (case cE => k_is)
    (case kE => k_is)
    (case aQ => k_is)
    (case iQ => k_is)
    (case lQ => k_is)
    (case cQ => k_is)
    (case kQ => k_is)
    (case dQ => k_is)
    (case aB => k_is)
    (case lB => k_is)
    (case cB => k_is)
    (case kB => k_is)
    (case aT => k_is)
    (case lT => k_is)
    (case cT => k_is)
    (case kT => k_is)
    (case aN => k_is)
    (case lN => k_is)
    (case cN => k_is)
    (case kN => k_is)
    (case aI => k_is)
    (case lI => k_is)
    (case cI => k_is)
    (case kI => k_is)
    (case aL => k_is)
    (case lL => k_is)
    (case cL => k_is)
    (case kL => k_is)
    (case aR => k_is)
    (case lR => k_is)
    (case cR => k_is)
    (case kR => k_is)
    (case aO => k_is)
    (case lO => k_is)
    (case cO => k_is)
    (case kO => k_is)
    (case aZ => k_is)
    (case lZ => k_is)
    (case cZ => k_is)
    (case kZ => k_is)
    (case xCI => k_is)
    (case saI => k_is)
    (case exI => k_is)
    (case tyI => k_is)
    (case kpI => k_is)
    (case noI => k_is)
    (case pg => k_is)
    (case hd => k_is)
    (case po => k_is)
    (case sa => k_is)
    (case mk => k_is)
    (case kc => k_is)
    (case nT => k_is)
    (case nB => k_is)
    (case icA => k_is)
    (case icN => k_is)
    (case icT => k_is)
    (case icM => k_is)
    (case icE => kit_is)
    (case gG => k_is)
    (case teB => k_is)
    (case teD => k_is)
    (case teT => k_is)
    (case teS => k_is)
    (case egA => k_is)
    (case egG => k_is)
    (case ehD => k_is)
    (case ecA => k_is)
    (case ecM => k_is)
    (case e1 => kit_is)
    (case e2 => kit_is)
    (case e3 => kit_is)
    (case z_isinstance => k_is)
    (case z_int => k_is)
    (case z_bool => k_is)
    (case z_len => k_is)
    (case z_list => k_is)
    (case z_range => k_is)
    (case z_abs => k_is)
    (case z_ValueError => k_is)
