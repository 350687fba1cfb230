import PyProof.Rows.All
import Wide.All
import OpenK.AllK
import Wide.FinOn
import HandS.ForMost
import HandS.Exc
import HandS.TryOnly
import HandS.WordsExc
import HandS.Wide
import HandS.Gcd
import HandS.IsInst
import HandS.Codes
import HandS.Defaults
import HandS.ExcInit
import HandS.ExcField
import HandS.ExcIs
import HandS.TryMany
import KE.KExcIs
import KE.KOpsOwn
import KE.SortKeyHeap
import KE.SortData
import HandS.SortKw
import HandS.RaiseMore
import HandS.DictTup
import HandS.Conv
import HandS.Style
import HandS.Flow
import HandS.StrMore
import HandS.Property
import KE.KxField
import HandS.WideBits
import HandS.FStr
import KE.KCallOwn
import HandS.ClsMeth
import HandS.Comp
import HandS.Iter
import HandS.Walk
import PySem.Challenge.RW_fontgap_k04_ratio_written_and_read
set_option Elab.async false
set_option maxRecDepth 100000
set_option maxHeartbeats 4000000
set_option exponentiation.threshold 2000
namespace Toy
open PySem L2
def top (i : Nat) : Stmt := PySem.Challenge.pw_fontgap_k04_ratio_written_and_read.main.body.getD i (.Pass ⟨0, 0, 0, 0⟩)
/-! ### the bag of draws -/
/-- a bag stands at b: the script's ints at l, the place, the rest, the state, the count -/
def BagAt (H : Hp) (b : Addr) : Prop := ∃ (l : Addr) (ns : List Int) (p q r c : Int), H b = some (.lst [.ref l, .int p, .int q, .int r, .int c]) ∧ H l = some (.lst (ns.map V.int)) ∧ 0 ≤ p ∧ 0 ≤ r ∧ r < 2147483647
def Keep (b : Addr) (H H' : Hp) : Prop := ∀ a o, H a = some o → a ≠ b → H' a = some o
def spBag (K : PySem.W.Frag) : Sp := fun vs H Q _ => ∃ (a : Addr) (ns : List Int), vs = [.ref a] ∧ SqL K H a (ns.map V.int) ∧ ∀ b H', BagAt H' b → H b = none → Same H H' → Q (.ref b) H'
def spTake : Sp := fun vs H Q _ => ∃ (b : Addr) (n : Int), vs = [.ref b, .int n] ∧ 0 < n ∧ n.natAbs < 2 ^ 300 ∧ BagAt H b ∧
  ∀ (d : Int) H', 0 ≤ d → d < n → BagAt H' b → Keep b H H' → Q (.int d) H'
abbrev sBag : Stmt := top 14
abbrev sTake : Stmt := top 15
theorem cut63 (ns : List Int) : cutV (ns.map V.int) none (some 63) = ((ns.take (HT.sIx (ns.map V.int).length (ns.map V.int).length (some 63) - HT.sIx (ns.map V.int).length 0 none)).drop 0).map V.int ∨ True := .inr trivial
theorem cut_map (ns : List Int) (lo hi : Option Int) : ∃ ms : List Int, cutV (ns.map V.int) lo hi = ms.map V.int := by
  unfold cutV
  rw [← List.map_drop, ← List.map_take]
  exact ⟨_, rfl⟩
section
variable {P : Program} {w : World} {K : PySem.W.Frag} {mg : Str → Option Value} {base : Heap}
theorem scBag : FnScope ["_law_script"] ["_law_script"] (defScope sBag) := ⟨rfl, rfl, rfl, by decide +kernel, rfl, by decide +kernel, by decide +kernel⟩
theorem ok_bag {f : Addr} {fd : FuncData} (F : Fun K "_law_bag" "_law_bag" sBag f fd) (mL : mg "list" = none) : FnOk P w K mg base CX0 1 f fd ["_law_script"] (spBag K) := by
  refine F.ok scBag (fun vs H Q E h => ?_) (fun cdv A outer s H vs Q E hr h => ?_)
  · obtain ⟨a, ns, rfl, _⟩ := h
    rfl
  · obtain ⟨a, ns, rfl, hS, k⟩ := h
    refine ⟨_, pss_one (ps_ret (pe_lst (pa_cons (pe_callTy call_list_of (by rfl) mL (by decide +kernel) (pa_cons (pe_slice sl_list (pv 0) po_none (po_some pe_int)) pa_nil)) (pa_cons pe_int (pa_cons pe_int (pa_cons pe_int (pa_cons pe_int pa_nil))))))), ?_⟩
    refine ⟨_, rfl, _, rfl, a, _, rfl, hS, fun p np => ?_⟩
    obtain ⟨ms, em⟩ := cut_map ns none (some 63)
    refine ⟨p, _, rfl, .inl (SqL.of upd_same), fun l nl => ?_⟩
    refine ⟨by show 5 ≤ sizeLine; decide, fun b nb => ?_⟩
    have hlp : l ≠ p := fun z => by rw [z, upd_same] at nl; cases nl
    have hbl : l ≠ b := fun z => by rw [← z, upd_same] at nb; cases nb
    have hbp : p ≠ b := fun z => by rw [← z, upd_ne (Ne.symm hlp), upd_same] at nb; cases nb
    refine k b _ ⟨l, ms, 0, 0, 7, 0, upd_same, ?_, by decide, by decide, by decide⟩ ?_ ?_
    · rw [upd_ne hbl, upd_same, em]
    · rw [upd_ne (Ne.symm hbl), upd_ne (Ne.symm hbp)] at nb
      exact nb
    · intro c o e
      have hcp : c ≠ p := ne_of_none e np
      have hcl : c ≠ l := fun z => by rw [z] at e; rw [upd_ne hlp] at nl; rw [nl] at e; cases e
      have hcb : c ≠ b := fun z => by rw [z] at e; rw [upd_ne (Ne.symm hbl), upd_ne (Ne.symm hbp)] at nb; rw [nb] at e; cases e
      rw [upd_ne hcb, upd_ne hcl, upd_ne hcp]
      exact e
end
section
variable {P : Program} {w : World} {K : PySem.W.Frag} {mg : Str → Option Value} {base : Heap}
theorem scTake : FnScope ["_law_bag_here", "_law_size", "_law_digit", "_law_cell"] ["_law_bag_here", "_law_size"] (defScope sTake) := ⟨rfl, rfl, rfl, by decide +kernel, rfl, by decide +kernel, by decide +kernel⟩
theorem fm_nn (a : Int) {n : Int} (h : 0 < n) : 0 ≤ a.fmod n ∧ a.fmod n < n := by
  rw [Int.fmod_eq_emod_of_nonneg _ (by omega)]
  exact ⟨Int.emod_nonneg _ (by omega), Int.emod_lt_of_pos _ h⟩
theorem bag_keep {H : Hp} {b : Addr} {o : HO} : Keep b H (upd H b o) := fun a u e h => by rw [upd_ne h]; exact e
theorem Keep.trans {b : Addr} {H H1 H2 : Hp} (a : Keep b H H1) (c : Keep b H1 H2) : Keep b H H2 := fun x o e h => c x o (a x o e h) h
theorem Keep.refl {b : Addr} {H : Hp} : Keep b H H := fun _ _ e _ => e
theorem ok_take {f : Addr} {fd : FuncData} (F : Fun K "_law_take" "_law_take" sTake f fd) (mL : mg "len" = none) (mI : mg "int" = none) : FnOk P w K mg base CX0 1 f fd ["_law_bag_here", "_law_size"] spTake := by
  refine F.ok scTake (fun vs H Q E h => ?_) (fun cdv A outer s H vs Q E hr h => ?_)
  · obtain ⟨a, ns, rfl, _⟩ := h
    rfl
  · obtain ⟨b, n, rfl, n0, nW, ⟨l, ns, p, q, r, c, hb, hl, p0, r0, r1⟩, k⟩ := h
    have wd : CDivW 0 n := wide_div n0 nW (by decide) (by decide)
    have nn : n ≠ 0 := by omega
    refine ⟨_, pss_cons (ps_if (pt_cmpR op_ge (pe_ix ix_list (pv 0) pe_int (fun _ _ => rfl)) (pe_op op_pow pe_int pe_int) (nomark _))
        (pss_cons (ps_set (i := 2) scTake.nd rfl (Or.inl rfl) (pe_op op_modN (pe_callTy call_int1 (by rfl) mI (by decide +kernel) (pa_cons (pe_ix ix_list (pv 0) pe_int (fun _ _ => rfl)) pa_nil)) (pv 1)))
        (pss_cons (ps_asg (pe_op op_fdivW (pe_ix ix_list (pv 0) pe_int (fun _ _ => rfl)) (pv 1)) (pg_sub (pv 0) pe_int set_list))
        (pss_one (ps_ret (pv 2))))) pss_nil)
      (pss_cons (ps_set (i := 3) scTake.nd rfl (Or.inl rfl) pe_int)
      (C8.pss_cut (ps_if (pt_cmpR op_lt (pe_ix ix_list (pv 0) pe_int (fun _ _ => rfl)) (pe_callB call_len_seq (by rfl) mL PySem.boot_len (pa_cons (pe_ix ix_list (pv 0) pe_int (fun _ _ => rfl)) pa_nil)) (nomark _))
        (pss_cons (ps_set (i := 3) scTake.nd rfl (Or.inl rfl) (pe_ix ix_list (pe_ix ix_list (pv 0) pe_int (fun _ _ => rfl)) (pe_ix ix_list (pv 0) pe_int (fun _ _ => rfl)) (fun _ _ => rfl)))
        (pss_one (ps_asg (pe_op op_add (pe_ix ix_list (pv 0) pe_int (fun _ _ => rfl)) pe_int) (pg_sub (pv 0) pe_int set_list)))) pss_nil)
      (pss_cons (ps_if (pt_cmpR op_ge (pv 3) (pe_op op_pow pe_int pe_int) (nomark _))
        (pss_cons (ps_asg (pe_op op_fdivW (pv 3) (pv 1)) (pg_sub (pv 0) pe_int set_list))
        (pss_one (ps_ret (pe_op op_modN (pe_callTy call_int1 (by rfl) mI (by decide +kernel) (pa_cons (pv 3) pa_nil)) (pv 1))))) pss_nil)
      (pss_cons (ps_asg (pe_op op_add (pe_ix ix_list (pv 0) pe_int (fun _ _ => rfl)) pe_int) (pg_sub (pv 0) pe_int set_list))
      (pss_cons (ps_asg (pe_op op_mod (pe_callTy call_int1 (by rfl) mI (by decide +kernel) (pa_cons (pe_op op_add (pe_op op_add (pe_op op_mul (pe_ix ix_list (pv 0) pe_int (fun _ _ => rfl)) pe_int) (pv 3)) (pe_op op_mul (pe_ix ix_list (pv 0) pe_int (fun _ _ => rfl)) pe_int)) pa_nil)) pe_int) (pg_sub (pv 0) pe_int set_list))
      (pss_one (ps_ret (pe_op op_modN (pe_op op_fdiv (pe_op op_mod (pe_callTy call_int1 (by rfl) mI (by decide +kernel) (pa_cons (pe_op op_mul (pe_ix ix_list (pv 0) pe_int (fun _ _ => rfl)) (pe_ix ix_list (pv 0) pe_int (fun _ _ => rfl))) pa_nil)) pe_int) pe_int) (pv 1))))))))), ?_⟩
    have at2 : ∀ (a0 a1 a2 a3 a4 : V), atI [a0, a1, a2, a3, a4] 2 = some a2 := fun _ _ _ _ _ => rfl
    -- if bag[2] >= 10 ** 18
    refine ⟨_, rfl, b, _, _, _, rfl, rfl, SqL.of hb, rfl, 10, 18, rfl, rfl, ⟨by decide, by decide, by decide⟩, _, _, rfl, rfl, _, rfl, ?_⟩
    refine ite2 (fun _ => ?_) (fun _ => ?_)
    · refine ⟨_, rfl, b, _, _, _, rfl, rfl, SqL.of hb, rfl, .inl ⟨_, rfl, ?_⟩⟩
      refine ⟨_, rfl, _, _, rfl, rfl, nn, ?_⟩
      refine ⟨_, rfl, b, _, _, _, rfl, rfl, SqL.of hb, rfl, _, rfl, _, _, rfl, rfl, ⟨wd.1, wd.2⟩, ?_⟩
      refine ⟨_, rfl, b, _, _, 2, rfl, rfl, hb, rfl, ?_⟩
      refine ⟨_, rfl, k _ _ (fm_nn _ n0).1 (fm_nn _ n0).2 ⟨l, ns, p, q / n, r, c, upd_same, ?_, p0, r0, r1⟩ bag_keep⟩
      rw [upd_ne (ne_of hl hb (by intro z; cases ns with | nil => cases z | cons a t => cases z))]
      exact hl
    · -- cell = 0; the join
      refine ⟨fun σ' H' => ∃ (p' cell : Int) (v : Option V), σ' = [some (.ref b), some (.int n), v, some (.int cell)] ∧ 0 ≤ p' ∧ H' b = some (.lst [.ref l, .int p', .int q, .int r, .int c]) ∧ H' l = some (.lst (ns.map V.int)) ∧ Keep b H H', ?_, ?_⟩
      · refine ⟨_, rfl, b, _, _, _, rfl, rfl, SqL.of hb, rfl, _, rfl, b, _, _, _, rfl, rfl, SqL.of hb, rfl, l, _, rfl, .inl (SqL.of hl), _, _, rfl, rfl, _, rfl, ?_⟩
        refine ite2 (fun hp => ?_) (fun _ => ?_)
        · have hp' : p < ((ns.map V.int).length : Int) := of_decide_eq_true hp
          rw [List.length_map] at hp'
          obtain ⟨m, rfl⟩ : ∃ m : Nat, p = (m : Int) := ⟨p.toNat, by omega⟩
          have hm : m < ns.length := by omega
          refine ⟨_, rfl, b, _, _, _, rfl, rfl, SqL.of hb, rfl, _, rfl, b, _, _, _, rfl, rfl, SqL.of hb, rfl, l, _, _, .int ns[m], rfl, rfl, SqL.of hl, atI_nat (by rw [List.getElem?_map, List.getElem?_eq_getElem hm]; rfl), ?_⟩
          refine ⟨_, rfl, b, _, _, _, rfl, rfl, SqL.of hb, rfl, _, _, rfl, rfl, ?_⟩
          refine ⟨_, rfl, b, _, _, 1, rfl, rfl, hb, rfl, ?_⟩
          refine ⟨(m : Int) + 1, ns[m], none, rfl, by omega, upd_same, ?_, bag_keep⟩
          rw [upd_ne (ne_of hl hb (by intro z; cases ns with | nil => cases z | cons a t => cases z))]
          exact hl
        · exact ⟨p, 0, none, rfl, p0, hb, hl, Keep.refl⟩
      · rintro σ' H' ⟨p', cell, v, rfl, p0', hb', hl', kp⟩
        have hbl : ∀ o, upd H' b o l = some (.lst (ns.map V.int)) := fun o => by
          rw [upd_ne (ne_of hl' hb' (by intro z; cases ns with | nil => cases z | cons a t => cases z))]
          exact hl'
        refine ⟨_, rfl, 10, 18, rfl, rfl, ⟨by decide, by decide, by decide⟩, _, _, rfl, rfl, _, rfl, ?_⟩
        refine ite2 (fun _ => ?_) (fun _ => ?_)
        · refine ⟨_, rfl, _, rfl, _, _, rfl, rfl, ⟨wd.1, wd.2⟩, ?_⟩
          refine ⟨_, rfl, b, _, _, 2, rfl, rfl, hb', rfl, ?_⟩
          refine ⟨_, rfl, .inl ⟨_, rfl, ?_⟩⟩
          refine ⟨_, rfl, _, _, rfl, rfl, nn, ?_⟩
          exact k _ _ (fm_nn _ n0).1 (fm_nn _ n0).2 ⟨l, ns, p', cell / n, r, c, upd_same, hbl _, p0', r0, r1⟩ (kp.trans bag_keep)
        · refine ⟨_, rfl, b, _, _, _, rfl, rfl, SqL.of hb', rfl, _, _, rfl, rfl, ?_⟩
          refine ⟨_, rfl, b, _, _, 4, rfl, rfl, hb', rfl, ?_⟩
          refine ⟨_, rfl, b, _, _, _, rfl, rfl, SqL.of upd_same, rfl, _, _, rfl, rfl, .inr (by decide), ?_⟩
          refine ⟨_, rfl, _, _, rfl, rfl, ?_⟩
          refine ⟨_, rfl, b, _, _, _, rfl, rfl, SqL.of upd_same, rfl, _, _, rfl, rfl, .inr (by decide), ?_⟩
          refine ⟨_, _, rfl, rfl, .inl ⟨_, rfl, ?_⟩⟩
          refine ⟨_, _, rfl, rfl, (by show (0 : Int) < 2147483647; decide), ?_⟩
          refine ⟨_, rfl, b, _, _, 3, rfl, rfl, upd_same, rfl, ?_⟩
          have z0 : ∀ x : Int, 0 ≤ x % 2147483647 ∧ x % 2147483647 < 2147483647 := fun x => by omega
          generalize (r * 48271 + cell + (c + 1) * 69621 : Int) = x
          obtain ⟨y0, y1⟩ := z0 x
          refine ⟨_, rfl, b, _, _, _, rfl, rfl, SqL.of upd_same, rfl, _, rfl, b, _, _, _, rfl, rfl, SqL.of upd_same, rfl, _, _, rfl, rfl, .inl ⟨by omega, by omega⟩, .inl ⟨_, rfl, ?_⟩⟩
          refine ⟨_, _, rfl, rfl, (by show (0 : Int) < 2147483629; decide), ?_⟩
          refine ⟨_, _, rfl, rfl, ⟨by decide, by decide⟩, ?_⟩
          refine ⟨_, rfl, _, _, rfl, rfl, nn, ?_⟩
          refine k _ _ (fm_nn _ n0).1 (fm_nn _ n0).2 ⟨l, ns, p', q, x % 2147483647, c + 1, upd_same, ?_, p0', y0, y1⟩ ((kp.trans bag_keep).trans bag_keep)
          rw [upd_upd]
          exact hbl _
end
/-! ### rules of my own -/
section
variable {X : Cx}
/-- // by any divisor but 0, below 2 ^ 9000 in size -/
def CDivX (_ j : Int) : Prop := j ≠ 0 ∧ j.natAbs.log2 < 9000
theorem op_fdivX : OpR X (binaryOp .FloorDiv) (rI CDivX fun i j => .int (i.fdiv j)) := opI fun i j _ _ _ _ _ hc q =>
  PyProof.Rows.floordiv_int hc.1 q (.inl (PyProof.noPylong_of_log2 hc.2))
theorem divx {i j : Int} {b : Nat} (h : j ≠ 0) (hb : j.natAbs < 2 ^ b) (h0 : 0 < b) (h9 : b ≤ 9000) : CDivX i j := ⟨h, Nat.lt_of_lt_of_le (PySem.Flt.log2_lt_of h0 hb) h9⟩
/-- C(e, ..) whose __init__ may raise, wished for at the caller's slots -/
def tMakeS (C : Addr) (sp : Sp) (dvs : List V) (E : St → XK) (t : TA) : TE := fun σ H Q => t σ H fun vs H1 => ∀ x dx, H1 x = none → H1 dx = none → dx ≠ x →
  sp (.ref x :: (vs ++ dvs)) (upd (upd H1 dx (.own x)) x (.ins C dx [])) (fun v H2 => v = .non ∧ Q (.ref x) H2) (E σ)
theorem pe_makeS {CX : CXT} {k : Nat} {f C : Addr} {fd : FuncData} {ps : List Str} {sp : Sp} {E : St → XK} {x : Str} {p pos : Pos} {e : Expr} {es : List Expr} {t : TA} {ds : List Value} {dvs : List V}
    (M : Mk X.K C f) (F : FnOk X.prog X.w X.K X.mg X.base CX k f fd ps sp) (hr : Room (k + 1) X.A) (hg : Gl X x) (hm : X.mg x = some (.ref C)) (hb : Binds X.K fd ps ds) (hd : Vals dvs ds) (hx : ∀ σ, PassesAt CX X σ (E σ))
    (ha : PA X (e :: es) t) (hdb : (x == ("__debug__" : Str)) = false := by decide) (he : starEach (e :: es) X.env = (false, eval e X.env) :: starEach es X.env := by rfl) (hpl : (backTo pos (starEach es X.env)).any (·.1) = false := by rfl) :
    PE X (.Call (.Name x p) (e :: es) [] pos) (tMakeS C sp dvs E t) := by
  refine ⟨fun pins s σ H Q I h => ?_⟩
  refine PySem.wpAny_Call_Name_kw (ld_glob I hg hm ?_ hdb)
  refine PySem.W.callWith_K (h₀ := X.base) I.ok.mod.kin M.kp (thn (ha.run pos pins s σ H _ I h) fun us s1 ⟨vs, H1, I1, r, q1⟩ => ⟨I1.kIn, ?_⟩) he hpl
  have hq := q1 (s1.heap.objs.size + 1) s1.heap.objs.size (I1.hok.fresh (Nat.le_succ _)) (I1.hok.fresh (Nat.le_refl _)) (Nat.ne_of_lt (Nat.lt_succ_self _))
  have I2 := Inv.made (C := C) I1
  have r2 : Vals (V.ref (s1.heap.objs.size + 1) :: (vs ++ dvs)) (Value.ref (s1.heap.objs.size + 1) :: (us ++ ds)) := .cons rfl (r.append hd)
  have hl : (Value.ref (s1.heap.objs.size + 1) :: us ++ ds).length = ps.length := by
    have e := r2.length
    rw [F.len _ _ _ _ hq] at e
    exact e.symm
  refine wpAny_call (make_map (f := f) I1.kIn M.makes M.init (beq_iff_eq.mp M.fn) (codeAny_mono (F.run _ X.stack _ _ ⟨Value.ref (s1.heap.objs.size + 1) :: us, []⟩ (Value.ref (s1.heap.objs.size + 1) :: (us ++ ds)) _ _ (E σ) (hr.make C us [])
    (I2.env0.make C us []) (hb _ (Value.ref (s1.heap.objs.size + 1) :: us) I2.kIn hl) r2 hq) fun r s' hq' => ?_))
  cases r with
  | error e => exact hx σ pins _ _ e s' I2 hq'
  | ok fl =>
    cases fl with
    | ret u =>
      obtain ⟨v, H', I3, rv, ev, q3⟩ := I2.after hq'
      subst ev
      exact ⟨rv, ⟨V.ref (s1.heap.objs.size + 1), H', I3, rfl, q3⟩⟩
    | next => exact False.elim hq'
    | brk => exact False.elim hq'
    | cont => exact False.elim hq'
end
/-! ### an own error with one field -/
theorem upd_exc {H : Hp} {a dx : Addr} {u1 u2 u3 o : HO} (ha : H a = none) (hd : dx ≠ a) : upd (del (upd (upd (upd H a u1) dx u2) a u3) a) dx o = upd H dx o := by
  funext b
  by_cases h1 : b = dx
  · rw [h1, upd_same, upd_same]
  · rw [upd_ne h1, upd_ne h1]
    by_cases h2 : b = a
    · rw [h2, del_same, ha]
    · rw [del_ne h2, upd_ne h2, upd_ne h1, upd_ne h2]
/-- C.__init__(self, y): self.f = y -/
def spEx1 (C : Addr) (f : Str) : Sp := fun vs H Q _ => ∃ (a : Addr) (y : V), vs = [.ref a, y] ∧ H a = some (exo a C none) ∧ ∀ dx, H dx = none → dx ≠ a → Q .non (upd (upd H dx (exd dx [(f, y)])) a (exo a C (some dx)))
theorem mkO1 {C : Addr} {f : Str} {ta : TA} {σ : St} {H : Hp} {Q : XK} (h : ta σ H fun vs H1 => ∃ y, vs = [y] ∧ ∀ d, H1 d = none → Q (.ref C) (some d) (upd H1 d (.xd [(f, y)]))) (hm : ∀ (P R : List V → Hp → Prop), (∀ vs H, P vs H → R vs H) → ta σ H P → ta σ H R) : tMkO C (spEx1 C f) [] ta σ H Q := by
  refine hm _ _ (fun vs H1 ⟨y, ev, k⟩ => ?_) h
  subst ev
  refine ⟨by show 1 ≤ 1000; decide, fun a na => ⟨a, y, rfl, upd_same, fun dx hdx nda => ⟨rfl, dx, [(f, y)], upd_same, ?_, ?_, ?_⟩⟩⟩
  · rw [upd_ne nda, upd_same]
  · rw [upd_ne nda] at hdx
    exact hdx
  · rw [upd_exc na nda]
    rw [upd_ne nda] at hdx
    exact k dx hdx
/-- what the written part says of such a class and its __init__ -/
structure ErrC (K : PySem.W.Frag) (mg : Str → Option Value) (x : Str) (C fI : Addr) : Prop where
  g : mg x = some (.ref C)
  T : OexC K C
  iC : PySem.W.findIn K (.ref C) "__init__" = some (some (.ref fI))
  tI : PySem.W.typeIn K (.ref fI) = some (.type "function")
/-- raise C(e) -/
def tRaise1 (C : Addr) (f : Str) (W : WX) (te : TE) : TS := fun _ σ H => te σ H fun y H1 => ∀ d, H1 d = none → W (.ref C) (some d) σ (upd H1 d (.xd [(f, y)]))
section
variable {X : Cx}
theorem ps_raise1 {CX : CXT} {x f : Str} {C fI : Addr} {k : Nat} {fd : FuncData} {te : TE} {W : WX} {a : Expr} {p pos pos2 : Pos} (R : ErrC X.K X.mg x C fI) (F1 : FnOk X.prog X.w X.K X.mg X.base CX k fI fd ["self", f] (spEx1 C f)) (hr : Room (k + 1) X.A) (hb : Binds X.K fd ["self", f] [])
    (hx : Passes CX X (fun _ _ _ => False)) (hc : X.calm = true) (tk : Takes X W) (ha : PE X a te) (hm : ∀ σ H (P R : V → Hp → Prop), (∀ v H, P v H → R v H) → te σ H P → te σ H R) (hg : Gl X x := by rfl) (hdb : (x == ("__debug__" : Str)) = false := by decide)
    (he : starEach (a :: []) X.env = (false, eval a X.env) :: starEach [] X.env := by rfl) (hpl : (backTo pos (starEach [] X.env)).any (·.1) = false := by rfl) :
    PS X (.Raise (some (.Call (.Name x p) [a] [] pos)) none pos2) (tRaise1 C f W te) := by
  have q := ps_raise hc tk (pmk_oex (p := p) (e := a) (es := []) R.T R.iC R.tI F1 hr hb .nil hx hg R.g (pa_cons ha pa_nil he) hdb he hpl) (pos := pos2)
  refine ⟨fun pins s σ H D I h => q.run pins s σ H D I ?_⟩
  refine mkO1 (f := f) ?_ (fun P R hpr h => ?_)
  · exact hm σ H _ _ (fun y H1 k => ⟨y, rfl, k⟩) h
  · exact hm σ H _ _ (fun v H1 k => hpr _ _ k) h
theorem mono_tVar {i : Nat} (σ : St) (H : Hp) (P R : V → Hp → Prop) (h : ∀ v H, P v H → R v H) : tVar i σ H P → tVar i σ H R := fun ⟨v, e, p⟩ => ⟨v, e, h v H p⟩
end
/-! ### kinds of values -/
/-- v is an int (a truth value too): i; a truth value: b -/
def Kd (K : PySem.W.Frag) (H : Hp) (v : V) (i b : Bool) : Prop := ∃ T : String, TyX K H v (.type T) ∧ kitB T "int" = some i ∧ kitB T "bool" = some b
theorem Kd.int {K : PySem.W.Frag} {H : Hp} {n : Int} : Kd K H (.int n) true false := ⟨"int", .base (.int n), by decide +kernel, by decide +kernel⟩
theorem Kd.bl {K : PySem.W.Frag} {H : Hp} {n : Bool} : Kd K H (.bl n) true true := ⟨"bool", .base (.bl n), by decide +kernel, by decide +kernel⟩
theorem Kd.non {K : PySem.W.Frag} {H : Hp} : Kd K H .non false false := ⟨"NoneType", .base .non, by decide +kernel, by decide +kernel⟩
theorem Kd.str {K : PySem.W.Frag} {H : Hp} {z : Str} : Kd K H (.str z) false false := ⟨"str", .base (.str z), by decide +kernel, by decide +kernel⟩
theorem Kd.lst {K : PySem.W.Frag} {H : Hp} {a : Addr} {xs : List V} (e : H a = some (.lst xs)) : Kd K H (.ref a) false false := ⟨"list", .base (.lst e), by decide +kernel, by decide +kernel⟩
theorem Kd.tup {K : PySem.W.Frag} {H : Hp} {a : Addr} {xs : List V} (e : H a = some (.tup xs)) : Kd K H (.ref a) false false := ⟨"tuple", .base (.tup e), by decide +kernel, by decide +kernel⟩
/-! ### is_whole, and the law's own of that shape -/
def spWhole (K : PySem.W.Frag) : Sp := fun vs H Q _ => ∃ (v : V) (i b : Bool), vs = [v] ∧ Kd K H v i b ∧ Q (.bl (i && !b)) H
section
variable {P : Program} {w : World} {K : PySem.W.Frag} {mg : Str → Option Value} {base : Heap}
abbrev sWhole : Stmt := top 6
theorem scWhole : FnScope ["value"] ["value"] (defScope sWhole) := ⟨rfl, rfl, rfl, by decide +kernel, rfl, by decide +kernel, by decide +kernel⟩
theorem ok_whole {f : Addr} {fd : FuncData} (F : Fun K "is_whole" "is_whole" sWhole f fd) (mIs : mg "isinstance" = none) (mI : mg "int" = none) (mB : mg "bool" = none) : FnOk P w K mg base CX0 1 f fd ["value"] (spWhole K) := by
  refine F.ok scWhole (fun vs H Q E h => ?_) (fun cdv A outer s H vs Q E hr h => ?_)
  · obtain ⟨v, i, b, rfl, _⟩ := h
    rfl
  · obtain ⟨v, i, b, rfl, ⟨T, ty, k1, k2⟩, k⟩ := h
    refine ⟨_, pss_one (ps_ret (pe_and (pe_callB call_isi (by rfl) mIs (by decide +kernel) (pa_cons (pv 0) (pa_cons (pe_bltn (v := .ty "int") (by rfl) mI (by decide +kernel) rfl) pa_nil)))
      (pe_one (pe_not (pe_callB call_isi (by rfl) mIs (by decide +kernel) (pa_cons (pv 0) (pa_cons (pe_bltn (v := .ty "bool") (by rfl) mB (by decide +kernel) rfl) pa_nil))))))), ?_⟩
    refine ⟨_, rfl, _, _, _, _, i, rfl, .ty "int", ty, kit_ty k1, i, rfl, ?_⟩
    cases i with
    | false => exact iteF k
    | true =>
      refine iteT ?_
      exact ⟨_, rfl, _, _, _, _, b, rfl, .ty "bool", ty, kit_ty k2, b, rfl, k⟩
/-! ### an error's __init__ -/
abbrev sEI : Stmt := inClass (top 4) 0
theorem scEI : FnScope ["self", "value"] ["self", "value"] (defScope sEI) := ⟨rfl, rfl, rfl, by decide +kernel, rfl, by decide +kernel, by decide +kernel⟩
theorem ok_ei {f C : Addr} {fd : FuncData} (F : Fun K "__init__" "InvalidNumber.__init__" sEI f fd) (T : OexC K C) (hno : PySem.W.findIn K (.ref C) "value" = some none) : FnOk P w K mg base CX0 1 f fd ["self", "value"] (spEx1 C "value") := by
  refine F.ok scEI (fun vs H Q E h => ?_) (fun cdv A outer s H vs Q E hr h => ?_)
  · obtain ⟨v, i, rfl, _⟩ := h
    rfl
  · obtain ⟨a, y, rfl, ha, k⟩ := h
    refine ⟨_, pss_one (ps_ost (pv 0) (pv 1)), ?_⟩
    exact ⟨_, rfl, _, rfl, a, C, rfl, T, hno, .inl ⟨ha, fun dx n ne => k dx n ne⟩⟩
/-! ### Ratio.__init__ -/
/-- the common divisor, with the bottom's sign -/
def cmn (m n : Int) : Int := if n < 0 then -((Nat.gcd m.natAbs n.natAbs : Nat) : Int) else ((Nat.gcd m.natAbs n.natAbs : Nat) : Int)
theorem cmn_ne {m n : Int} (h : n ≠ 0) : cmn m n ≠ 0 := by
  have z : 0 < Nat.gcd m.natAbs n.natAbs := Nat.gcd_pos_of_pos_right _ (by omega)
  unfold cmn
  split <;> omega
theorem cmn_lt {m n : Int} {b : Nat} (h : n ≠ 0) (hb : n.natAbs < 2 ^ b) : (cmn m n).natAbs < 2 ^ b := by
  have z : Nat.gcd m.natAbs n.natAbs ≤ n.natAbs := Nat.gcd_le_right _ (by omega)
  unfold cmn
  split <;> omega
theorem ne_tb : ¬ (("top" : Str) = "bottom") := by decide +kernel
/-- a ratio's fields -/
def rfl2 (a b : Int) : List (Str × V) := putF "bottom" (.int b) (putF "top" (.int a) [])
theorem rfl2_top (a b : Int) : (rfl2 a b).lookup ("top" : Str) = some (.int a) := by
  unfold rfl2
  rw [lookup_putF, if_neg ne_tb, lookup_putF, if_pos rfl]
theorem rfl2_bottom (a b : Int) : (rfl2 a b).lookup ("bottom" : Str) = some (.int b) := by
  unfold rfl2
  rw [lookup_putF, if_pos rfl]
theorem rfl2_no (a b : Int) {m : Str} (h1 : ¬ m = "bottom") (h2 : ¬ m = "top") : (rfl2 a b).lookup m = none := by
  unfold rfl2
  rw [lookup_putF, if_neg h1, lookup_putF, if_neg h2]
  all_goals rfl
def spInit (K : PySem.W.Frag) (C CI : Addr) : Sp := fun vs H Q E => ∃ (p dx : Addr) (t u : V) (i b j c : Bool), vs = [.ref p, t, u] ∧ H p = some (.ins C dx []) ∧ Kd K H t i b ∧ Kd K H u j c ∧
  ((i && !b) = false → ∀ d, H d = none → E (.ref CI) (some d) (upd H d (.xd [("value", t)]))) ∧
  ((i && !b) = true → (j && !c) = false → ∀ d, H d = none → E (.ref CI) (some d) (upd H d (.xd [("value", u)]))) ∧
  ((i && !b) = true → (j && !c) = true → ∃ m n : Int, t = .int m ∧ u = .int n ∧ n.natAbs < 2 ^ 900 ∧ (n = 0 → ∀ d, H d = none → E (.ref CI) (some d) (upd H d (.xd [("value", u)]))) ∧
    (n ≠ 0 → Q .non (upd H p (.ins C dx (rfl2 (m.fdiv (cmn m n)) (n.fdiv (cmn m n)))))))
/-- what is asked of the text around Ratio -/
structure TxR (K : PySem.W.Frag) (mg : Str → Option Value) (C CI fE fW : Addr) : Prop where
  cl : Cls K C
  nT : NoAttr K C "top"
  nB : NoAttr K C "bottom"
  mgC : mg "Ratio" = some (.ref C)
  err : ErrC K mg "InvalidNumber" CI fE
  mgW : mg "is_whole" = some (.ref fW)
  kW : PySem.W.keepIn K (.ref fW) = true
  mgG : mg "gcd" = some (.builtin "math.gcd")
abbrev sInit : Stmt := inClass (top 9) 1
theorem scInit : FnScope ["self", "top", "bottom", "common"] ["self", "top", "bottom"] (defScope sInit) := ⟨rfl, rfl, rfl, by decide +kernel, rfl, by decide +kernel, by decide +kernel⟩
theorem ok_init {f C CI fE fW : Addr} {fd fdE fdW : FuncData} (F : FunD K "__init__" "Ratio.__init__" (defArgs sInit) (defBody sInit) (defScope sInit) [.int 1] [] f fd) (T : TxR K mg C CI fE fW)
    (GE : FnOk P w K mg base CX0 1 fE fdE ["self", "value"] (spEx1 CI "value")) (bE : Binds K fdE ["self", "value"] []) (GW : FnOk P w K mg base CX0 1 fW fdW ["value"] (spWhole K)) (bW : Binds K fdW ["value"] []) : FnOk P w K mg base (L2.CX P w) 3 f fd ["self", "top", "bottom"] (spInit K C CI) := by
  refine F.ok scInit (fun vs H Q E h => ?_) (fun cdv A outer s H vs Q E hr h => ?_)
  · obtain ⟨p, dx, t, u, i, b, j, c, rfl, _⟩ := h
    rfl
  · obtain ⟨p, dx, t, u, i, b, j, c, rfl, hp, kt, ku, e1, e2, e3⟩ := h
    have hr1 : Room 1 _ := hr.mono (by decide)
    refine ⟨_, pss_cons (ps_if (pt_not (pt_val (pe_call GW hr1 (by rfl) T.mgW T.kW bW .nil pass0 (pa_cons (pv 1) pa_nil)))) (pss_one (ps_raise1 T.err GE hr bE pass0 rfl (takes_of rfl rfl rfl rfl) (pv 1) (fun σ H P R h => mono_tVar σ H P R h))) pss_nil)
      (pss_cons (ps_if (PW.pt (pw_or (pt_not (pt_val (pe_call GW hr1 (by rfl) T.mgW T.kW bW .nil pass0 (pa_cons (pv 2) pa_nil)))) (pw_or1 (pt_cmpR op_eq (pv 2) pe_int (nomark _))))) (pss_one (ps_raise1 T.err GE hr bE pass0 rfl (takes_of rfl rfl rfl rfl) (pv 2) (fun σ H P R h => mono_tVar σ H P R h))) pss_nil)
      (pss_cons (ps_set (i := 3) scInit.nd rfl (Or.inl rfl) (pe_callBfun cr_gcd (by rfl) T.mgG (pa_cons (pv 1) (pa_cons (pv 2) pa_nil))))
      (C8.pss_cut (ps_if (pt_cmpR op_lt (pv 2) pe_int (nomark _)) (pss_one (ps_set (i := 3) scInit.nd rfl (Or.inl rfl) (pe_un un_neg (pv 3)))) pss_nil)
      (pss_cons (ps_fld (pv 0) (pe_op op_fdivX (pv 1) (pv 3)) rfl)
      (pss_one (ps_fld (pv 0) (pe_op op_fdivX (pv 2) (pv 3)) rfl)))))), ?_⟩
    refine ⟨_, rfl, t, i, b, rfl, kt, _, rfl, ?_⟩
    cases hi : (i && !b) with
    | false => exact iteT ⟨_, rfl, fun d hd => e1 hi d hd⟩
    | true =>
      refine iteF ⟨_, rfl, u, j, c, rfl, ku, _, rfl, ?_⟩
      cases hj : (j && !c) with
      | false => exact iteT (iteT ⟨_, rfl, fun d hd => e2 hi hj d hd⟩)
      | true =>
        obtain ⟨m, n, rfl, rfl, hn, k0, k1⟩ := e3 hi hj
        refine iteF ⟨_, rfl, rfl, _, rfl, ?_⟩
        rw [dec_int]
        by_cases n0 : n = 0
        · rw [show (n == 0) = true from beq_iff_eq.mpr n0]
          exact iteT ⟨_, rfl, fun d hd => k0 n0 d hd⟩
        · rw [show (n == 0) = false from beq_eq_false_iff_ne.mpr n0]
          refine iteF ⟨_, rfl, _, rfl, m, n, rfl, ?_⟩
          refine ⟨fun σ' H' => H' = H ∧ σ' = [some (.ref p), some (.int m), some (.int n), some (.int (cmn m n))], ?_, ?_⟩
          · refine ⟨_, rfl, _, _, rfl, rfl, _, rfl, ?_⟩
            refine ite2 (fun h0 => ?_) (fun h0 => ?_)
            · refine ⟨_, rfl, _, rfl, rfl, ?_⟩
              unfold cmn
              rw [if_pos (of_decide_eq_true h0)]
              rfl
            · refine ⟨rfl, ?_⟩
              unfold cmn
              rw [if_neg (fun z => h0 (decide_eq_true z))]
              rfl
          · rintro σ' H' ⟨rfl, rfl⟩
            have cn := cmn_ne (m := m) n0
            have cw := cmn_lt (m := m) n0 hn
            refine ⟨_, rfl, _, rfl, _, _, rfl, rfl, divx cn cw (by decide) (by decide), _, rfl, p, C, dx, _, rfl, hp, T.cl, T.nT, (by show 0 < 1000; decide), ?_⟩
            refine ⟨_, rfl, _, rfl, _, _, rfl, rfl, divx cn cw (by decide) (by decide), _, rfl, p, C, dx, _, rfl, upd_same, T.cl, T.nB, (by show 1 < 1000; decide), ?_⟩
            have q := k1 n0
            show Q .non _
            rw [upd_upd]
            exact q
end
/-! ### what stays -/
theorem TyOf.sm {K : PySem.W.Frag} {H H' : Hp} {v : V} {t : Value} (s : Same H H') (h : TyOf K H v t) : TyOf K H' v t := by
  cases h with
  | non => exact .non
  | bl x => exact .bl x
  | int i => exact .int i
  | str x => exact .str x
  | flt x => exact .flt x
  | lst e => exact .lst (s _ _ e)
  | frz e => exact .frz (s _ _ e)
  | tup e => exact .tup (s _ _ e)
  | dK e => exact .dK (s _ _ e)
  | dT e => exact .dT (s _ _ e)
  | ins e cl ha hn htk hm => exact .ins (s _ _ e) cl ha hn htk hm
theorem TyX.sm {K : PySem.W.Frag} {H H' : Hp} {v : V} {t : Value} (s : Same H H') (h : TyX K H v t) : TyX K H' v t := by
  cases h with
  | base b => exact .base (TyOf.sm s b)
  | byt b => exact .byt b
  | set e => exact .set (s _ _ e)
  | kList e c => exact .kList e c
  | kTuple e c => exact .kTuple e c
  | kDict e c => exact .kDict e c
  | fTuple e => exact .fTuple (s _ _ e)
  | fDict e => exact .fDict (s _ _ e)
theorem Kd.sm {K : PySem.W.Frag} {H H' : Hp} {v : V} {i b : Bool} (s : Same H H') : Kd K H v i b → Kd K H' v i b := fun ⟨T, ty, k1, k2⟩ => ⟨T, TyX.sm s ty, k1, k2⟩
theorem same_upd {H : Hp} {a : Addr} {o : HO} (h : H a = none) : Same H (upd H a o) := fun b u e => by
  rw [upd_ne (ne_of_none e h)]
  exact e
theorem fresh_of {H : Hp} {a b : Addr} {u : HO} (h : H a = none) (e : H b = some u) : b ≠ a := fun z => by rw [z, h] at e; cases e
/-! ### the law's own numbers -/
def est (s : Nat × Nat) : Nat × Nat := if 0 < s.2 then (s.2, s.1 % s.2) else s
def eus : Nat → Nat × Nat → Nat × Nat
  | 0, s => s
  | k + 1, s => est (eus k s)
theorem est_gcd (s : Nat × Nat) : Nat.gcd (est s).1 (est s).2 = Nat.gcd s.1 s.2 := by
  unfold est
  split
  · show Nat.gcd s.2 (s.1 % s.2) = Nat.gcd s.1 s.2
    rw [Nat.gcd_comm s.1 s.2, Nat.gcd_rec s.2 s.1, Nat.gcd_comm]
  · rfl
theorem eus_gcd (s : Nat × Nat) : ∀ k, Nat.gcd (eus k s).1 (eus k s).2 = Nat.gcd s.1 s.2
  | 0 => rfl
  | k + 1 => (est_gcd _).trans (eus_gcd s k)
theorem est_half (s : Nat × Nat) : (est (est s)).2 ≤ s.2 / 2 := by
  obtain ⟨a, b⟩ := s
  by_cases hb : 0 < b
  · have e : est (a, b) = (b, a % b) := if_pos hb
    rw [e]
    have hr : a % b < b := Nat.mod_lt _ hb
    by_cases h0 : 0 < a % b
    · have e2 : est (b, a % b) = (a % b, b % (a % b)) := if_pos h0
      rw [e2]
      show b % (a % b) ≤ b / 2
      generalize a % b = r at *
      have h1 : b % r < r := Nat.mod_lt _ h0
      have h2 : b % r + r ≤ b := by
        have e4 := Nat.div_add_mod b r
        have e5 : 1 ≤ b / r := (Nat.one_le_div_iff h0).mpr (Nat.le_of_lt hr)
        have e6 : r * 1 ≤ r * (b / r) := Nat.mul_le_mul_left r e5
        omega
      omega
    · have e2 : est (b, a % b) = (b, a % b) := if_neg h0
      rw [e2]
      show a % b ≤ b / 2
      omega
  · have e : est (a, b) = (a, b) := if_neg hb
    rw [e, e]
    show b ≤ b / 2
    omega
theorem eus_small (s : Nat × Nat) : ∀ k, (eus (2 * k) s).2 ≤ s.2 / 2 ^ k
  | 0 => by show s.2 ≤ s.2 / 1; omega
  | k + 1 => by
    have h := eus_small s k
    have e : eus (2 * (k + 1)) s = est (est (eus (2 * k) s)) := rfl
    rw [e, Nat.pow_succ, ← Nat.div_div_eq_div_mul]
    exact Nat.le_trans (est_half _) (Nat.div_le_div_right h)
theorem eus_end (s : Nat × Nat) (h : s.2 < 2 ^ 200) : (eus 400 s).1 = Nat.gcd s.1 s.2 := by
  have h1 := eus_small s 200
  have h2 : s.2 / 2 ^ 200 = 0 := Nat.div_eq_of_lt h
  have h3 : (eus 400 s).2 = 0 := by
    have e : (eus 400 s).2 ≤ s.2 / 2 ^ 200 := h1
    omega
  have g := eus_gcd s 400
  rw [h3, Nat.gcd_zero_right] at g
  exact g
def spIs (C : Addr) : Sp := fun vs H Q _ => ∃ (p q dx : Addr) (a b c d : Int), vs = [.ref p, .ref q] ∧ H p = some (.ins C dx (rfl2 a b)) ∧ H q = some (.tup [.int c, .int d]) ∧ Q (.bl (decide (a = c) && decide (b = d))) H
def spLowest : Sp := fun vs H Q _ => ∃ (m n : Int), vs = [.int m, .int n] ∧ n ≠ 0 ∧ n.natAbs < 2 ^ 200 ∧ ∀ q, H q = none → Q (.ref q) (upd H q (.tup [.int (m.fdiv (cmn m n)), .int (n.fdiv (cmn m n))]))
section
variable {P : Program} {w : World} {K : PySem.W.Frag} {mg : Str → Option Value} {base : Heap}
abbrev sInt : Stmt := top 18
theorem scInt : FnScope ["_law_actual"] ["_law_actual"] (defScope sInt) := ⟨rfl, rfl, rfl, by decide +kernel, rfl, by decide +kernel, by decide +kernel⟩
theorem ok_int {f : Addr} {fd : FuncData} (F : Fun K "_law_int" "_law_int" sInt f fd) (mIs : mg "isinstance" = none) (mI : mg "int" = none) (mB : mg "bool" = none) : FnOk P w K mg base CX0 1 f fd ["_law_actual"] (spWhole K) := by
  refine F.ok scInt (fun vs H Q E h => ?_) (fun cdv A outer s H vs Q E hr h => ?_)
  · obtain ⟨v, i, b, rfl, _⟩ := h
    rfl
  · obtain ⟨v, i, b, rfl, ⟨T, ty, k1, k2⟩, k⟩ := h
    refine ⟨_, pss_one (ps_ret (pe_and (pe_callB call_isi (by rfl) mIs (by decide +kernel) (pa_cons (pv 0) (pa_cons (pe_bltn (v := .ty "int") (by rfl) mI (by decide +kernel) rfl) pa_nil)))
      (pe_one (pe_not (pe_callB call_isi (by rfl) mIs (by decide +kernel) (pa_cons (pv 0) (pa_cons (pe_bltn (v := .ty "bool") (by rfl) mB (by decide +kernel) rfl) pa_nil))))))), ?_⟩
    refine ⟨_, rfl, _, _, _, _, i, rfl, .ty "int", ty, kit_ty k1, i, rfl, ?_⟩
    cases i with
    | false => exact iteF k
    | true =>
      refine iteT ?_
      exact ⟨_, rfl, _, _, _, _, b, rfl, .ty "bool", ty, kit_ty k2, b, rfl, k⟩
abbrev sIs : Stmt := top 19
theorem scIs : FnScope ["_law_actual", "_law_due"] ["_law_actual", "_law_due"] (defScope sIs) := ⟨rfl, rfl, rfl, by decide +kernel, rfl, by decide +kernel, by decide +kernel⟩
theorem ok_is {f C CI fE fW fN : Addr} {fd fdN : FuncData} (F : Fun K "_law_is" "_law_is" sIs f fd) (T : TxR K mg C CI fE fW) (IC : C8.InsC K C) (mIs : mg "isinstance" = none)
    (GN : FnOk P w K mg base CX0 1 fN fdN ["_law_actual"] (spWhole K)) (bN : Binds K fdN ["_law_actual"] []) (mN : mg "_law_int" = some (.ref fN)) (kN : PySem.W.keepIn K (.ref fN) = true) : FnOk P w K mg base CX0 2 f fd ["_law_actual", "_law_due"] (spIs C) := by
  refine F.ok scIs (fun vs H Q E h => ?_) (fun cdv A outer s H vs Q E hr h => ?_)
  · obtain ⟨p, q, dx, a, b, c, d, rfl, _⟩ := h
    rfl
  · obtain ⟨p, q, dx, a, b, c, d, rfl, hp, hq, k⟩ := h
    refine ⟨_, pss_cons (ps_if (PW.pt (pw_or (pt_not (pt_val (pe_callB (C8.call_isC IC) (by rfl) mIs (by decide +kernel) (pa_cons (pv 0) (pa_cons (pe_glob (v := .ref C) (by rfl) T.mgC rfl) pa_nil)))))
        (pw_or (pt_not (pt_val (pe_call GN hr (by rfl) mN kN bN .nil pass0 (pa_cons (pe_fld (pv 0) rfl) pa_nil))))
        (pw_or1 (pt_not (pt_val (pe_call GN hr (by rfl) mN kN bN .nil pass0 (pa_cons (pe_fld (pv 0) rfl) pa_nil)))))))) (pss_one (ps_ret pe_bl)) pss_nil)
      (pss_one (ps_ret (pe_and (pe_cmpR op_eq (pe_fld (pv 0) rfl) (pe_ix ix_tup (pv 1) pe_int (fun _ _ => rfl)) (nomark _)) (pe_one (pe_cmpR op_eq (pe_fld (pv 0) rfl) (pe_ix ix_tup (pv 1) pe_int (fun _ _ => rfl)) (nomark _)))))), ?_⟩
    refine ⟨_, rfl, p, dx, _, rfl, hp, true, rfl, iteF ?_⟩
    refine ⟨_, rfl, p, C, dx, _, _, rfl, hp, T.cl, T.nT, rfl2_top _ _, _, _, _, rfl, Kd.int, _, rfl, iteF ?_⟩
    refine ⟨_, rfl, p, C, dx, _, _, rfl, hp, T.cl, T.nB, rfl2_bottom _ _, _, _, _, rfl, Kd.int, _, rfl, iteF ?_⟩
    refine ⟨_, rfl, p, C, dx, _, _, rfl, hp, T.cl, T.nT, rfl2_top _ _, _, rfl, q, _, _, _, rfl, rfl, SqT.of hq, rfl, rfl, _, rfl, ?_⟩
    rw [dec_int]
    by_cases e : a = c
    · rw [show (a == c) = true from beq_iff_eq.mpr e]
      rw [decide_eq_true e] at k
      refine iteT ⟨_, rfl, p, C, dx, _, _, rfl, hp, T.cl, T.nB, rfl2_bottom _ _, _, rfl, q, _, _, _, rfl, rfl, SqT.of hq, rfl, rfl, ?_⟩
      rw [dec_int]
      exact k
    · rw [show (a == c) = false from beq_eq_false_iff_ne.mpr e]
      rw [decide_eq_false e] at k
      exact iteF k
abbrev sLowest : Stmt := top 16
theorem scLowest : FnScope ["_law_top", "_law_bottom", "_law_left", "_law_right", "_law_k", "_law_rest"] ["_law_top", "_law_bottom"] (defScope sLowest) := ⟨rfl, rfl, rfl, by decide +kernel, rfl, by decide +kernel, by decide +kernel⟩
theorem abs_nat (i : Int) : (if i < 0 then -i else i) = ((i.natAbs : Nat) : Int) := by
  split <;> omega
theorem ok_lowest {f : Addr} {fd : FuncData} (F : Fun K "_law_lowest" "_law_lowest" sLowest f fd) (mA : mg "abs" = none) (mR : mg "range" = none) : FnOk P w K mg base CX0 1 f fd ["_law_top", "_law_bottom"] spLowest := by
  refine F.ok scLowest (fun vs H Q E h => ?_) (fun cdv A outer s H vs Q E hr h => ?_)
  · obtain ⟨m, n, rfl, _⟩ := h
    rfl
  · obtain ⟨m, n, rfl, n0, hn, k⟩ := h
    refine ⟨_, pss_cons (ps_set (i := 2) scLowest.nd rfl (Or.inl rfl) (pe_callB call_abs (by rfl) mA (by decide +kernel) (pa_cons (pv 0) pa_nil)))
      (pss_cons (ps_set (i := 3) scLowest.nd rfl (Or.inl rfl) (pe_callB call_abs (by rfl) mA (by decide +kernel) (pa_cons (pv 1) pa_nil)))
      (pss_cons (ps_for PassesOwn.never rfl (pi_range1 (by rfl) mR (pa_cons pe_int pa_nil)) (pg_name (i := 4) scLowest.nd rfl (Or.inl rfl))
        (pss_one (ps_if (pt_cmpR op_gt (pv 3) pe_int (nomark _)) (pss_cons (ps_set (i := 5) scLowest.nd rfl (Or.inl rfl) (pe_op op_modN (pv 2) (pv 3)))
          (pss_cons (ps_set (i := 2) scLowest.nd rfl (Or.inl rfl) (pv 3)) (pss_one (ps_set (i := 3) scLowest.nd rfl (Or.inl rfl) (pv 5))))) pss_nil)))
      (C8.pss_cut (ps_if (pt_cmpR op_lt (pv 1) pe_int (nomark _)) (pss_one (ps_set (i := 2) scLowest.nd rfl (Or.inl rfl) (pe_op op_sub pe_int (pv 2)))) pss_nil)
      (pss_one (ps_ret (pe_tup (pa_cons (pe_op op_fdivX (pv 0) (pv 2)) (pa_cons (pe_op op_fdivX (pv 1) (pv 2)) pa_nil)))))))), ?_⟩
    refine ⟨_, rfl, m, rfl, _, rfl, n, rfl, ?_⟩
    rw [abs_nat, abs_nat]
    refine ⟨400, rfl, by decide, by decide, for_range (lo := 0) (n := 400) (fun i σ H' => H' = H ∧ ∃ v u : Option V, σ = [some (.int m), some (.int n), some (.int ((eus i (m.natAbs, n.natAbs)).1 : Int)), some (.int ((eus i (m.natAbs, n.natAbs)).2 : Int)), v, u]) ?_ ?_ ?_⟩
    · exact ⟨rfl, none, none, rfl⟩
    · rintro i σ H' hi ⟨rfl, v, u, rfl⟩
      have e : eus (i + 1) (m.natAbs, n.natAbs) = est (eus i (m.natAbs, n.natAbs)) := rfl
      refine ⟨_, rfl, _, _, rfl, rfl, _, rfl, ?_⟩
      refine ite2 (fun h0 => ?_) (fun h0 => ?_)
      · have h1 := of_decide_eq_true h0
        have e1 : est (eus i (m.natAbs, n.natAbs)) = ((eus i (m.natAbs, n.natAbs)).2, (eus i (m.natAbs, n.natAbs)).1 % (eus i (m.natAbs, n.natAbs)).2) := if_pos (by omega)
        refine ⟨_, rfl, _, rfl, _, _, rfl, rfl, by omega, _, rfl, _, rfl, rfl, some (.int (0 + (i : Int))), some (.int (((eus i (m.natAbs, n.natAbs)).1 : Int).fmod ((eus i (m.natAbs, n.natAbs)).2 : Int))), ?_⟩
        have fm : ((eus i (m.natAbs, n.natAbs)).1 : Int).fmod ((eus i (m.natAbs, n.natAbs)).2 : Int) = (((eus i (m.natAbs, n.natAbs)).1 % (eus i (m.natAbs, n.natAbs)).2 : Nat) : Int) := by
          rw [Int.fmod_eq_emod_of_nonneg _ (by omega)]
          rfl
        rw [e, e1]
        show [some (V.int m), some (V.int n), some (V.int ((eus i (m.natAbs, n.natAbs)).2 : Int)), some (V.int (((eus i (m.natAbs, n.natAbs)).1 : Int).fmod ((eus i (m.natAbs, n.natAbs)).2 : Int))), some (V.int (0 + (i : Int))), some (V.int (((eus i (m.natAbs, n.natAbs)).1 : Int).fmod ((eus i (m.natAbs, n.natAbs)).2 : Int)))] = _
        rw [fm]
      · have h1 : ¬ (0 : Int) < ((eus i (m.natAbs, n.natAbs)).2 : Int) := fun z => h0 (decide_eq_true z)
        have e1 : est (eus i (m.natAbs, n.natAbs)) = eus i (m.natAbs, n.natAbs) := if_neg (by omega)
        refine ⟨rfl, some (.int (0 + (i : Int))), u, ?_⟩
        rw [e, e1]
        rfl
    · rintro σ H' ⟨rfl, v, u, rfl⟩
      rw [eus_end _ hn]
      refine ⟨fun σ' H'' => H'' = H' ∧ σ' = [some (.int m), some (.int n), some (.int (cmn m n)), some (.int ((eus 400 (m.natAbs, n.natAbs)).2 : Int)), v, u], ?_, ?_⟩
      · refine ⟨_, rfl, _, _, rfl, rfl, _, rfl, ?_⟩
        refine ite2 (fun h0 => ?_) (fun h0 => ?_)
        · refine ⟨_, rfl, _, _, rfl, rfl, rfl, ?_⟩
          unfold cmn
          rw [if_pos (of_decide_eq_true h0), ← Int.zero_sub]
          rfl
        · refine ⟨rfl, ?_⟩
          unfold cmn
          rw [if_neg (fun z => h0 (decide_eq_true z))]
      · rintro σ' H'' ⟨rfl, rfl⟩
        have cn := cmn_ne (m := m) n0
        have cw := cmn_lt (m := m) n0 hn
        refine ⟨_, rfl, _, rfl, _, _, rfl, rfl, divx cn cw (by decide) (by decide), _, rfl, _, rfl, _, _, rfl, rfl, divx cn cw (by decide) (by decide), by show 2 ≤ sizeLine; decide, fun q hq => k q hq⟩
end
/-! ### what the laws of ratios share -/
structure At (K : PySem.W.Frag) (mg : Str → Option Value) (x : Str) (f : Addr) : Prop where
  g : mg x = some (.ref f)
  k : PySem.W.keepIn K (.ref f) = true
theorem BagAt.sm {H H' : Hp} {b : Addr} (s : Same H H') : BagAt H b → BagAt H' b := fun ⟨l, ns, p, q, r, c, h1, h2, h3⟩ => ⟨l, ns, p, q, r, c, s _ _ h1, s _ _ h2, h3⟩
theorem BagAt.ne {H : Hp} {a b : Addr} : BagAt H b → H a = none → a ≠ b := fun ⟨l, ns, p, q, r, c, h1, _⟩ h z => by rw [z, h1] at h; cases h
theorem atI_in {α : Type} {xs : List α} {d : Int} (h0 : 0 ≤ d) (h1 : d < (xs.length : Int)) : ∃ v, atI xs d = some v ∧ v ∈ xs := by
  obtain ⟨m, rfl⟩ : ∃ m : Nat, d = (m : Int) := ⟨d.toNat, by omega⟩
  have hm : m < xs.length := by omega
  exact ⟨xs[m], atI_nat (List.getElem?_eq_getElem hm), List.getElem_mem hm⟩
theorem rd_make {K : PySem.W.Frag} {C CI : Addr} {H : Hp} {m n : Int} {R : Hp → Prop} {E : XK} {x dx : Addr} {vs : List V} (n0 : n ≠ 0) (hn : n.natAbs < 2 ^ 900) (nx : H x = none) (ndx : H dx = none) (nex : dx ≠ x) (ev : vs = [.ref x, .int m, .int n])
    (k : ∀ H', Same H H' → H' x = some (.ins C dx (rfl2 (m.fdiv (cmn m n)) (n.fdiv (cmn m n)))) → R H') :
    spInit K C CI vs (upd (upd H dx (.own x)) x (.ins C dx [])) (fun v H2 => v = .non ∧ R H2) E := by
  subst ev
  refine ⟨x, dx, .int m, .int n, true, false, true, false, rfl, upd_same, Kd.int, Kd.int, fun h => (by cases h), fun _ h => (by cases h), fun _ _ => ⟨m, n, rfl, rfl, hn, fun h => absurd h n0, fun _ => ⟨rfl, ?_⟩⟩⟩
  refine k _ ?_ upd_same
  rw [upd_upd]
  exact (same_upd ndx).trans (same_upd (by rw [upd_ne (Ne.symm nex)]; exact nx))
theorem cmn_one (m : Int) : cmn m 1 = 1 := by
  unfold cmn
  rw [if_neg (by decide)]
  show ((Nat.gcd m.natAbs 1 : Nat) : Int) = 1
  rw [Nat.gcd_one_right]
  rfl
theorem cmn_zero {n : Int} (h : 0 < n) : cmn 0 n = n := by
  unfold cmn
  rw [if_neg (by omega)]
  show ((Nat.gcd 0 n.natAbs : Nat) : Int) = n
  rw [Nat.gcd_zero_left]
  omega
theorem cmn_mul {m n f : Int} (h : 0 < f) : cmn (m * f) (n * f) = cmn m n * f := by
  have e : ((Nat.gcd (m * f).natAbs (n * f).natAbs : Nat) : Int) = ((Nat.gcd m.natAbs n.natAbs : Nat) : Int) * f := by
    rw [Int.natAbs_mul, Int.natAbs_mul, Nat.gcd_mul_right, Int.natCast_mul]
    congr 1
    omega
  unfold cmn
  by_cases hn : n < 0
  · rw [if_pos hn, if_pos (Int.mul_neg_of_neg_of_pos hn h), e, Int.neg_mul]
  · rw [if_neg hn, if_neg (by have := Int.mul_nonneg (show 0 ≤ n by omega) (show 0 ≤ f by omega); omega), e]
theorem wide_in {v : V} (h : v ∈ [V.int 4, .int 60, .int ((10 : Int) ^ (6 : Int).toNat), .int ((10 : Int) ^ (30 : Int).toNat)]) : ∃ W : Int, v = .int W ∧ 0 < W ∧ W ≤ 10 ^ 30 := by
  simp only [List.mem_cons, List.not_mem_nil, or_false] at h
  rcases h with rfl | rfl | rfl | rfl
  · exact ⟨_, rfl, by decide, by decide⟩
  · exact ⟨_, rfl, by decide, by decide⟩
  · exact ⟨_, rfl, by decide, by decide⟩
  · exact ⟨_, rfl, by decide, by decide⟩
def spLaw (K : PySem.W.Frag) : Sp := fun vs H Q _ => ∃ (a : Addr) (ns : List Int), vs = [.ref a] ∧ SqL K H a (ns.map V.int) ∧ ns.length ≤ 63 ∧ ∀ H', Q (.bl true) H'
/-! ### fractions in lowest terms -/
theorem low_terms {m n g : Int} (hg : g = ((Nat.gcd m.natAbs n.natAbs : Nat) : Int)) (hn : 0 < n) : 0 < n.fdiv g ∧ n.fdiv g ≤ n ∧ (m.fdiv g).natAbs ≤ m.natAbs ∧ Nat.gcd (m.fdiv g).natAbs (n.fdiv g).natAbs = 1 := by
  have gp : 0 < Nat.gcd m.natAbs n.natAbs := Nat.gcd_pos_of_pos_right _ (by omega)
  have g0 : 0 < g := by omega
  have d1 : Nat.gcd m.natAbs n.natAbs ∣ m.natAbs := Nat.gcd_dvd_left _ _
  have d2 : Nat.gcd m.natAbs n.natAbs ∣ n.natAbs := Nat.gcd_dvd_right _ _
  have e1 : ∀ x : Int, Nat.gcd m.natAbs n.natAbs ∣ x.natAbs → (x.fdiv g).natAbs = x.natAbs / Nat.gcd m.natAbs n.natAbs := by
    intro x hx
    rw [Int.fdiv_eq_ediv_of_nonneg _ (by omega)]
    obtain ⟨k, hk⟩ := hx
    have hx2 : x = g * (if 0 ≤ x then (k : Int) else -(k : Int)) := by
      have : (x.natAbs : Int) = g * (k : Int) := by rw [hk, hg]; simp
      split
      · omega
      · rw [Int.mul_neg]; omega
    rw [hx2, Int.mul_ediv_cancel_left _ (by omega), ← hx2, hk, Nat.mul_div_cancel_left _ gp]
    split <;> simp
  have h1 := e1 m d1
  have h2 := e1 n d2
  have h3 : Nat.gcd (m.natAbs / Nat.gcd m.natAbs n.natAbs) (n.natAbs / Nat.gcd m.natAbs n.natAbs) = 1 := by
    rw [Nat.gcd_div d1 d2, Nat.div_self gp]
  have p0 : 0 ≤ n.fdiv g := by
    rw [Int.fdiv_eq_ediv_of_nonneg _ (by omega)]
    exact Int.ediv_nonneg (by omega) (by omega)
  have q0 : 0 < n.natAbs / Nat.gcd m.natAbs n.natAbs := Nat.div_pos (Nat.le_of_dvd (by omega) d2) gp
  have q1 : n.natAbs / Nat.gcd m.natAbs n.natAbs ≤ n.natAbs := Nat.div_le_self _ _
  have q2 : m.natAbs / Nat.gcd m.natAbs n.natAbs ≤ m.natAbs := Nat.div_le_self _ _
  refine ⟨by omega, by omega, by omega, by rw [h1, h2, h3]⟩
theorem floor_ok {a b : Int} (hb : 0 < b) : a.fdiv b * b ≤ a ∧ a < (a.fdiv b + 1) * b := by
  rw [Int.fdiv_eq_ediv_of_nonneg _ (by omega)]
  exact ⟨Int.ediv_mul_le _ (by omega), Int.lt_ediv_add_one_mul_self _ hb⟩
theorem ceil_ok {a b : Int} (hb : 0 < b) : (-((-a).fdiv b) - 1) * b < a ∧ a ≤ -((-a).fdiv b) * b := by
  obtain ⟨h1, h2⟩ := floor_ok (a := -a) hb
  have e1 : (-((-a).fdiv b) - 1) * b = -(((-a).fdiv b + 1) * b) := by rw [← Int.neg_mul]; congr 1; omega
  rw [e1, Int.neg_mul]
  omega

theorem cmn_pos {m n : Int} (h : 0 < n) : cmn m n = ((Nat.gcd m.natAbs n.natAbs : Nat) : Int) := if_neg (by omega)
theorem cmn_low {m n : Int} (h : 0 < n) (g : Nat.gcd m.natAbs n.natAbs = 1) : cmn m n = 1 := by
  rw [cmn_pos h, g]
  rfl
def spFrac : Sp := fun vs H Q _ => ∃ b : Addr, vs = [.ref b] ∧ BagAt H b ∧ ∀ (a c : Int) (q : Addr) H', 0 < c → c ≤ 10 ^ 30 → a.natAbs ≤ 10 ^ 30 → Nat.gcd a.natAbs c.natAbs = 1 → BagAt H' b → Keep b H H' → H' q = some (.tup [.int a, .int c]) → q ≠ b → Q (.ref q) H'
theorem Keep.upd {b q : Addr} {H : Hp} {o : HO} (h : H q = none) : Keep b H (L2.upd H q o) := fun a u e _ => by rw [upd_ne (ne_of_none e h)]; exact e
section
variable {P : Program} {w : World} {K : PySem.W.Frag} {mg : Str → Option Value} {base : Heap}
abbrev sFrac : Stmt := top 17
theorem scFrac : FnScope ["_law_bag_here", "_law_wide", "_law_top"] ["_law_bag_here"] (defScope sFrac) := ⟨rfl, rfl, rfl, by decide +kernel, rfl, by decide +kernel, by decide +kernel⟩
theorem ok_frac {f fT fL : Addr} {fd fdT fdL : FuncData} (F : Fun K "_law_fraction" "_law_fraction" sFrac f fd) (aT : At K mg "_law_take" fT) (aL : At K mg "_law_lowest" fL)
    (GT : FnOk P w K mg base CX0 1 fT fdT ["_law_bag_here", "_law_size"] spTake) (bT : Binds K fdT ["_law_bag_here", "_law_size"] [])
    (GL : FnOk P w K mg base CX0 1 fL fdL ["_law_top", "_law_bottom"] spLowest) (bL : Binds K fdL ["_law_top", "_law_bottom"] []) : FnOk P w K mg base CX0 2 f fd ["_law_bag_here"] spFrac := by
  refine F.ok scFrac (fun vs H Q E h => ?_) (fun cdv A outer s H vs Q E hr h => ?_)
  · obtain ⟨b, rfl, _⟩ := h
    rfl
  · obtain ⟨b, rfl, B1, k⟩ := h
    have nd := scFrac.nd
    refine ⟨_, pss_cons (ps_set (i := 1) nd rfl (Or.inl rfl) (pe_ix ix_list (pe_lst (pa_cons pe_int (pa_cons pe_int (pa_cons (pe_op op_pow pe_int pe_int) (pa_cons (pe_op op_pow pe_int pe_int) pa_nil))))) (pe_call GT hr (by rfl) aT.g aT.k bT .nil pass0 (pa_cons (pv 0) (pa_cons pe_int pa_nil))) (fun _ _ => rfl)))
      (pss_cons (ps_set (i := 2) nd rfl (Or.inl rfl) (pe_op op_sub (pe_call GT hr (by rfl) aT.g aT.k bT .nil pass0 (pa_cons (pv 0) (pa_cons (pe_op op_add (pe_op op_mul pe_int (pv 1)) pe_int) pa_nil))) (pv 1)))
      (pss_one (ps_ret (pe_call GL hr (by rfl) aL.g aL.k bL .nil pass0 (pa_cons (pv 2) (pa_cons (pe_op op_add pe_int (pe_call GT hr (by rfl) aT.g aT.k bT .nil pass0 (pa_cons (pv 0) (pa_cons (pv 1) pa_nil)))) pa_nil)))))), ?_⟩
    refine ⟨_, _, rfl, rfl, ⟨by decide, by decide, by decide⟩, _, _, rfl, rfl, ⟨by decide, by decide, by decide⟩, by show 4 ≤ sizeLine; decide, fun l1 n1 => ?_⟩
    refine ⟨_, rfl, b, 4, rfl, by decide, by decide, B1.sm (same_upd n1), fun d1 H2 d1a d1b B2 k2 => ?_⟩
    obtain ⟨v1, at1, in1⟩ := atI_in (xs := [V.int 4, .int 60, .int ((10 : Int) ^ (6 : Int).toNat), .int ((10 : Int) ^ (30 : Int).toNat)]) d1a d1b
    obtain ⟨W, rfl, W0, W1⟩ := wide_in in1
    refine ⟨l1, _, d1, _, rfl, rfl, SqL.of (k2 _ _ upd_same (B1.ne n1)), at1, ?_⟩
    refine ⟨_, rfl, _, rfl, 2, W, rfl, rfl, .inl ⟨by decide, by decide⟩, _, _, rfl, rfl, b, 2 * W + 1, rfl, by omega, by omega, B2, fun d2 H3 d2a d2b B3 k3 => ?_⟩
    refine ⟨_, rfl, d2, W, rfl, rfl, ?_⟩
    refine ⟨_, rfl, _, rfl, _, rfl, b, W, rfl, by omega, by omega, B3, fun d3 H4 d3a d3b B4 k4 => ?_⟩
    refine ⟨1, d3, rfl, rfl, d2 - W, 1 + d3, rfl, by omega, by omega, fun q nq => ?_⟩
    obtain ⟨h1, h2, h3, h4⟩ := low_terms (m := d2 - W) (n := 1 + d3) (g := cmn (d2 - W) (1 + d3)) (cmn_pos (by omega)) (by omega)
    have kk : Keep b H H4 := ((Keep.upd n1).trans k2).trans (k3.trans k4)
    exact k _ _ q _ h1 (by omega) (by omega) h4 (B4.sm (same_upd nq)) (kk.trans (Keep.upd nq)) upd_same (B4.ne nq)
end
/-! ### numbers as signs -/
open PySem.NumText in
theorem foldl_pow : ∀ (b : List Nat) (x : Nat), b.foldl (fun acc c => acc * 10 + (c - 48)) x = x * 10 ^ b.length + b.foldl (fun acc c => acc * 10 + (c - 48)) 0
  | [], x => by simp
  | c :: b, x => by
    rw [List.foldl_cons, List.foldl_cons, foldl_pow b (x * 10 + (c - 48)), foldl_pow b (0 * 10 + (c - 48)), List.length_cons, Nat.pow_succ, Nat.add_mul, Nat.zero_mul, Nat.zero_add, Nat.mul_assoc, Nat.mul_comm 10, Nat.add_assoc]
open PySem.NumText in
theorem digitsVal_app (a b : List Nat) : digitsVal (a ++ b) = digitsVal a * 10 ^ b.length + digitsVal b := by
  unfold digitsVal
  rw [List.foldl_append, foldl_pow]
open PySem.NumText in
theorem digitsVal_zeros (n : Nat) (b : List Nat) : digitsVal (List.replicate n 48 ++ b) = digitsVal b := by
  induction n with
  | zero => rfl
  | succ n ih =>
    rw [List.replicate_succ, List.cons_append, digitsVal_zero, ih]
theorem numL_head {n : Nat} (h : 0 < n) : ∃ c r, TL.numL n = c :: r ∧ 49 ≤ c := by
  induction n using Nat.strongRecOn with
  | _ n ih =>
    by_cases h1 : n < 10
    · exact ⟨48 + n, [], TL.numL_lt h1, by omega⟩
    · obtain ⟨c, r, e, hc⟩ := ih (n / 10) (by omega) (by omega)
      exact ⟨c, r ++ [48 + n % 10], by rw [TL.numL_step (by omega), e]; rfl, hc⟩
open PySem.NumText in
theorem numL_of {cs : List Nat} (h : AllDigits cs) (h1 : ∃ c r, cs = c :: r ∧ 49 ≤ c) : TL.numL (digitsVal cs) = cs := by
  obtain ⟨c, r, e, hc⟩ := h1
  unfold TL.numL
  rw [toDigits_digitsVal r.length cs (by rw [e]; rfl) h (.inr ⟨c, r, e, hc⟩), List.map_map]
  have go : ∀ l : List Nat, AllDigits l → l.map (Char.toNat ∘ Char.ofNat) = l := by
    intro l
    induction l with
    | nil => intro _; rfl
    | cons x l ih =>
      intro hx
      rw [List.map_cons, ih hx.tail]
      have := hx.head
      have ex : ∀ x : Nat, x < 58 → Char.toNat (Char.ofNat x) = x := by decide
      rw [show (Char.toNat ∘ Char.ofNat) x = x from ex x (by omega)]
  exact go cs h
/-- the last k digits, with zeros ahead -/
def padL (k r : Nat) : List Nat := List.replicate (k - (TL.numL r).length) 48 ++ TL.numL r
theorem padL_len {k r : Nat} (hk : 0 < k) (h : r < 10 ^ k) : (padL k r).length = k := by
  unfold padL
  rw [List.length_append, List.length_replicate]
  have := TL.numL_len hk h
  omega
theorem padL_digits (k r : Nat) : PySem.NumText.AllDigits (padL k r) := by
  intro c hc
  rcases List.mem_append.mp hc with hc | hc
  · rw [(List.mem_replicate.mp hc).2]
    omega
  · exact TL.numL_digits r c hc
open PySem.NumText in
theorem numL_pad {q r k : Nat} (hq : 0 < q) (hk : 0 < k) (h : r < 10 ^ k) : TL.numL (q * 10 ^ k + r) = TL.numL q ++ padL k r := by
  have hv : digitsVal (TL.numL q ++ padL k r) = q * 10 ^ k + r := by
    rw [digitsVal_app, padL_len hk h, TL.numL_val]
    unfold padL
    rw [digitsVal_zeros, TL.numL_val]
  rw [← hv]
  refine numL_of (fun c hc => (List.mem_append.mp hc).elim (TL.numL_digits q c) (padL_digits k r c)) ?_
  obtain ⟨c, t, e, hc⟩ := numL_head hq
  exact ⟨c, t ++ padL k r, by rw [e]; rfl, hc⟩
/-- a number's text -/
def intL (i : Int) : List Nat := if i < 0 then 45 :: TL.numL i.natAbs else TL.numL i.natAbs
section
open PySem.W PyProof.Rows PySem.Calls Builtin
set_option maxRecDepth 100000
theorem KXf.ret_text' {M : Model} {A : Around} {E : Value → Shared → Prop} {s : Shared} {X T : Str} (Y : Str) {Q : PySem.Fin → Shared → Prop} (e : X = Y) (e2 : Y = T) (hL : T.length ≤ sizeLine) (h : ∀ t k, Q (.done (.ret (.str T t))) { s with toks := k }) : wpAny M A (retStr X) Q E s := by
  subst e
  subst e2
  exact PySem.W.KXf.ret_text rfl hL h
abbrev f64 : PySem.Builtin.Float.FormatSpec := { fill := 48, align := 61, width := some 64, type := some 100 }
theorem text64 (a : Int) (h0 : 0 ≤ a) : intSpecText f64 a = SX.S (padL 64 a.natAbs) := by
  rw [intSpecText_zero rfl rfl rfl rfl h0]
  obtain ⟨m, rfl⟩ := Int.eq_ofNat_of_zero_le h0
  have e1 : Str.ofString (toString ((m : Nat) : Int)) = SX.S (TL.numL m) := SX.num_S m
  rw [e1]
  show SX.S _ ++ SX.S _ = _
  rw [SX.S_cat]
  unfold padL TL.numL
  rw [List.length_map]
  rfl
theorem meets64 (a : Int) (t : Tok) (u : Tok) (h0 : 0 ≤ a) (h : a < 10 ^ 64) : Meets («int.__format__» ⟨[.int a t, .str "064d" u], []⟩) (fun _ R s => ∀ t' k, R (.ok (.ret (.str (SX.S (padL 64 a.natAbs)) t'))) { s with toks := k }) := by
  refine KPc.meets_of fun _ _ _ _ _ _ hq => ?_
  unfold Builtin.«int.__format__»
  refine wpAny_bind (wpAny_of_eq (a := (_, _)) rfl (wpAny_bind (wpAny_of_eq rfl ?_)))
  repeat (first | kxf_if | refine wpAny_bind (wpAny_typeNameOf (T := "str") (typeIs_str _ _ _) (by decide) fun _ => ?_) | refine wpAny_bind (wpAny_of_eq (a := some _) rfl ?_))
  refine wpAny_bind (wpAny_typeNameOfCut_int ?_)
  have hp : PySem.Builtin.Float.parseFormatSpec (Str.ofString "064d").cps.toList "int" 62 = .ok f64 := by rfl
  rw [hp]
  have hs : a.natAbs.log2 < 1920 := by
    by_cases hz : a.natAbs = 0
    · rw [hz]; decide
    · rw [Nat.log2_lt hz]
      have h2 : a.natAbs < 10 ^ 64 := by omega
      exact Nat.lt_of_lt_of_le h2 (by decide)
  dsimp only
  (repeat kxf_if)
  refine wpAny_bind (wpAny_of_eq (PySem.overDigitLimit_small hs) ?_)
  (repeat kxf_if)
  refine KXf.ret_text' (intSpecText f64 a) ?_ (text64 a h0) ?_ hq
  · have hn : decide (a < 0) = false := decide_eq_false (by omega)
    unfold intSpecText intField'
    conv => lhs; whnf
    simp [hn, f64]
  · have h2 : a.natAbs < 10 ^ 64 := by omega
    rw [SX.S_len, padL_len (by decide) h2]
    decide
end
section
variable {X : Cx}
/-- {n:064d} -/
theorem pe_fmt64 {e : Expr} {te : TE} {j : Nat} {p1 p2 pos : Pos} (he : PE X e te) : PE X (.FormattedValue e (-1) (some (.JoinedStr [.Constant (.str "064d") j p1] p2)) pos) (fun σ H Q => te σ H fun x H1 => ∃ n : Int, x = .int n ∧ 0 ≤ n ∧ n < 10 ^ 64 ∧ Q (.str (SX.S (padL 64 n.natAbs))) H1) := by
  refine ⟨fun pins s σ H Q I h => ?_⟩
  refine wpAny_FormattedValue_spec (thn (he.run pins s σ H _ I h) fun v s1 ⟨x, H1, I1, r1, n, ex, h0, h1, q⟩ => ?_)
  subst ex
  obtain ⟨t, rfl⟩ := r1
  refine thn ((pe_joined1 (pe_str (X := X) (x := "064d") (j := j) (pos := p1)) (pos := p2)).run pins s1 σ H1 (fun y H2 => y = .str "064d" ∧ H2 = H1) I1 ⟨rfl, rfl⟩) fun u s2 ⟨y, H2, I2, r2, ey, eH⟩ => ?_
  subst ey
  subst eH
  obtain ⟨t2, rfl⟩ := r2
  refine ⟨_, t2, rfl, ?_⟩
  exact PySem.W.KXf.field_int rfl (by decide +kernel) (by decide +kernel) (fun u => meets64 n t u h0 h1) fun t' k => ⟨.str _, H2, I2.tok _, ⟨_, rfl⟩, q⟩
end
theorem fresh_of' : True := trivial
theorem join0 : ∀ ps : List (List Nat), TL.joinL [] ps = ps.flatten
  | [] => rfl
  | [p] => by simp [TL.joinL]
  | p :: q :: r => by
    show p ++ ([] ++ TL.joinL [] (q :: r)) = _
    rw [join0 (q :: r)]
    simp
theorem int_text {n : Int} (h : 0 ≤ n) : Str.ofString (toString n) = SX.S (TL.numL n.natAbs) := by
  obtain ⟨m, rfl⟩ := Int.eq_ofNat_of_zero_le h
  exact SX.num_S m
theorem log_small {n : Nat} (h : n < 10 ^ 128) : n.log2 < 1920 := by
  by_cases hz : n = 0
  · rw [hz]; decide
  · rw [Nat.log2_lt hz]
    exact Nat.lt_of_lt_of_le h (by decide)
def spWritten : Sp := fun vs H Q _ => ∃ n : Int, vs = [.int n] ∧ n.natAbs < 10 ^ 128 ∧ ∀ H', Same H H' → Q (.str (SX.S (intL n))) H'
section
variable {P : Program} {w : World} {K : PySem.W.Frag} {mg : Str → Option Value} {base : Heap}
abbrev sWritten : Stmt := top 12
theorem scWritten : FnScope ["number", "piece", "rest", "pieces", "low", "sign", "digits"] ["number"] (defScope sWritten) := ⟨rfl, rfl, rfl, by decide +kernel, rfl, by decide +kernel, by decide +kernel⟩
theorem ok_written {f : Addr} {fd : FuncData} (F : Fun K "written" "written" sWritten f fd) (mA : mg "abs" = none) (mD : mg "divmod" = none) : FnOk P w K mg base CX0 1 f fd ["number"] spWritten := by
  refine F.ok scWritten (fun vs H Q E h => ?_) (fun cdv A outer s H vs Q E hr h => ?_)
  · obtain ⟨n, rfl, _⟩ := h
    rfl
  · obtain ⟨n, rfl, hn, k⟩ := h
    have nd := scWritten.nd
    refine ⟨_, pss_cons (ps_set (i := 1) nd rfl (Or.inl rfl) (pe_op op_pow pe_int pe_int)) (pss_cons (ps_set (i := 2) nd rfl (Or.inl rfl) (pe_callB call_abs (by rfl) mA (by decide +kernel) (pa_cons (pv 0) pa_nil)))
      (pss_cons (ps_set (i := 3) nd rfl (Or.inl rfl) (pe_lst pa_nil))
      (pss_cons (ps_while PassesOwn.never (pt_cmpR op_ge (pv 2) (pv 1) (nomark _))
        (pss_cons (ps_asg (pe_callB call_divmodW (by rfl) mD (by decide +kernel) (pa_cons (pv 2) (pa_cons (pv 1) pa_nil))) (pg_tup rfl (pgs_cons (pg_name (i := 2) nd rfl (Or.inl rfl)) (pgs_cons (pg_name (i := 4) nd rfl (Or.inl rfl)) pgs_nil))))
        (pss_one (ps_expr (pe_bm PySem.F.plainAttrs_list PySem.F.slot_list_append PySem.F.type_list_append mt_append (pv 3) (pa_cons (pe_joined1 (pe_fmt64 (pv 4))) pa_nil))))))
      (pss_cons (ps_set (i := 5) nd rfl (Or.inl rfl) (pe_ifExp (pt_cmpR op_lt (pv 0) pe_int (nomark _)) pe_str pe_str))
      (pss_cons (ps_set (i := 6) nd rfl (Or.inl rfl) (pe_join pe_str (pe_revL (pv 3))))
      (pss_one (ps_ret (pe_joined (.cons (pe_fmt (pv 5)) (.cons (pe_fmt (pv 2)) (.cons (pe_fmt (pv 6)) .nil))))))))))), ?_⟩
    have h10 : (10 : Int) ^ (64 : Int).toNat = 10 ^ 64 := rfl
    refine ⟨10, 64, rfl, rfl, ⟨by decide, by decide, by decide⟩, _, rfl, _, rfl, by show 0 ≤ sizeLine; decide, fun L hL => ?_⟩
    have ea : (if n < 0 then -n else n) = (n.natAbs : Int) := by
      by_cases h : n < 0
      · rw [if_pos h]; omega
      · rw [if_neg h]; omega
    rw [ea]
    have s0 : Same H (upd H L (.lst [])) := same_upd hL
    refine while_by (fun σ H' => ∃ (r : Nat) (ps : List (List Nat)) (u v x : Option V), σ = [some (.int n), some (.int (10 ^ (64 : Int).toNat)), some (.int r), some (.ref L), u, v, x] ∧ H' L = some (.lst (ps.map fun p => V.str (SX.S p))) ∧ (∀ b o, b ≠ L → H b = some o → H' b = some o) ∧ TL.numL n.natAbs = TL.numL r ++ ps.reverse.flatten ∧ (∀ p ∈ ps, p.length = 64) ∧ r ≤ n.natAbs)
      (fun σ _ => match σ with | _ :: _ :: some (.int r) :: _ => r.natAbs | _ => 0) ⟨n.natAbs, [], none, none, none, rfl, upd_same, fun b o hb e => (upd_ne hb).trans e, by simp, fun p hp => (by cases hp), Nat.le_refl _⟩ ?_ ?_
    · rintro σ H' ⟨r, ps, u, v, x, rfl, hL', hk, hv, hp64, hr⟩
      refine ⟨_, rfl, _, rfl, _, _, rfl, rfl, _, rfl, ?_⟩
      have hplen : ps.length ≤ 2 := by
        have h1 := congrArg List.length hv
        rw [List.length_append, List.length_flatten] at h1
        have h2 := TL.numL_len (by decide : 0 < 128) hn
        have h3 : (ps.reverse.map List.length).sum = 64 * ps.length := by
          rw [List.map_reverse, List.sum_reverse]
          clear h1 hv hL'
          induction ps with
          | nil => rfl
          | cons p ps ih =>
            rw [List.map_cons, List.sum_cons, ih (fun q hq => hp64 q (List.mem_cons_of_mem _ hq)), hp64 p List.mem_cons_self, List.length_cons]
            omega
        omega
      refine ite2 (fun hb => ?_) (fun hb => ?_)
      · have hge : (10 : Int) ^ (64 : Int).toNat ≤ (r : Int) := of_decide_eq_true hb
        rw [h10] at hge
        have hgeN : 10 ^ 64 ≤ r := by
          have : ((10 ^ 64 : Nat) : Int) ≤ (r : Int) := hge
          exact Int.ofNat_le.mp this
        refine ⟨_, rfl, _, rfl, _, _, rfl, ⟨by decide, ?_⟩, fun q hq => ⟨q, _, rfl, SqT.of upd_same, rfl, _, _, rfl, _, _, rfl, rfl, ?_⟩⟩
        · have hr128 : r < 10 ^ 128 := Nat.lt_of_le_of_lt hr hn
          unfold Builtin.divisionGoesByPylong
          simp only [h10]
          rfl
        · have hLq : L ≠ q := fresh_of hq hL'
          have hdiv : (r : Int) / 10 ^ (64 : Int).toNat = ((r / 10 ^ 64 : Nat) : Int) := rfl
          have hmod : (r : Int) % 10 ^ (64 : Int).toNat = ((r % 10 ^ 64 : Nat) : Int) := rfl
          have hm : r % 10 ^ 64 < 10 ^ 64 := Nat.mod_lt _ (by decide)
          have hd : 0 < r / 10 ^ 64 := Nat.div_pos hgeN (by decide)
          rw [hdiv, hmod]
          refine ⟨_, rfl, .inl ⟨rfl, _, SqL.of ((upd_ne hLq).trans hL')⟩, _, rfl, ((r % 10 ^ 64 : Nat) : Int), rfl, by omega, ?_, L, _, _, rfl, rfl, (upd_ne hLq).trans hL', ?_, ?_⟩
          · exact Int.ofNat_lt.mpr hm
          · rw [List.length_map]
            exact Nat.lt_of_le_of_lt hplen (by decide)
          · refine ⟨⟨r / 10 ^ 64, ps ++ [padL 64 (r % 10 ^ 64)], _, _, _, rfl, ?_, fun b o hb hbo => ?_, ?_, fun p hp => ?_, Nat.le_trans (Nat.div_le_self _ _) hr⟩, ?_⟩
            · rw [upd_same, List.map_append]
              rfl
            · rw [upd_ne hb, upd_ne (fresh_of hq (hk b o hb hbo))]
              exact hk b o hb hbo
            · rw [hv, List.reverse_append, List.reverse_singleton, List.singleton_append, List.flatten_cons, ← List.append_assoc, ← numL_pad hd (by decide) hm]
              rw [Nat.mul_comm, Nat.div_add_mod]
            · rcases List.mem_append.mp hp with hp | hp
              · exact hp64 p hp
              · rw [List.mem_singleton.mp hp]
                exact padL_len (by decide) hm
            · show ((r / 10 ^ 64 : Nat) : Int).natAbs < ((r : Nat) : Int).natAbs
              have := Nat.div_lt_self (show 0 < r by omega) (show 1 < 10 ^ 64 by decide)
              omega
      · have hlt : ¬ (10 : Int) ^ (64 : Int).toNat ≤ (r : Int) := fun z => hb (decide_eq_true z)
        have hsz : (sizeLine : Nat) = 16777216 := sizeLine_eq
        refine ⟨_, rfl, _, _, rfl, rfl, _, rfl, ?_⟩
        have hsum : (ps.map List.length).sum = 64 * ps.length := by
          clear hv hL'
          induction ps with
          | nil => rfl
          | cons p ps ih =>
            rw [List.map_cons, List.sum_cons, ih (fun q hq => hp64 q (List.mem_cons_of_mem _ hq)) (by rw [List.length_cons] at hplen; omega), hp64 p List.mem_cons_self, List.length_cons]
            omega
        refine ite2 (fun hb => ?_) (fun hb => ?_)
        · have hin : intL n = [45] ++ TL.numL n.natAbs := by
            unfold intL
            rw [if_pos (of_decide_eq_true hb)]
            rfl
          refine ⟨⟨_, rfl⟩, _, rfl, L, _, rfl, SqL.of hL', fun R hR => ?_⟩
          have sH : Same H (upd H' R (.lst (ps.map fun p => V.str (SX.S p)).reverse)) := fun b o e => by
            have hbL : b ≠ L := fresh_of hL e
            have e2 := hk b o hbL e
            rw [upd_ne (fresh_of hR e2)]
            exact e2
          have erev : (ps.map fun p => V.str (SX.S p)).reverse = (ps.reverse.map SX.S).map V.str := by
            rw [← List.map_reverse, List.map_map]
            rfl
          refine ⟨_, R, ps.reverse.map SX.S, rfl, rfl, .inl (SqL.of (upd_same.trans (by rw [erev]))), ?_, ?_⟩
          · rw [SX.lens, List.length_map, List.map_reverse, List.sum_reverse, List.length_reverse, hsum]
            show 64 * ps.length + ps.length * 0 ≤ 16777216
            omega
          · have ej : Txt.join (Str.ofString "") (ps.reverse.map SX.S) = SX.S ps.reverse.flatten := by
              rw [show Str.ofString "" = SX.S [] from rfl, SX.join_S, join0]
            have hr2 : r < 10 ^ 128 := Nat.lt_of_le_of_lt hr hn
            have lr := TL.numL_len (by decide : 0 < 128) hr2
            have lf : ps.reverse.flatten.length ≤ 128 := by
              rw [List.length_flatten, List.map_reverse, List.sum_reverse, hsum]
              omega
            refine ⟨_, rfl, .inl ⟨_, rfl, by decide, ⟨_, rfl, by decide, _, rfl, .inr ⟨(r : Int), rfl, ?_, _, rfl, ?_, _, rfl, .inl ⟨_, rfl, ?_, _, rfl, ?_, ?_⟩⟩⟩⟩⟩
            · exact log_small hr2
            · rw [int_text (Int.natCast_nonneg r), show Str.empty ++ Str.ofString _ = SX.S [45] from rfl, SX.S_cat, SX.S_len, List.length_append]
              show _ + (TL.numL r).length ≤ sizeLine
              simp only [List.length_cons, List.length_nil]
              omega
            · rw [ej, SX.S_len]
              omega
            · rw [int_text (Int.natCast_nonneg r), ej, show Str.empty ++ Str.ofString _ = SX.S [45] from rfl, SX.S_cat, SX.S_cat, SX.S_len, List.length_append, List.length_append]
              show _ + (TL.numL r).length + _ ≤ sizeLine
              simp only [List.length_cons, List.length_nil]
              omega
            · have et : ((Str.empty ++ Str.ofString "-") ++ Str.ofString (toString (r : Int))) ++ Txt.join (Str.ofString "") (ps.reverse.map SX.S) = SX.S (intL n) := by
                rw [int_text (Int.natCast_nonneg r), ej, show Str.empty ++ Str.ofString "-" = SX.S [45] from rfl, SX.S_cat, SX.S_cat, hin, hv, List.append_assoc]
                rfl
              show Q (.str _) _
              rw [et]
              exact k _ sH
        · have hin : intL n = ([] : List Nat) ++ TL.numL n.natAbs := by
            unfold intL
            rw [if_neg (fun z => hb (decide_eq_true z))]
            rfl
          refine ⟨⟨_, rfl⟩, _, rfl, L, _, rfl, SqL.of hL', fun R hR => ?_⟩
          have sH : Same H (upd H' R (.lst (ps.map fun p => V.str (SX.S p)).reverse)) := fun b o e => by
            have hbL : b ≠ L := fresh_of hL e
            have e2 := hk b o hbL e
            rw [upd_ne (fresh_of hR e2)]
            exact e2
          have erev : (ps.map fun p => V.str (SX.S p)).reverse = (ps.reverse.map SX.S).map V.str := by
            rw [← List.map_reverse, List.map_map]
            rfl
          refine ⟨_, R, ps.reverse.map SX.S, rfl, rfl, .inl (SqL.of (upd_same.trans (by rw [erev]))), ?_, ?_⟩
          · rw [SX.lens, List.length_map, List.map_reverse, List.sum_reverse, List.length_reverse, hsum]
            show 64 * ps.length + ps.length * 0 ≤ 16777216
            omega
          · have ej : Txt.join (Str.ofString "") (ps.reverse.map SX.S) = SX.S ps.reverse.flatten := by
              rw [show Str.ofString "" = SX.S [] from rfl, SX.join_S, join0]
            have hr2 : r < 10 ^ 128 := Nat.lt_of_le_of_lt hr hn
            have lr := TL.numL_len (by decide : 0 < 128) hr2
            have lf : ps.reverse.flatten.length ≤ 128 := by
              rw [List.length_flatten, List.map_reverse, List.sum_reverse, hsum]
              omega
            refine ⟨_, rfl, .inl ⟨_, rfl, by decide, ⟨_, rfl, by decide, _, rfl, .inr ⟨(r : Int), rfl, ?_, _, rfl, ?_, _, rfl, .inl ⟨_, rfl, ?_, _, rfl, ?_, ?_⟩⟩⟩⟩⟩
            · exact log_small hr2
            · rw [int_text (Int.natCast_nonneg r), show Str.empty ++ Str.ofString _ = SX.S ([] : List Nat) from rfl, SX.S_cat, SX.S_len, List.length_append]
              show _ + (TL.numL r).length ≤ sizeLine
              simp only [List.length_cons, List.length_nil]
              omega
            · rw [ej, SX.S_len]
              omega
            · rw [int_text (Int.natCast_nonneg r), ej, show Str.empty ++ Str.ofString _ = SX.S ([] : List Nat) from rfl, SX.S_cat, SX.S_cat, SX.S_len, List.length_append, List.length_append]
              show _ + (TL.numL r).length + _ ≤ sizeLine
              simp only [List.length_cons, List.length_nil]
              omega
            · have et : ((Str.empty ++ Str.ofString "") ++ Str.ofString (toString (r : Int))) ++ Txt.join (Str.ofString "") (ps.reverse.map SX.S) = SX.S (intL n) := by
                rw [int_text (Int.natCast_nonneg r), ej, show Str.empty ++ Str.ofString "" = SX.S ([] : List Nat) from rfl, SX.S_cat, SX.S_cat, hin, hv, List.append_assoc]
                rfl
              show Q (.str _) _
              rw [et]
              exact k _ sH
    · rintro σ H' Q' Q'' hqq ⟨x, e, y, e2, i, j, e3, e4, b, e5, q⟩
      exact ⟨x, e, y, e2, i, j, e3, e4, b, e5, hqq _ _ q⟩
end
/-! ### a class's own containers -/
section
variable {X : Cx} {C f : Addr} {n : Nat} {fd : FuncData} {ps : List Str} {sp : Sp}
theorem run_in1 {pins : List (Addr × Obj)} {σ : L2.St} {H : Hp} {s : Shared} {Q : VK} {us : List Value} {vs : List V} (F : FnOk X.prog X.w X.K X.mg X.base CX0 n f fd ps sp) (hr : Room (n + 1) X.A) (hb : Binds X.K fd ps []) (I : Inv X pins σ H s) (r : Vals vs us) (h : sp vs H Q E0) {E' : Value → Shared → Prop} :
    wpAny (model X.prog X.w) X.A.in1 (call (.ref f) us) (EP X pins σ Q) E' s := by
  have e0 : Env0 X.prog X.w X.K X.mg X.base X.A.in1 X.stack s H := by
    have e := I.env0
    exact ⟨e.frames, e.mod, e.bs, e.bsz, e.funs, e.frf, e.hok, e.bare⟩
  have hl : us.length = ps.length := by rw [← r.length]; exact F.len _ _ _ _ h
  have b := hb s us I.kIn (by rw [List.append_nil]; exact hl)
  rw [List.append_nil] at b
  refine wpAny_call (codeAny_mono (F.run X.A.in1 X.stack s H ⟨us, []⟩ us vs Q E0 hr.in1 e0 b r h) fun r s' hq => ?_)
  cases r with
  | error e => exact hq.elim
  | ok fl =>
    cases fl with
    | ret w => exact I.after hq
    | next => exact False.elim hq
    | brk => exact False.elim hq
    | cont => exact False.elim hq
/-- len(o) -/
theorem call_lenO (hs : PySem.W.findIn X.K (.ref C) "__len__" = some (some (.ref f))) (hf : PySem.W.isFn X.K (.ref f) = true) (F : FnOk X.prog X.w X.K X.mg X.base CX0 n f fd ps sp) (hb : Binds X.K fd ps []) (hr : Room (n + 1) X.A) :
    CallR X (.builtin "len") (fun xs H Q => ∃ (a dx : Addr) (fs : List (Str × V)), xs = [.ref a] ∧ H a = some (.ins C dx fs) ∧ sp [.ref a] H (fun z H' => ∃ k : Int, z = .int k ∧ 0 ≤ k ∧ k < 2 ^ 63 ∧ Q (.int k) H') E0) := by
  intro pins s σ H xs us Q I r hq
  obtain ⟨a, dx, fs, rfl, ha, hsp⟩ := hq
  cases r with
  | cons rx rr =>
    cases rr
    cases rx
    obtain ⟨mA, OA, _⟩ := ins_get I.hok ha
    obtain ⟨od, J, _⟩ := OA.look
    obtain ⟨m, hF⟩ := I.fr
    refine PySem.W.len_K hF I.ok.mod.kin J hs hf (thn (run_in1 F hr hb I (.cons (show RelV (V.ref a) (Value.ref a) from rfl) .nil) hsp) fun r s' hv => ?_)
    obtain ⟨z, H', I', rz, k, rfl, k0, k1, q⟩ := hv
    obtain ⟨t, rfl⟩ := rz
    exact ⟨⟨k0, k1⟩, .int k, H', I'.tok _, ⟨_, rfl⟩, q⟩
/-- x in o, x not in o -/
theorem op_inO (hs : PySem.W.findIn X.K (.ref C) "__contains__" = some (some (.ref f))) (hf : PySem.W.isFn X.K (.ref f) = true) (F : FnOk X.prog X.w X.K X.mg X.base CX0 n f fd ps sp) (hb : Binds X.K fd ps []) (hr : Room n X.A) :
    OpR X (compareOp .In) (fun x y H Q => ∃ (a dx : Addr) (fs : List (Str × V)), y = .ref a ∧ H a = some (.ins C dx fs) ∧ sp [.ref a, x] H (fun z H' => ∃ b, z = .bl b ∧ Q (.bl b) H') E0) := by
  intro pins s σ H x y v u Q I rx ry hq
  obtain ⟨a, dx, fs, rfl, ha, hsp⟩ := hq
  cases ry
  obtain ⟨mA, OA, _⟩ := ins_get I.hok ha
  obtain ⟨od, J, _⟩ := OA.look
  obtain ⟨m, hF⟩ := I.fr
  refine PySem.W.in_K hF I.ok.mod.kin J hs hf (thn (run_fn (us := [Value.ref a, v]) (vs := [V.ref a, x]) F hr hb .nil pass0 I (.cons (show RelV (V.ref a) (Value.ref a) from rfl) (.cons rx .nil)) hsp) fun r s' hv => ?_)
  obtain ⟨z, H', I', rz, b, rfl, q⟩ := hv
  cases rz
  exact wpAny_truthy_bool ⟨.bl b, H', I', rfl, q⟩
theorem op_notinO (hs : PySem.W.findIn X.K (.ref C) "__contains__" = some (some (.ref f))) (hf : PySem.W.isFn X.K (.ref f) = true) (F : FnOk X.prog X.w X.K X.mg X.base CX0 n f fd ps sp) (hb : Binds X.K fd ps []) (hr : Room n X.A) :
    OpR X (compareOp .NotIn) (fun x y H Q => ∃ (a dx : Addr) (fs : List (Str × V)), y = .ref a ∧ H a = some (.ins C dx fs) ∧ sp [.ref a, x] H (fun z H' => ∃ b, z = .bl b ∧ Q (.bl (!b)) H') E0) := by
  intro pins s σ H x y v u Q I rx ry hq
  obtain ⟨a, dx, fs, rfl, ha, hsp⟩ := hq
  cases ry
  obtain ⟨mA, OA, _⟩ := ins_get I.hok ha
  obtain ⟨od, J, _⟩ := OA.look
  obtain ⟨m, hF⟩ := I.fr
  refine PySem.W.notIn_K hF I.ok.mod.kin J hs hf (thn (run_fn (us := [Value.ref a, v]) (vs := [V.ref a, x]) F hr hb .nil pass0 I (.cons (show RelV (V.ref a) (Value.ref a) from rfl) (.cons rx .nil)) hsp) fun r s' hv => ?_)
  obtain ⟨z, H', I', rz, b, rfl, q⟩ := hv
  cases rz
  exact wpAny_truthy_bool ⟨.bl (!b), H', I', rfl, q⟩
end
/-! ### str(o), repr(o) by the class's own; a staticmethod of a class -/
section
variable {X : Cx} {C f : Addr} {n : Nat} {fd : FuncData} {ps : List Str} {sp : Sp}
theorem run_in2 {pins : List (Addr × Obj)} {σ : L2.St} {H : Hp} {s : Shared} {Q : VK} {us : List Value} {vs : List V} (F : FnOk X.prog X.w X.K X.mg X.base CX0 n f fd ps sp) (hr : Room (n + 2) X.A) (hb : Binds X.K fd ps []) (I : Inv X pins σ H s) (r : Vals vs us) (h : sp vs H Q E0) {E' : Value → Shared → Prop} :
    wpAny (model X.prog X.w) X.A.in1.in1 (call (.ref f) us) (EP X pins σ Q) E' s := by
  have e0 : Env0 X.prog X.w X.K X.mg X.base X.A.in1.in1 X.stack s H := by
    have e := I.env0
    exact ⟨e.frames, e.mod, e.bs, e.bsz, e.funs, e.frf, e.hok, e.bare⟩
  have hl : us.length = ps.length := by rw [← r.length]; exact F.len _ _ _ _ h
  have b := hb s us I.kIn (by rw [List.append_nil]; exact hl)
  rw [List.append_nil] at b
  refine wpAny_call (codeAny_mono (F.run X.A.in1.in1 X.stack s H ⟨us, []⟩ us vs Q E0 (Room.in1 (Room.in1 hr)) e0 b r h) fun r s' hq => ?_)
  cases r with
  | error e => exact hq.elim
  | ok fl =>
    cases fl with
    | ret w => exact I.after hq
    | next => exact False.elim hq
    | brk => exact False.elim hq
    | cont => exact False.elim hq
theorem call_strO (hs : PySem.W.findIn X.K (.ref C) "__str__" = some (some (.ref f))) (hf : PySem.W.isFn X.K (.ref f) = true) (F : FnOk X.prog X.w X.K X.mg X.base CX0 n f fd ps sp) (hb : Binds X.K fd ps []) (hr : Room (n + 2) X.A) :
    CallR X (.type "str") (fun xs H Q => ∃ (a dx : Addr) (fs : List (Str × V)), xs = [.ref a] ∧ H a = some (.ins C dx fs) ∧ sp [.ref a] H (fun z H' => ∃ k : Str, z = .str k ∧ Q (.str k) H') E0) := by
  intro pins s σ H xs us Q I r hq
  obtain ⟨a, dx, fs, rfl, ha, hsp⟩ := hq
  cases r with
  | cons rx rr =>
    cases rr
    cases rx
    obtain ⟨mA, OA, _⟩ := ins_get I.hok ha
    obtain ⟨od, J, _⟩ := OA.look
    have hun := hr.un
    refine PySem.W.kso_call (by show X.A.units + 1 + 1 < _; omega) I.kIn J hs hf (thn (run_in2 F hr hb I (.cons (show RelV (V.ref a) (Value.ref a) from rfl) .nil) hsp) fun r s' hv => ?_)
    obtain ⟨z, H', I', rz, k, rfl, q⟩ := hv
    obtain ⟨t, rfl⟩ := rz
    exact ⟨.str k, H', I', ⟨_, rfl⟩, q⟩
theorem call_reprO (hs : PySem.W.findIn X.K (.ref C) "__repr__" = some (some (.ref f))) (hf : PySem.W.isFn X.K (.ref f) = true) (F : FnOk X.prog X.w X.K X.mg X.base CX0 n f fd ps sp) (hb : Binds X.K fd ps []) (hr : Room (n + 1) X.A) :
    CallR X (.builtin "repr") (fun xs H Q => ∃ (a dx : Addr) (fs : List (Str × V)), xs = [.ref a] ∧ H a = some (.ins C dx fs) ∧ sp [.ref a] H (fun z H' => ∃ k : Str, z = .str k ∧ Q (.str k) H') E0) := by
  intro pins s σ H xs us Q I r hq
  obtain ⟨a, dx, fs, rfl, ha, hsp⟩ := hq
  cases r with
  | cons rx rr =>
    cases rr
    cases rx
    obtain ⟨mA, OA, _⟩ := ins_get I.hok ha
    obtain ⟨od, J, _⟩ := OA.look
    obtain ⟨m, hF⟩ := I.fr
    have hun := hr.un
    refine PySem.W.repr_K (by show X.A.units + 1 < _; omega) hF I.ok.mod.kin J hs hf (thn (run_in1 F hr hb I (.cons (show RelV (V.ref a) (Value.ref a) from rfl) .nil) hsp) fun r s' hv => ?_)
    obtain ⟨z, H', I', rz, k, rfl, q⟩ := hv
    obtain ⟨t, rfl⟩ := rz
    exact ⟨.str k, H', I', ⟨_, rfl⟩, q⟩
/-- C.m is a staticmethod: its record at p, its def at g -/
structure SMet (K : PySem.W.Frag) (C : Addr) (mc : Value) (m : Str) (p g : Addr) : Prop where
  at_ : PySem.W.findCls K (.ref C) mc m = some (.get (.builtin "staticmethod.__get__") (.ref p) .none (.ref C))
  rc : ∃ rest, PySem.W.recIn K p "staticmethod" = some (.ref g :: rest)
  kp : PySem.W.keepIn K (.ref g) = true
def tSMeth (C : Addr) (sp : Sp) (E : XK) (ta : TE) (t : TA) : TE := fun σ H Q => ta σ H fun x H1 => x = .ref C ∧ t σ H1 fun vs H2 => sp vs H2 Q E
theorem pe_smeth {CX : CXT} {k : Nat} {mc : Value} {p g : Addr} {E : XK} {o e : Expr} {es : List Expr} {m : Str} {pos apos : Pos} {ta : TE} {t : TA} {pl : Sem Bool} (he : PE X o ta) (r : ClX.CRead X.K C mc) (c : SMet X.K C mc m p g) (F : FnOk X.prog X.w X.K X.mg X.base CX k g fd ps sp) (hb : Binds X.K fd ps []) (hr : Room k X.A) (hx : Passes CX X E) (ha : PA X (e :: es) t)
    (hst : starEach (e :: es) X.env = (false, eval e X.env) :: starEach es X.env := by rfl) (hpl : (backTo pos (starEach es X.env)).any (·.1) = false := by rfl)
    (ht : eval (.Call (.Attribute o m apos) (e :: es) [] pos) X.env = (do
      let ov ← eval o X.env
      standAt apos.atName
      let (f, first) ← holding [ov] (getMethod ov m pl)
      callWith pos f first (backTo pos (starEach (e :: es) X.env)) (backToKw pos (keywordEach [] X.env))) := by rfl) :
    PE X (.Call (.Attribute o m apos) (e :: es) [] pos) (tSMeth C sp E ta t) := by
  refine ⟨fun pins s σ H Q I h => ?_⟩
  refine PySem.W.methodCall_KW (pl := pl) (thn (he.run pins s σ H _ I h) fun u s1 ⟨x, H1, I1, rx, ex, q⟩ => ?_) ht
  subst ex
  obtain rfl : u = Value.ref C := rx
  obtain ⟨rest, hp⟩ := c.rc
  refine PySem.W.method_cls I1.kIn r.ga (PySem.W.cls_bind I1.kIn r.rd c.at_ (wpAny_call (PySem.W.sm_get (s := { s1 with toks := s1.toks + 1 }) I1.kIn hp (PySem.W.handed_on rfl ?_))))
  have I2 := I1.tok (s1.toks + 1)
  refine PySem.W.callWith_K (first := []) (h₀ := X.base) I.ok.mod.kin c.kp (thn (ha.run pos pins _ σ H1 _ I2 q) fun us s2 ⟨vs, H2, I3, rv, q2⟩ => ⟨I3.kIn, ?_⟩) hst hpl
  exact run_fn F hr hb .nil hx I3 rv (by rw [List.append_nil]; exact q2)
end
/-! ### str and repr of a ratio -/
def ratL (p q : Int) : List Nat := if q = 1 then intL p else intL p ++ 47 :: intL q
def repL (p q : Int) : List Nat := [82, 97, 116, 105, 111, 40] ++ (intL p ++ ([44, 32] ++ (intL q ++ [41])))
theorem intL_len {n : Int} (h : n.natAbs < 10 ^ 128) : (intL n).length ≤ 129 := by
  have := TL.numL_len (by decide : 0 < 128) h
  unfold intL
  split
  · rw [List.length_cons]; omega
  · omega
/-- a ratio's numbers -/
def RatAt (C : Addr) (H : Hp) (a : Addr) (p q : Int) : Prop := ∃ dx fs, H a = some (.ins C dx fs) ∧ fs.lookup ("top" : Str) = some (.int p) ∧ fs.lookup ("bottom" : Str) = some (.int q)
theorem RatAt.sm {C : Addr} {H H' : Hp} {a : Addr} {p q : Int} (s : Same H H') : RatAt C H a p q → RatAt C H' a p q := fun ⟨dx, fs, h1, h2, h3⟩ => ⟨dx, fs, s _ _ h1, h2, h3⟩
def spStr (C : Addr) (f : Int → Int → List Nat) : Sp := fun vs H Q _ => ∃ (a : Addr) (p q : Int), vs = [.ref a] ∧ RatAt C H a p q ∧ p.natAbs < 10 ^ 128 ∧ q.natAbs < 10 ^ 128 ∧ ∀ H', Same H H' → Q (.str (SX.S (f p q))) H'
def spDigits : Sp := fun vs H Q _ => ∃ z : Str, vs = [.str z] ∧ Q (.bl (Txt.isascii z && Txt.isdigit z)) H
section
variable {P : Program} {w : World} {K : PySem.W.Frag} {mg : Str → Option Value} {base : Heap} {C fWn : Addr}
abbrev sStr : Stmt := inClass (top 9) 11
theorem scStr : FnScope ["self"] ["self"] (defScope sStr) := ⟨rfl, rfl, rfl, by decide +kernel, rfl, by decide +kernel, by decide +kernel⟩
theorem ok_str {f : Addr} {fd fdW : FuncData} (F : Fun K "__str__" "Ratio.__str__" sStr f fd) (cl : Cls K C) (nT : NoAttr K C "top") (nB : NoAttr K C "bottom") (aW : At K mg "written" fWn) (GW : FnOk P w K mg base CX0 1 fWn fdW ["number"] spWritten) (bW : Binds K fdW ["number"] []) :
    FnOk P w K mg base CX0 2 f fd ["self"] (spStr C ratL) := by
  refine F.ok scStr (fun vs H Q E h => ?_) (fun cdv A outer s H vs Q E hr h => ?_)
  · obtain ⟨a, p, q, rfl, _⟩ := h
    rfl
  · obtain ⟨a, p, q, rfl, RA, hp, hq, k⟩ := h
    obtain ⟨dx, fs, ha, ht, hb⟩ := id RA
    have hsz : (sizeLine : Nat) = 16777216 := sizeLine_eq
    have lp := intL_len hp
    have lq := intL_len hq
    refine ⟨_, pss_cons (ps_if (pt_cmpR op_eq (pe_fld (pv 0) rfl) pe_int (nomark _)) (pss_one (ps_ret (pe_joined1 (pe_fmt (pe_call GW hr (by rfl) aW.g aW.k bW .nil pass0 (pa_cons (pe_fld (pv 0) rfl) pa_nil)))))) pss_nil)
      (pss_one (ps_ret (pe_joined (.cons (pe_fmt (pe_call GW hr (by rfl) aW.g aW.k bW .nil pass0 (pa_cons (pe_fld (pv 0) rfl) pa_nil))) (.cons pe_str (.cons (pe_fmt (pe_call GW hr (by rfl) aW.g aW.k bW .nil pass0 (pa_cons (pe_fld (pv 0) rfl) pa_nil))) .nil)))))), ?_⟩
    refine ⟨_, rfl, a, C, dx, fs, _, rfl, ha, cl, nB, hb, rfl, _, rfl, ?_⟩
    rw [dec_int]
    by_cases h1 : q = 1
    · rw [show (q == 1) = true from beq_iff_eq.mpr h1]
      refine iteT ⟨_, rfl, a, C, dx, fs, _, rfl, ha, cl, nT, ht, p, rfl, hp, fun H1 s1 => .inl ⟨_, rfl, by rw [SX.S_len]; omega, ?_⟩⟩
      have e : ratL p q = intL p := by unfold ratL; rw [if_pos h1]
      have k' := k H1 s1
      rw [e] at k'
      exact k'
    · rw [show (q == 1) = false from beq_eq_false_iff_ne.mpr h1]
      refine iteF ⟨_, rfl, a, C, dx, fs, _, rfl, ha, cl, nT, ht, p, rfl, hp, fun H1 s1 => .inl ⟨_, rfl, by rw [SX.S_len]; omega, _, rfl, ?_, _, rfl, ?_, _, rfl, a, C, dx, fs, _, rfl, s1 _ _ ha, cl, nB, hb, q, rfl, hq, fun H2 s2 => .inl ⟨_, rfl, by rw [SX.S_len]; omega, _, rfl, ?_, ?_⟩⟩⟩
      · rw [show Str.empty = SX.S [] from rfl, SX.S_cat, SX.S_len, List.nil_append]
        omega
      · rw [show Str.empty = SX.S [] from rfl, SX.S_cat, show (("/" : Str)) = SX.S [47] from rfl, SX.S_cat, SX.S_len, List.length_append, List.nil_append]
        simp only [List.length_cons, List.length_nil]
        omega
      · rw [show Str.empty = SX.S [] from rfl, SX.S_cat, show (("/" : Str)) = SX.S [47] from rfl, SX.S_cat, SX.S_cat, SX.S_len, List.length_append, List.length_append, List.nil_append]
        simp only [List.length_cons, List.length_nil]
        omega
      · have e : ((Str.empty ++ SX.S (intL p)) ++ ("/" : Str)) ++ SX.S (intL q) = SX.S (ratL p q) := by
          unfold ratL
          rw [if_neg h1, show Str.empty = SX.S [] from rfl, SX.S_cat, show (("/" : Str)) = SX.S [47] from rfl, SX.S_cat, SX.S_cat, List.nil_append, List.append_assoc]
          rfl
        show Q (.str _) _
        rw [e]
        exact k H2 (s1.trans s2)
abbrev sRepr : Stmt := inClass (top 9) 12
theorem scRepr : FnScope ["self"] ["self"] (defScope sRepr) := ⟨rfl, rfl, rfl, by decide +kernel, rfl, by decide +kernel, by decide +kernel⟩
theorem ok_repr {f : Addr} {fd fdW : FuncData} (F : Fun K "__repr__" "Ratio.__repr__" sRepr f fd) (cl : Cls K C) (nT : NoAttr K C "top") (nB : NoAttr K C "bottom") (aW : At K mg "written" fWn) (GW : FnOk P w K mg base CX0 1 fWn fdW ["number"] spWritten) (bW : Binds K fdW ["number"] []) :
    FnOk P w K mg base CX0 2 f fd ["self"] (spStr C repL) := by
  refine F.ok scRepr (fun vs H Q E h => ?_) (fun cdv A outer s H vs Q E hr h => ?_)
  · obtain ⟨a, p, q, rfl, _⟩ := h
    rfl
  · obtain ⟨a, p, q, rfl, RA, hp, hq, k⟩ := h
    obtain ⟨dx, fs, ha, ht, hb⟩ := id RA
    have hsz : (sizeLine : Nat) = 16777216 := sizeLine_eq
    have lp := intL_len hp
    have lq := intL_len hq
    refine ⟨_, pss_one (ps_ret (pe_joined (.cons pe_str (.cons (pe_fmt (pe_call GW hr (by rfl) aW.g aW.k bW .nil pass0 (pa_cons (pe_fld (pv 0) rfl) pa_nil))) (.cons pe_str (.cons (pe_fmt (pe_call GW hr (by rfl) aW.g aW.k bW .nil pass0 (pa_cons (pe_fld (pv 0) rfl) pa_nil))) (.cons pe_str .nil))))))), ?_⟩
    have e1 : Str.empty ++ ("Ratio(" : Str) = SX.S [82, 97, 116, 105, 111, 40] := by decide +kernel
    have e2 : ((", " : Str)) = SX.S [44, 32] := by decide +kernel
    have e3 : ((")" : Str)) = SX.S [41] := by decide +kernel
    refine ⟨_, rfl, ?_, _, rfl, a, C, dx, fs, _, rfl, ha, cl, nT, ht, p, rfl, hp, fun H1 s1 => .inl ⟨_, rfl, by rw [SX.S_len]; omega, _, rfl, ?_, _, rfl, ?_, _, rfl, a, C, dx, fs, _, rfl, s1 _ _ ha, cl, nB, hb, q, rfl, hq, fun H2 s2 => .inl ⟨_, rfl, by rw [SX.S_len]; omega, _, rfl, ?_, _, rfl, ?_, ?_⟩⟩⟩
    · rw [e1, SX.S_len]
      simp only [List.length_cons, List.length_nil]
      omega
    · rw [e1, SX.S_cat, SX.S_len, List.length_append]
      simp only [List.length_cons, List.length_nil]
      omega
    · rw [e1, e2, SX.S_cat, SX.S_cat, SX.S_len, List.length_append, List.length_append]
      simp only [List.length_cons, List.length_nil]
      omega
    · rw [e1, e2, SX.S_cat, SX.S_cat, SX.S_cat, SX.S_len, List.length_append, List.length_append, List.length_append]
      simp only [List.length_cons, List.length_nil]
      omega
    · rw [e1, e2, e3, SX.S_cat, SX.S_cat, SX.S_cat, SX.S_cat, SX.S_len, List.length_append, List.length_append, List.length_append, List.length_append]
      simp only [List.length_cons, List.length_nil]
      omega
    · have e : ((((Str.empty ++ ("Ratio(" : Str)) ++ SX.S (intL p)) ++ (", " : Str)) ++ SX.S (intL q)) ++ (")" : Str) = SX.S (repL p q) := by
        rw [e1, e2, e3, SX.S_cat, SX.S_cat, SX.S_cat, SX.S_cat]
        unfold repL
        simp only [List.append_assoc]
      show Q (.str _) _
      rw [e]
      exact k H2 (s1.trans s2)
abbrev sDigits : Stmt := top 7
theorem scDigits : FnScope ["text"] ["text"] (defScope sDigits) := ⟨rfl, rfl, rfl, by decide +kernel, rfl, by decide +kernel, by decide +kernel⟩
theorem ok_digits {f : Addr} {fd : FuncData} (F : Fun K "is_digits" "is_digits" sDigits f fd) : FnOk P w K mg base CX0 1 f fd ["text"] spDigits := by
  refine F.ok scDigits (fun vs H Q E h => ?_) (fun cdv A outer s H vs Q E hr h => ?_)
  · obtain ⟨z, rfl, _⟩ := h
    rfl
  · obtain ⟨z, rfl, k⟩ := h
    refine ⟨_, pss_one (ps_ret (pe_and (pe_bm0 PySem.F.plainAttrs_str PySem.F.slot_str_isascii PySem.F.type_str_isascii mt_isascii (pv 0)) (pe_one (pe_bm0 PySem.F.plainAttrs_str PySem.F.slot_str_isdigit PySem.F.type_str_isdigit mt_isdigit (pv 0))))), ?_⟩
    refine ⟨_, rfl, rfl, z, rfl, rfl, trivial, _, rfl, ?_⟩
    cases h : Txt.isascii z with
    | false => rw [h] at k; exact iteF k
    | true =>
      rw [h] at k
      exact iteT ⟨_, rfl, rfl, z, rfl, rfl, trivial, k⟩
end
/-! ### reading a ratio's text: the signs -/
open PySem.NumText in
def digB (l : List Nat) : Bool := !l.isEmpty && l.all fun c => decide (48 ≤ c) && decide (c ≤ 57)
open PySem.NumText in
theorem digB_of {l : List Nat} (h : AllDigits l) (h1 : l ≠ []) : digB l = true := by
  unfold digB
  rw [Bool.and_eq_true]
  refine ⟨by cases l with | nil => exact absurd rfl h1 | cons a b => rfl, ?_⟩
  rw [List.all_eq_true]
  intro c hc
  have := h c hc
  rw [decide_eq_true this.1, decide_eq_true this.2]
  rfl
open PySem.NumText in
theorem digB_all {l : List Nat} (h : digB l = true) : AllDigits l ∧ l ≠ [] := by
  unfold digB at h
  rw [Bool.and_eq_true, List.all_eq_true] at h
  refine ⟨fun c hc => ?_, fun z => by rw [z] at h; cases h.1⟩
  have := h.2 c hc
  rw [Bool.and_eq_true] at this
  exact ⟨of_decide_eq_true this.1, of_decide_eq_true this.2⟩
theorem digit_code : ∀ c : Nat, c < 128 → Unicode.isDigit c = (decide (48 ≤ c) && decide (c ≤ 57)) := by decide +kernel
theorem digits_S (l : List Nat) : (Txt.isascii (SX.S l) && Txt.isdigit (SX.S l)) = digB l := by
  unfold Txt.isascii Txt.isdigit digB
  show ((l.toArray.all fun x => decide (x < 128)) && (decide (l.toArray.size > 0) && l.toArray.all Unicode.isDigit)) = _
  rw [List.all_toArray, List.all_toArray, List.size_toArray]
  cases l with
  | nil => rfl
  | cons a b =>
    rw [show decide ((a :: b).length > 0) = true from decide_eq_true (Nat.succ_pos _), Bool.true_and]
    show _ = (!false && _)
    rw [Bool.not_false, Bool.true_and]
    rw [Bool.eq_iff_iff, Bool.and_eq_true, List.all_eq_true, List.all_eq_true, List.all_eq_true]
    constructor
    · rintro ⟨h1, h2⟩ c hc
      rw [← digit_code c (of_decide_eq_true (h1 c hc))]
      exact h2 c hc
    · intro h
      have hlt : ∀ c ∈ a :: b, c < 128 := fun c hc => by
        have := h c hc
        rw [Bool.and_eq_true] at this
        have := of_decide_eq_true this.2
        omega
      exact ⟨fun c hc => decide_eq_true (hlt c hc), fun c hc => by rw [digit_code c (hlt c hc)]; exact h c hc⟩
/-- without a leading '-' -/
def noMinus : List Nat → List Nat
  | 45 :: r => r
  | l => l
theorem intL_digits (n : Int) : digB (noMinus (intL n)) = true := by
  unfold intL
  split
  · exact digB_of (TL.numL_digits _) (TL.numL_ne _)
  · have e : noMinus (TL.numL n.natAbs) = TL.numL n.natAbs := by
      cases h : TL.numL n.natAbs with
      | nil => rfl
      | cons c r =>
        have hd := TL.numL_digits n.natAbs c (by rw [h]; exact List.mem_cons_self)
        unfold noMinus
        split
        · rename_i r' e
          cases e
          omega
        · rfl
    rw [e]
    exact digB_of (TL.numL_digits _) (TL.numL_ne _)
theorem intL_int {n : Int} (h : n.natAbs < 10 ^ 128) : PySem.intText? (SX.S (intL n)) = some n := by
  have hl := intL_len h
  unfold intL at hl ⊢
  by_cases hn : n < 0
  · rw [if_pos hn] at hl ⊢
    have := PySem.intText_neg (x := SX.S (45 :: TL.numL n.natAbs)) rfl (TL.numL_digits _) (TL.numL_ne _) (by rw [SX.S_len]; omega)
    rw [this, TL.numL_val]
    congr 1
    omega
  · rw [if_neg hn] at hl ⊢
    have := PySem.intText_digits (x := SX.S (TL.numL n.natAbs)) (TL.numL_digits _) (TL.numL_ne _) (by rw [SX.S_len]; omega)
    rw [this]
    show some ((PySem.NumText.digitsVal (TL.numL n.natAbs) : Nat) : Int) = some n
    rw [TL.numL_val]
    congr 1
    omega
theorem intL_free (n : Int) : 47 ∉ intL n := by
  unfold intL
  split
  · intro h
    rcases List.mem_cons.mp h with h | h
    · cases h
    · exact TL.numL_free (.inl (by decide)) h
  · exact TL.numL_free (.inl (by decide))
/-- what a canonical text is made of -/
theorem canon {p q : Int} (hq : 0 < q) : (TL.par [47] [] (ratL p q) = none ∧ q = 1 ∧ ratL p q = intL p) ∨ (TL.par [47] [] (ratL p q) = some (intL p, intL q) ∧ q ≠ 1) := by
  by_cases h : q = 1
  · have e : ratL p q = intL p := by unfold ratL; rw [if_pos h]
    exact .inl ⟨by rw [e]; exact SX.par_head_none (intL_free p), h, e⟩
  · have e : ratL p q = intL p ++ ([47] ++ intL q) := by unfold ratL; rw [if_neg h]; rfl
    exact .inr ⟨by rw [e]; exact SX.par_head _ (intL_free p), h⟩
theorem removeprefix_S (l : List Nat) : Txt.removeprefix (SX.S l) (SX.S [45]) = SX.S (noMinus l) := by
  rw [StrLaws.removeprefix_eq]
  rw [StrLaws.subAt_eq, SX.S_len, SX.S_len]
  show (if (decide (0 + 1 ≤ l.length) && ((l.drop 0).take 1 == [45])) = true then SX.S ((l.drop 1).take (l.length - 1)) else SX.S l) = _
  cases l with
  | nil => rfl
  | cons c r =>
    by_cases hc : c = 45
    · subst hc
      rw [if_pos (by simp)]
      show SX.S (r.take ((45 :: r).length - 1)) = SX.S r
      rw [List.length_cons, Nat.add_sub_cancel, List.take_length]
    · rw [if_neg (by simp [hc])]
      unfold noMinus
      split
      · rename_i r' e
        cases e
        exact absurd rfl hc
      · rfl
/-! ### Ratio.read -/
open PySem.NumText in
theorem digitsVal_lt : ∀ {l : List Nat}, AllDigits l → digitsVal l < 10 ^ l.length
  | l, h => by
    induction l with
    | nil => decide
    | cons c r ih =>
      have e : digitsVal (c :: r) = digitsVal ([c] ++ r) := rfl
      rw [e, digitsVal_app]
      have h1 : digitsVal [c] = c - 48 := by show 0 * 10 + (c - 48) = _; omega
      have hc := h.head
      have hr := ih h.tail
      rw [h1, List.length_cons, Nat.pow_succ]
      have hp : (c - 48) * 10 ^ r.length ≤ 9 * 10 ^ r.length := Nat.mul_le_mul_right _ (by omega)
      omega
theorem int_of {l : List Nat} (h : digB (noMinus l) = true) (hl : l.length ≤ 100) : ∃ n : Int, PySem.intText? (SX.S l) = some n ∧ n.natAbs < 10 ^ 100 := by
  obtain ⟨hd, hne⟩ := digB_all h
  have pw : ∀ {k : Nat}, k ≤ 100 → 10 ^ k ≤ 10 ^ 100 := fun hk => Nat.pow_le_pow_right (by decide) hk
  cases l with
  | nil => exact absurd rfl hne
  | cons c r =>
    by_cases hc : c = 45
    · subst hc
      have hlr : r.length ≤ 100 := by rw [List.length_cons] at hl; omega
      refine ⟨_, PySem.intText_neg (x := SX.S (45 :: r)) rfl hd hne (by rw [SX.S_len]; omega), ?_⟩
      have h2 : PySem.NumText.digitsVal r < 10 ^ 100 := Nat.lt_of_lt_of_le (digitsVal_lt (l := r) hd) (pw hlr)
      show (-((PySem.NumText.digitsVal r : Nat) : Int)).natAbs < _
      omega
    · have e : noMinus (c :: r) = c :: r := by
        unfold noMinus
        split
        · rename_i r' e
          cases e
          exact absurd rfl hc
        · rfl
      rw [e] at hd hne
      refine ⟨_, PySem.intText_digits (x := SX.S (c :: r)) hd hne (by rw [SX.S_len]; omega), ?_⟩
      have := Nat.lt_of_lt_of_le (digitsVal_lt hd) (pw hl)
      exact this
theorem reduced {m n : Int} (hn : 0 < n) : 0 < n.fdiv (cmn m n) ∧ Nat.gcd (m.fdiv (cmn m n)).natAbs (n.fdiv (cmn m n)).natAbs = 1 ∧ (m.fdiv (cmn m n)).natAbs ≤ m.natAbs ∧ (n.fdiv (cmn m n)).natAbs ≤ n.natAbs := by
  have e : cmn m n = ((Nat.gcd m.natAbs n.natAbs : Nat) : Int) := by unfold cmn; rw [if_neg (by omega)]
  have g0 : 0 < Nat.gcd m.natAbs n.natAbs := Nat.gcd_pos_of_pos_right _ (by omega)
  rw [e]
  have dm : ((Nat.gcd m.natAbs n.natAbs : Nat) : Int) ∣ m := Int.ofNat_dvd_left.mpr (Nat.gcd_dvd_left _ _)
  have dn : ((Nat.gcd m.natAbs n.natAbs : Nat) : Int) ∣ n := Int.ofNat_dvd_left.mpr (Nat.gcd_dvd_right _ _)
  obtain ⟨a, ha⟩ := dm
  obtain ⟨b, hb⟩ := dn
  generalize hg : Nat.gcd m.natAbs n.natAbs = g at g0 ha hb ⊢
  have hgi : ((g : Nat) : Int) ≠ 0 := by omega
  have em : m.fdiv (g : Int) = a := by rw [ha, Int.mul_fdiv_cancel_left _ hgi]
  have en : n.fdiv (g : Int) = b := by rw [hb, Int.mul_fdiv_cancel_left _ hgi]
  rw [em, en]
  have am : m.natAbs = g * a.natAbs := by rw [ha, Int.natAbs_mul]; rfl
  have an : n.natAbs = g * b.natAbs := by rw [hb, Int.natAbs_mul]; rfl
  have b0 : 0 < b := by
    rw [hb] at hn
    exact Int.pos_of_mul_pos_right hn (by omega)
  refine ⟨b0, ?_, ?_, ?_⟩
  · rw [am, an, Nat.gcd_mul_left] at hg
    exact Nat.eq_of_mul_eq_mul_left g0 (by rw [hg, Nat.mul_one])
  · rw [am]; exact Nat.le_mul_of_pos_left _ g0
  · rw [an]; exact Nat.le_mul_of_pos_left _ g0
/-- the text of a ratio, of at most 100 signs -/
def Canon (t : List Nat) (p q : Int) : Prop := 0 < q ∧ Nat.gcd p.natAbs q.natAbs = 1 ∧ t = ratL p q ∧ t.length ≤ 100
def spRead (C CI : Addr) : Sp := fun vs H Q E => ∃ t : List Nat, vs = [.str (SX.S t)] ∧ t.length ≤ 1000 ∧
  (∀ p q, Canon t p q → ∀ H' r, Same H H' → H r = none → RatAt C H' r p q → Q (.ref r) H') ∧ ((∀ p q, ¬ Canon t p q) → ∀ H' d, Same H H' → H' d = none → E (.ref CI) (some d) (upd H' d (.xd [("value", .str (SX.S t))])))
/-- where the text is cut -/
theorem cut_at (t : List Nat) : (47 ∉ t ∧ Txt.partition (SX.S t) "/" = (SX.S t, SX.S [], SX.S []) ∧ TL.par [47] [] t = none) ∨ ∃ p q, t = p ++ 47 :: q ∧ Txt.partition (SX.S t) "/" = (SX.S p, SX.S [47], SX.S q) ∧ TL.par [47] [] t = some (p, q) := by
  have e : ("/" : Str) = SX.S [47] := by decide +kernel
  rw [e]
  by_cases h : 47 ∈ t
  · obtain ⟨p, q, ht, hp⟩ := List.eq_append_cons_of_mem h
    have hpar : TL.par [47] [] t = some (p, q) := by
      rw [ht]
      exact SX.par_head (c := 47) (sep := []) q hp
    exact .inr ⟨p, q, ht, SX.partition_some (by simp) hpar, hpar⟩
  · have hpar : TL.par [47] [] t = none := SX.par_head_none (c := 47) (sep := []) h
    exact .inl ⟨h, SX.partition_none (by simp) hpar, hpar⟩
theorem intL_small {p : Int} (h : (intL p).length ≤ 100) : p.natAbs < 10 ^ 128 := by
  have hl : (TL.numL p.natAbs).length ≤ 100 := by
    unfold intL at h
    split at h
    · rw [List.length_cons] at h; omega
    · exact h
  have := digitsVal_lt (TL.numL_digits p.natAbs)
  rw [TL.numL_val] at this
  exact Nat.lt_of_lt_of_le this (Nat.pow_le_pow_right (by decide) (by omega))
theorem intL_pos {q : Int} (h : 0 < q) : intL q = TL.numL q.natAbs := by unfold intL; rw [if_neg (by omega)]
theorem cmn_coprime {p q : Int} (hq : 0 < q) (h : Nat.gcd p.natAbs q.natAbs = 1) : cmn p q = 1 := by
  unfold cmn
  rw [if_neg (by omega), h]
  rfl
section
variable {P : Program} {w : World} {K : PySem.W.Frag} {mg : Str → Option Value} {base : Heap} {C CI fE fW fDg fS : Addr} {mc : Value}
abbrev sRead : Stmt := inClass (top 9) 16
theorem scRead : FnScope ["text", "top", "slash", "bottom", "ratio"] ["text"] (defScope sRead) := ⟨rfl, rfl, rfl, by decide +kernel, rfl, by decide +kernel, by decide +kernel⟩
theorem ok_read {f fQ : Addr} {fd fdE fdD fdQ fdS : FuncData} (F : Fun K "read" "Ratio.read" sRead f fd) (T : TxR K mg C CI fE fW) (cr : ClX.CRead K C mc) (h100 : ∃ u, ClX.CVal K C mc "MOST_TEXT" (.int 100) u) (mIs : mg "isinstance" = none) (mS : mg "str" = none) (mL : mg "len" = none) (mI : mg "int" = none)
    (GE : FnOk P w K mg base CX0 1 fE fdE ["self", "value"] (spEx1 CI "value")) (bE : Binds K fdE ["self", "value"] []) (aD : At K mg "is_digits" fDg) (GD : FnOk P w K mg base CX0 1 fDg fdD ["text"] spDigits) (bD : Binds K fdD ["text"] [])
    (M : Mk K C fQ) (GQ : FnOk P w K mg base (L2.CX P w) 3 fQ fdQ ["self", "top", "bottom"] (spInit K C CI)) (bQ : Binds K fdQ ["self", "top", "bottom"] []) (hs : PySem.W.findIn K (.ref C) "__str__" = some (some (.ref fS))) (hf : PySem.W.isFn K (.ref fS) = true)
    (GS : FnOk P w K mg base CX0 2 fS fdS ["self"] (spStr C ratL)) (bS : Binds K fdS ["self"] []) : FnOk P w K mg base (L2.CX P w) 6 f fd ["text"] (spRead C CI) := by
  obtain ⟨u1, hC⟩ := h100
  refine F.okX scRead (fun vs H Q E h => ?_) (fun cdv A outer s H vs Q E hr h => ?_)
  · obtain ⟨t, rfl, _⟩ := h
    rfl
  · obtain ⟨t, rfl, hlt, kQ, kE⟩ := h
    have nd := scRead.nd
    have hr2 : Room 2 _ := hr.mono (by decide)
    have rz := fun (x : Nat) => x
    refine ⟨_, pss_cons (ps_if (PW.pt (pw_or (pt_not (pt_val (pe_callB call_isi (by rfl) mIs (by decide +kernel) (pa_cons (pv 0) (pa_cons (pe_bltn (v := .ty "str") (by rfl) mS (by decide +kernel) rfl) pa_nil)))))
        (pw_or1 (pt_cmpR op_gt (pe_callB call_len_str (by rfl) mL PySem.boot_len (pa_cons (pv 0) pa_nil)) (ClX.pe_cval (pe_glob (v := .ref C) (by rfl) T.mgC rfl)) (nomark _))))) (pss_one (ps_raise1 T.err GE hr2 bE pass0 rfl (takes_of rfl rfl rfl rfl) (pv 0) (fun σ H P R h => mono_tVar σ H P R h))) pss_nil)
      (pss_cons (ps_asg (pe_partition (pv 0) pe_str) (pg_tup rfl (pgs_cons (pg_name (i := 1) nd rfl (Or.inl rfl)) (pgs_cons (pg_name (i := 2) nd rfl (Or.inl rfl)) (pgs_cons (pg_name (i := 3) nd rfl (Or.inl rfl)) pgs_nil)))))
      (C8.pss_cut (ps_if (pt_cmpR op_eq (pv 2) pe_str (nomark _)) (pss_one (ps_set (i := 3) nd rfl (Or.inl rfl) pe_str)) pss_nil)
      (pss_cons (ps_if (PW.pt (pw_or (pt_not (pt_val (pe_call GD (hr.mono (by decide)) (by rfl) aD.g aD.k bD .nil pass0 (pa_cons (pe_bm PySem.F.plainAttrs_str PySem.F.slot_str_removeprefix PySem.F.type_str_removeprefix mt_removeprefix (pv 1) (pa_cons pe_str pa_nil)) pa_nil))))
          (pw_or (pt_not (pt_val (pe_call GD (hr.mono (by decide)) (by rfl) aD.g aD.k bD .nil pass0 (pa_cons (pv 3) pa_nil)))) (pw_or1 (pt_cmpR op_eq (pe_callTy call_int_str (by rfl) mI (by decide +kernel) (pa_cons (pv 3) pa_nil)) pe_int (nomark _))))))
        (pss_one (ps_raise1 T.err GE hr2 bE pass0 rfl (takes_of rfl rfl rfl rfl) (pv 0) (fun σ H P R h => mono_tVar σ H P R h))) pss_nil)
      (pss_cons (ps_set (i := 4) nd rfl (Or.inl rfl) (pe_make M GQ (hr.mono (by decide)) (by rfl) T.mgC bQ .nil (passes_call (takes_of rfl rfl rfl rfl) (fun _ _ _ _ h => h)) (pa_cons (pe_callTy call_int_str (by rfl) mI (by decide +kernel) (pa_cons (pv 1) pa_nil)) (pa_cons (pe_callTy call_int_str (by rfl) mI (by decide +kernel) (pa_cons (pv 3) pa_nil)) pa_nil))))
      (pss_cons (ps_if (pt_cmpR op_ne (pe_callTy (call_strO hs hf GS bS (hr.mono (by decide))) (by rfl) mS (by decide +kernel) (pa_cons (pv 4) pa_nil)) (pv 0) (nomark _)) (pss_one (ps_raise1 T.err GE hr2 bE pass0 rfl (takes_of rfl rfl rfl rfl) (pv 0) (fun σ H P R h => mono_tVar σ H P R h))) pss_nil)
      (pss_one (ps_ret (pv 4)))))))), ?_⟩
    have hsz : (sizeLine : Nat) = 16777216 := sizeLine_eq
    have e100 : ∀ {k : Nat}, k < 10 ^ 100 → k < 10 ^ 128 := fun h => Nat.lt_trans h (by decide)
    refine ⟨_, rfl, _, _, _, _, true, rfl, .ty "str", .base (.str _), kit_ty (by decide +kernel), true, rfl, ?_⟩
    refine iteF ⟨_, rfl, SX.S t, rfl, by rw [SX.S_len]; omega, C, mc, .int 100, u1, rfl, cr, hC, _, _, rfl, rfl, _, rfl, ?_⟩
    rw [SX.S_len]
    refine ite2 (fun hb => ?_) (fun hb => ?_)
    · have hb' : (100 : Int) < (t.length : Int) := of_decide_eq_true hb
      exact ⟨_, rfl, fun d hd => kE (fun p q c => by have := c.2.2.2; omega) H d (Same.refl H) hd⟩
    · have hb' : ¬ (100 : Int) < (t.length : Int) := fun z => hb (decide_eq_true z)
      have ht : t.length ≤ 100 := by omega
      refine ⟨_, rfl, ⟨_, rfl⟩, SX.S t, _, rfl, rfl, by decide +kernel, by rw [SX.S_len]; omega, fun pt hpt => ?_⟩
      have sP : ∀ u, Same H (upd H pt u) := fun u => same_upd hpt
      obtain ⟨a, sl, b0, b, hpart, hsl, hal, hbl, hcan⟩ : ∃ (a : List Nat) (sl : Str) (b0 b : List Nat), Txt.partition (SX.S t) "/" = (SX.S a, sl, SX.S b0) ∧ ((sl = "" ∧ b = [49]) ∨ (¬ sl = "" ∧ b = b0)) ∧ a.length ≤ 100 ∧ b.length ≤ 100 ∧ ∀ p q, Canon t p q → a = intL p ∧ b = intL q := by
        rcases cut_at t with ⟨h, hp, hpar⟩ | ⟨p, q, e, hp, hpar⟩
        · refine ⟨t, SX.S [], [], [49], hp, .inl ⟨rfl, rfl⟩, ht, by decide, fun p q c => ?_⟩
          rcases canon (p := p) c.1 with ⟨_, h1, e1⟩ | ⟨h2, _⟩
          · refine ⟨c.2.2.1.trans e1, ?_⟩
            rw [h1]
            decide +kernel
          · rw [← c.2.2.1, hpar] at h2
            cases h2
        · have hlen := congrArg List.length e
          rw [List.length_append, List.length_cons] at hlen
          refine ⟨p, SX.S [47], q, q, hp, .inr ⟨by decide +kernel, rfl⟩, by omega, by omega, fun x y c => ?_⟩
          rcases canon (p := x) c.1 with ⟨h2, _⟩ | ⟨h2, _⟩
          · rw [← c.2.2.1, hpar] at h2
            cases h2
          · rw [← c.2.2.1, hpar] at h2
            have h3 := Option.some.inj h2
            exact ⟨congrArg Prod.fst h3, congrArg Prod.snd h3⟩
      rw [hpart]
      refine ⟨pt, _, rfl, SqT.of upd_same, rfl, _, _, rfl, _, _, rfl, _, _, rfl, rfl, ?_⟩
      obtain ⟨H1, eH1⟩ : ∃ H1, H1 = upd H pt (.tup [.str (SX.S a), .str sl, .str (SX.S b0)]) := ⟨_, rfl⟩
      have s1 : Same H H1 := by rw [eH1]; exact sP _
      rw [← eH1]
      refine ⟨fun σ' H' => H' = H1 ∧ σ' = [some (.str (SX.S t)), some (.str (SX.S a)), some (.str sl), some (.str (SX.S b)), none], ?_, ?_⟩
      · refine ⟨_, rfl, rfl, _, rfl, ?_⟩
        rcases hsl with ⟨h1, h2⟩ | ⟨h1, h2⟩
        · rw [h1, h2, decide_eq_true rfl]
          exact iteT ⟨rfl, rfl⟩
        · rw [h2, decide_eq_false (fun z => h1 (V.str.inj z))]
          exact iteF ⟨rfl, rfl⟩
      · rintro σ' H' ⟨rfl, rfl⟩
        have e45 : ("-" : Str) = SX.S [45] := by decide +kernel
        refine ⟨_, rfl, rfl, SX.S a, _, rfl, rfl, by rw [SX.S_len]; omega, _, rfl, _, rfl, ?_⟩
        rw [e45, removeprefix_S, digits_S]
        cases hda : digB (noMinus a) with
        | false =>
          refine iteT (iteT ⟨_, rfl, fun d hd => kE (fun p q c => ?_) _ d s1 hd⟩)
          rw [(hcan p q c).1, intL_digits] at hda
          cases hda
        | true =>
          obtain ⟨m, hm, hm1⟩ := int_of hda hal
          refine iteF ⟨_, rfl, _, rfl, _, rfl, ?_⟩
          rw [digits_S]
          cases hdb : digB b with
          | false =>
            refine iteT (iteT ⟨_, rfl, fun d hd => kE (fun p q c => ?_) _ d s1 hd⟩)
            rw [(hcan p q c).2, intL_pos c.1, digB_of (TL.numL_digits _) (TL.numL_ne _)] at hdb
            cases hdb
          | true =>
            obtain ⟨hbd, hbn⟩ := digB_all hdb
            have hv : PySem.intText? (SX.S b) = some ((PySem.NumText.digitsVal b : Nat) : Int) := PySem.intText_digits (x := SX.S b) hbd hbn (by rw [SX.S_len]; omega)
            have hvb : PySem.NumText.digitsVal b < 10 ^ 100 := Nat.lt_of_lt_of_le (digitsVal_lt hbd) (Nat.pow_le_pow_right (by decide) hbl)
            have hvq : ∀ p q, Canon t p q → PySem.NumText.digitsVal b = q.natAbs := fun p q c => by rw [(hcan p q c).2, intL_pos c.1, TL.numL_val]
            generalize PySem.NumText.digitsVal b = v at hv hvb hvq
            refine iteF ⟨_, rfl, SX.S b, _, rfl, hv, by rw [SX.S_len]; omega, rfl, _, rfl, ?_⟩
            rw [dec_int]
            by_cases hv0 : v = 0
            · rw [show (((v : Nat) : Int) == 0) = true from by rw [hv0]; rfl]
              refine iteT ⟨_, rfl, fun d hd => kE (fun p q c => ?_) _ d s1 hd⟩
              have := hvq p q c
              have := c.1
              omega
            · rw [show (((v : Nat) : Int) == 0) = false from beq_eq_false_iff_ne.mpr (by omega)]
              have hvp : 0 < ((v : Nat) : Int) := by omega
              refine iteF ⟨_, rfl, SX.S a, m, rfl, hm, by rw [SX.S_len]; omega, _, rfl, SX.S b, _, rfl, hv, by rw [SX.S_len]; omega, fun x dx nx ndx nex => ?_⟩
              refine rd_make (by omega) (Nat.lt_trans hvb (by decide)) nx ndx nex rfl fun H2 s2 hx2 => ?_
              obtain ⟨r1, r2, r3, r4⟩ := reduced (m := m) hvp
              have RA : RatAt C H2 x (m.fdiv (cmn m v)) (((v : Nat) : Int).fdiv (cmn m v)) := ⟨dx, _, hx2, rfl2_top _ _, rfl2_bottom _ _⟩
              refine ⟨_, rfl, x, dx, _, rfl, hx2, x, _, _, rfl, RA, e100 (Nat.lt_of_le_of_lt r3 hm1), e100 (Nat.lt_of_le_of_lt r4 hvb), fun H3 s3 => ⟨_, rfl, _, rfl, rfl, _, rfl, ?_⟩⟩
              have sA : Same H H3 := (s1.trans s2).trans s3
              by_cases he : ratL (m.fdiv (cmn m v)) (((v : Nat) : Int).fdiv (cmn m v)) = t
              · rw [he, decide_eq_true rfl]
                refine iteF ⟨_, rfl, ?_⟩
                refine kQ _ _ ⟨r1, r2, he.symm, ht⟩ H3 x sA ?_ (RA.sm s3)
                cases e : H x with
                | none => rfl
                | some u => rw [s1 _ _ e] at nx; cases nx
              · rw [decide_eq_false (fun z => he (SX.S_inj (V.str.inj z)))]
                refine iteT ⟨_, rfl, fun d hd => kE (fun p q c => ?_) _ d sA hd⟩
                have h1 := (hcan p q c).1
                have h2 := hvq p q c
                have hpm : m = p := by
                  rw [h1, intL_int (intL_small (by rw [← h1]; exact hal))] at hm
                  exact (Option.some.inj hm).symm
                have hqv : ((v : Nat) : Int) = q := by
                  have := c.1
                  omega
                rw [hpm, hqv, cmn_coprime c.1 c.2.1, Int.fdiv_one, Int.fdiv_one] at he
                exact he c.2.2.1.symm
end
section
variable {X : Cx} {C : Addr} {fd : FuncData} {ps : List Str} {sp : Sp}
def tSMethS (C : Addr) (sp : Sp) (E : St → XK) (ta : TE) (t : TA) : TE := fun σ H Q => ta σ H fun x H1 => x = .ref C ∧ t σ H1 fun vs H2 => sp vs H2 Q (E σ)
theorem pe_smethS {CX : CXT} {k : Nat} {mc : Value} {p g : Addr} {E : St → XK} {o e : Expr} {es : List Expr} {m : Str} {pos apos : Pos} {ta : TE} {t : TA} {pl : Sem Bool} (he : PE X o ta) (r : ClX.CRead X.K C mc) (c : SMet X.K C mc m p g) (F : FnOk X.prog X.w X.K X.mg X.base CX k g fd ps sp) (hb : Binds X.K fd ps []) (hr : Room k X.A) (hx : ∀ σ, PassesAt CX X σ (E σ)) (ha : PA X (e :: es) t)
    (hst : starEach (e :: es) X.env = (false, eval e X.env) :: starEach es X.env := by rfl) (hpl : (backTo pos (starEach es X.env)).any (·.1) = false := by rfl)
    (ht : eval (.Call (.Attribute o m apos) (e :: es) [] pos) X.env = (do
      let ov ← eval o X.env
      standAt apos.atName
      let (f, first) ← holding [ov] (getMethod ov m pl)
      callWith pos f first (backTo pos (starEach (e :: es) X.env)) (backToKw pos (keywordEach [] X.env))) := by rfl) :
    PE X (.Call (.Attribute o m apos) (e :: es) [] pos) (tSMethS C sp E ta t) := by
  refine ⟨fun pins s σ H Q I h => ?_⟩
  refine PySem.W.methodCall_KW (pl := pl) (thn (he.run pins s σ H _ I h) fun u s1 ⟨x, H1, I1, rx, ex, q⟩ => ?_) ht
  subst ex
  obtain rfl : u = Value.ref C := rx
  obtain ⟨rest, hp⟩ := c.rc
  refine PySem.W.method_cls I1.kIn r.ga (PySem.W.cls_bind I1.kIn r.rd c.at_ (wpAny_call (PySem.W.sm_get (s := { s1 with toks := s1.toks + 1 }) I1.kIn hp (PySem.W.handed_on rfl ?_))))
  have I2 := I1.tok (s1.toks + 1)
  refine PySem.W.callWith_K (first := []) (h₀ := X.base) I.ok.mod.kin c.kp (thn (ha.run pos pins _ σ H1 _ I2 q) fun us s2 ⟨vs, H2, I3, rv, q2⟩ => ⟨I3.kIn, ?_⟩) hst hpl
  exact run_fnS F hr hb (hx σ) I3 rv q2
end
/-- what is asked of the text around InvalidNumber, caught -/
structure TxN (K : PySem.W.Frag) (mg : Str → Option Value) (CI : Addr) : Prop where
  te : PySem.W.exmOne K (.ref CI) (.ref CI) = some true
  ex : ExcC K CI
  xf : XfC K CI
  hno : PySem.W.findIn K (.ref CI) "value" = some none
def spRefused : Sp := fun vs H Q _ => ∃ t : List Nat, vs = [.str (SX.S t)] ∧ t.length ≤ 1000 ∧ (∀ p q, ¬ Canon t p q) ∧ ∀ H', Same H H' → Q (.bl true) H'
section
variable {P : Program} {w : World} {K : PySem.W.Frag} {mg : Str → Option Value} {base : Heap} {C CI fE fW pR fR : Addr} {mc : Value}
abbrev sRefused : Stmt := top 20
theorem scRefused : FnScope ["_law_text", "e"] ["_law_text"] (defScope sRefused) := ⟨rfl, rfl, rfl, by decide +kernel, rfl, by decide +kernel, by decide +kernel⟩
def u_suite (CI : Addr) : Addr → Value → Option Addr → TS := fun a cls d => tRet (tOp rEq (tXf a cls d CI "value" (tVar 1)) (tVar 0))
theorem ok_refused {f : Addr} {fd fdR : FuncData} (F : Fun K "_law_refused" "_law_refused" sRefused f fd) (T : TxR K mg C CI fE fW) (TN : TxN K mg CI) (cr : ClX.CRead K C mc) (sm : SMet K C mc "read" pR fR)
    (GR : FnOk P w K mg base (L2.CX P w) 6 fR fdR ["text"] (spRead C CI)) (bR : Binds K fdR ["text"] []) : FnOk P w K mg base CX0 7 f fd ["_law_text"] spRefused := by
  refine F.ok scRefused (fun vs H Q E h => ?_) (fun cdv A outer s H vs Q E hr h => ?_)
  · obtain ⟨t, rfl, _⟩ := h
    rfl
  · obtain ⟨t, rfl, hl, hno, k⟩ := h
    refine ⟨_, pss_cons (ps_try_as (i := 1) (tb := fun W => tDrop (tSMethS C (spRead C CI) (WE W) (tC (.ref C)) (tCons (tVar 0) tNil))) (ts := u_suite CI) (Wout := fun _ _ _ _ => False) rfl rfl scRefused.nd rfl rfl ⟨rfl, by decide, Or.inl T.err.g⟩ takes0
          (fun W pn xe tk _ => pss_one (ps_expr (by exact (pe_smethS (pe_glob (v := .ref C) (by rfl) T.mgC rfl) cr sm GR bR hr (fun σ => passAt tk σ) (by exact (pa_cons (pv 0) pa_nil))))))
          (fun a oe cls d pn hz hf => pss_one (by exact (ps_ret (pe_cmpR op_eq (pe_xf TN.xf TN.hno hz hf (pv 1)) (pv 0) (nomark _)))))
        ) (pss_one (ps_ret pe_bl)), ?_⟩
    refine ⟨rfl, _, rfl, t, rfl, hl, fun p q c => absurd c (hno p q), fun _ H' d s1 hd => ?_⟩
    refine ⟨true, TN.te, fun _ a ha => ?_, fun q => Bool.noConfusion q⟩
    refine ⟨_, rfl, rfl, rfl, d, _, .str (SX.S t), rfl, upd_same, by simp [List.lookup], _, rfl, rfl, ?_⟩
    rw [decide_eq_true rfl]
    exact k _ (s1.trans (same_upd hd))
end
/-! ### near misses are no canonical texts -/
theorem intL_inj {a b : Int} (h : intL a = intL b) : a = b := by
  unfold intL at h
  split at h <;> split at h
  · have := TL.numL_inj (List.cons.inj h).2
    omega
  · have hd := TL.numL_digits b.natAbs 45 (by rw [← h]; exact List.mem_cons_self)
    omega
  · have hd := TL.numL_digits a.natAbs 45 (by rw [h]; exact List.mem_cons_self)
    omega
  · have := TL.numL_inj h
    omega
theorem intL_ne (n : Int) : intL n ≠ [] := by
  unfold intL
  split
  · exact fun h => by cases h
  · exact TL.numL_ne _
theorem intL_signs (n : Int) : ∀ c ∈ intL n, c = 45 ∨ (48 ≤ c ∧ c ≤ 57) := by
  unfold intL
  split
  · intro c hc
    rcases List.mem_cons.mp hc with e | hc
    · exact .inl e
    · exact .inr (TL.numL_digits _ c hc)
  · exact fun c hc => .inr (TL.numL_digits _ c hc)
theorem canon_signs {t : List Nat} {a b : Int} (c : Canon t a b) : ∀ x ∈ t, x = 45 ∨ x = 47 ∨ (48 ≤ x ∧ x ≤ 57) := by
  intro x hx
  rw [c.2.2.1] at hx
  unfold ratL at hx
  split at hx
  · exact (intL_signs a x hx).imp id .inr
  · rcases List.mem_append.mp hx with h | h
    · exact (intL_signs a x h).imp id .inr
    · rcases List.mem_cons.mp h with h | h
      · exact .inr (.inl h)
      · exact (intL_signs b x h).imp id .inr
/-- without a slash: a number's text -/
theorem canon_none {t : List Nat} {a b : Int} (c : Canon t a b) (h : 47 ∉ t) : t = intL a := by
  have e := c.2.2.1
  unfold ratL at e
  split at e
  · exact e
  · exact absurd (by rw [e]; exact List.mem_append_right _ List.mem_cons_self) h
/-- with one: both parts -/
theorem canon_cut {p q : List Nat} {a b : Int} (c : Canon (p ++ 47 :: q) a b) (h : 47 ∉ p) : p = intL a ∧ q = intL b ∧ b ≠ 1 := by
  have e := c.2.2.1
  have hpar : TL.par [47] [] (p ++ 47 :: q) = some (p, q) := SX.par_head (c := 47) (sep := []) q h
  rw [e] at hpar
  rcases canon (p := a) c.1 with ⟨h2, _⟩ | ⟨h2, h3⟩
  · rw [hpar] at h2
    cases h2
  · rw [hpar] at h2
    have h4 := Option.some.inj h2
    exact ⟨congrArg Prod.fst h4, congrArg Prod.snd h4, h3⟩
theorem no_sign {t : List Nat} {x : Nat} (hx : x ∈ t) (h : ¬ (x = 45 ∨ x = 47 ∨ (48 ≤ x ∧ x ≤ 57))) (a b : Int) : ¬ Canon t a b := fun c => h (canon_signs c x hx)
theorem intL_minus {n : Int} {r : List Nat} (h : intL n = 45 :: r) : n < 0 ∧ r = TL.numL n.natAbs := by
  unfold intL at h
  split at h
  · rename_i hn
    exact ⟨hn, (List.cons.inj h).2.symm⟩
  · have hd := TL.numL_digits n.natAbs 45 (by rw [h]; exact List.mem_cons_self)
    omega
theorem intL_zero {n : Int} {r : List Nat} (h : intL n = 48 :: r) : r = [] := by
  unfold intL at h
  split at h
  · cases h
  · by_cases h0 : n.natAbs = 0
    · rw [h0, TL.numL_lt (by decide)] at h
      exact (List.cons.inj h).2.symm
    · obtain ⟨c, r', e, hc⟩ := numL_head (n := n.natAbs) (by omega)
      rw [e] at h
      have := (List.cons.inj h).1
      omega
theorem intL_pos_minus {n : Int} (hn : 0 < n) {r : List Nat} : intL n ≠ 45 :: r := fun h => by
  have := (intL_minus h).1
  omega
/-- the 22 near misses of the text of p/q -/
def missL (p q : Int) : List (List Nat) :=
  [[], [45], [47], intL p ++ [47], 47 :: intL q, 43 :: ratL p q, 48 :: ratL p q, ratL p q ++ [32], 32 :: ratL p q, ratL p q ++ [47, 49],
    intL p ++ [47, 49], intL (2 * p) ++ 47 :: intL (2 * q), intL p ++ 47 :: 45 :: intL q, [45, 48], [51, 47, 48], [45, 45, 49],
    [49, 47, 50, 47, 51], [120], ratL p q ++ [10], 45 :: 47 :: intL q, [48, 47, 53], [49, 46, 53]]
theorem noM {l : List Nat} (h : ∀ a b, ¬ Canon l a b) {r : List (List Nat)} (hr : ∀ t ∈ r, ∀ a b, ¬ Canon t a b) : ∀ t ∈ l :: r, ∀ a b, ¬ Canon t a b := fun t ht => by
  rcases List.mem_cons.mp ht with e | ht
  · rw [e]; exact h
  · exact hr t ht
theorem miss_no {p q : Int} (hq : 0 < q) : ∀ t ∈ missL p q, ∀ a b, ¬ Canon t a b := by
  have f45 : (47 : Nat) ∉ [45] := by decide
  have bare : ∀ (a : Int) (r : List Nat), intL a = 45 :: r → r ≠ [] := fun a r h => by rw [(intL_minus h).2]; exact TL.numL_ne _
  have last : ∀ {x : Nat} {l : List Nat}, x ∈ l ++ [x] := List.mem_append_right _ List.mem_cons_self
  unfold missL
  refine noM (fun a b c => intL_ne a (canon_none c (by decide)).symm) ?_
  refine noM (fun a b c => bare a [] (canon_none c (by decide)).symm rfl) ?_
  refine noM (fun a b c => intL_ne a (canon_cut (p := []) (q := []) c (by decide)).1.symm) ?_
  refine noM (fun a b c => intL_ne b (canon_cut (p := intL p) (q := []) c (intL_free p)).2.1.symm) ?_
  refine noM (fun a b c => intL_ne a (canon_cut (p := []) (q := intL q) c (by decide)).1.symm) ?_
  refine noM (fun a b => no_sign (x := 43) List.mem_cons_self (by decide) a b) ?_
  refine noM (fun a b c => ?_) ?_
  · unfold ratL at c
    split at c
    · have h := canon_none c (by
        intro h
        rcases List.mem_cons.mp h with h | h
        · cases h
        · exact intL_free p h)
      exact intL_ne p (intL_zero h.symm)
    · have h := canon_cut (p := 48 :: intL p) (q := intL q) c (by
        intro h
        rcases List.mem_cons.mp h with h | h
        · cases h
        · exact intL_free p h)
      exact intL_ne p (intL_zero h.1.symm)
  refine noM (fun a b => no_sign (x := 32) last (by decide) a b) ?_
  refine noM (fun a b => no_sign (x := 32) List.mem_cons_self (by decide) a b) ?_
  have one : intL 1 = [49] := by decide +kernel
  refine noM (fun a b c => ?_) ?_
  · unfold ratL at c
    split at c
    · have h := canon_cut (p := intL p) (q := [49]) c (intL_free p)
      exact h.2.2 (intL_inj (h.2.1.symm.trans one.symm))
    · have e : intL p ++ 47 :: intL q ++ [47, 49] = intL p ++ 47 :: (intL q ++ [47, 49]) := by rw [List.append_assoc]; rfl
      rw [e] at c
      have h := canon_cut (p := intL p) (q := intL q ++ [47, 49]) c (intL_free p)
      exact intL_free b (by rw [← h.2.1]; exact List.mem_append_right _ List.mem_cons_self)
  refine noM (fun a b c => ?_) ?_
  · have h := canon_cut (p := intL p) (q := [49]) c (intL_free p)
    exact h.2.2 (intL_inj (h.2.1.symm.trans one.symm))
  refine noM (fun a b c => ?_) ?_
  · have h := canon_cut (p := intL (2 * p)) (q := intL (2 * q)) c (intL_free _)
    have ha := intL_inj h.1
    have hb := intL_inj h.2.1
    have hg := c.2.1
    rw [← ha, ← hb, Int.natAbs_mul, Int.natAbs_mul, Nat.gcd_mul_left] at hg
    have : (2 : Int).natAbs = 2 := rfl
    rw [this] at hg
    omega
  refine noM (fun a b c => ?_) ?_
  · have h := canon_cut (p := intL p) (q := 45 :: intL q) c (intL_free _)
    exact intL_pos_minus c.1 h.2.1.symm
  refine noM (fun a b c => ?_) ?_
  · have h := intL_minus (canon_none c (by decide)).symm
    have := congrArg PySem.NumText.digitsVal h.2
    rw [TL.numL_val] at this
    have e : PySem.NumText.digitsVal [48] = 0 := rfl
    omega
  refine noM (fun a b c => ?_) ?_
  · have h := canon_cut (p := [51]) (q := [48]) c (by decide)
    have hb := intL_inj (h.2.1.symm.trans (by decide +kernel : [48] = intL 0))
    have := c.1
    omega
  refine noM (fun a b c => ?_) ?_
  · have h := intL_minus (canon_none c (by decide)).symm
    have := TL.numL_digits a.natAbs 45 (by rw [← h.2]; exact List.mem_cons_self)
    omega
  refine noM (fun a b c => ?_) ?_
  · have h := canon_cut (p := [49]) (q := [50, 47, 51]) c (by decide)
    exact intL_free b (by rw [← h.2.1]; decide)
  refine noM (fun a b => no_sign (x := 120) List.mem_cons_self (by decide) a b) ?_
  refine noM (fun a b => no_sign (x := 10) last (by decide) a b) ?_
  refine noM (fun a b c => bare a [] (canon_cut (p := [45]) (q := intL q) c f45).1.symm rfl) ?_
  refine noM (fun a b c => ?_) ?_
  · have h := canon_cut (p := [48]) (q := [53]) c (by decide)
    have ha := intL_inj (h.1.symm.trans (by decide +kernel : [48] = intL 0))
    have hb := intL_inj (h.2.1.symm.trans (by decide +kernel : [53] = intL 5))
    have hg := c.2.1
    rw [ha, hb] at hg
    cases hg
  refine noM (fun a b => no_sign (x := 46) (by decide) (by decide) a b) ?_
  intro t ht
  cases ht
theorem int_text' (n : Int) : Str.ofString (toString n) = SX.S (intL n) := by
  cases n with
  | ofNat m =>
    have e : intL (Int.ofNat m) = TL.numL m := by
      unfold intL
      rw [if_neg (by have := Int.natCast_nonneg m; show ¬ ((m : Nat) : Int) < 0; omega)]
      rfl
    rw [e]
    exact SX.num_S m
  | negSucc m =>
    have e : intL (Int.negSucc m) = 45 :: TL.numL (m + 1) := by
      unfold intL
      rw [if_pos (Int.negSucc_lt_zero m)]
      rfl
    rw [e]
    refine TL.ext_tl ?_
    show (Str.ofString (toString (Int.negSucc m))).cps.toList = 45 :: TL.numL (m + 1)
    rw [PyProof.Rows.signs_ofString]
    show ("-" ++ Nat.repr (m + 1)).toList.map Char.toNat = _
    rw [String.toList_append, List.map_append, Nat.toList_repr]
    rfl
def spMiss (C : Addr) : Sp := fun vs H Q _ => ∃ (c p q : Int) (la : Addr), vs = [.int c, .ref la, .str (SX.S (ratL p q))] ∧ 0 ≤ c ∧ c < 22 ∧ H la = some (.tup [.int p, .int q]) ∧ 0 < q ∧ p.natAbs < 10 ^ 100 ∧ q.natAbs < 10 ^ 100 ∧
  ∀ t H', t ∈ missL p q → t.length ≤ 1000 → Same H H' → Q (.str (SX.S t)) H'
theorem miss_len {p q : Int} (hp : p.natAbs < 10 ^ 100) (hq : q.natAbs < 10 ^ 100) : ∀ t ∈ missL p q, t.length ≤ 1000 := by
  have h1 := intL_len (Nat.lt_trans hp (by decide : (10 : Nat) ^ 100 < 10 ^ 128))
  have h2 := intL_len (Nat.lt_trans hq (by decide : (10 : Nat) ^ 100 < 10 ^ 128))
  have h3 : (intL (2 * p)).length ≤ 129 := intL_len (by rw [Int.natAbs_mul]; have : (2 : Int).natAbs = 2 := rfl; rw [this]; omega)
  have h4 : (intL (2 * q)).length ≤ 129 := intL_len (by rw [Int.natAbs_mul]; have : (2 : Int).natAbs = 2 := rfl; rw [this]; omega)
  have hr : (ratL p q).length ≤ 260 := by
    unfold ratL
    split
    · omega
    · rw [List.length_append, List.length_cons]; omega
  intro t ht
  unfold missL at ht
  simp only [List.mem_cons, List.not_mem_nil, or_false] at ht
  rcases ht with e | e | e | e | e | e | e | e | e | e | e | e | e | e | e | e | e | e | e | e | e | e <;> rw [e] <;> simp only [List.length_append, List.length_cons, List.length_nil] <;> omega
/-! ### texts: sum, repetition, an int's text -/
section
variable {X : Cx}
theorem op_addS : OpR X (binaryOp .Add) (fun x y H Q => ∃ l m : List Nat, x = .str (SX.S l) ∧ y = .str (SX.S m) ∧ l.length + m.length ≤ 100000 ∧ Q (.str (SX.S (l ++ m))) H) := by
  intro pins s σ H x y v u Q I rx ry h
  obtain ⟨l, m, rfl, rfl, hz, q⟩ := h
  refine op_add_str pins s σ H _ _ v u Q I rx ry ⟨_, _, rfl, rfl, ?_, ?_⟩
  · have hs : sizeLine = 16777216 := sizeLine_eq
    rw [SX.S_len, SX.S_len]
    omega
  · rw [SX.S_cat]
    exact q
theorem call_strI : CallR X (.type "str") (fun xs H Q => ∃ i, xs = [.int i] ∧ i.natAbs < 10 ^ 128 ∧ Q (.str (SX.S (intL i))) H) := by
  intro pins s σ H xs us Q I r h
  obtain ⟨i, rfl, hz, q⟩ := h
  refine call_str_int pins s σ H _ us Q I r ⟨i, rfl, log_small hz, ?_⟩
  rw [show ((toString i : String) : Str) = SX.S (intL i) from int_text' i]
  exact q
theorem foldl_S (l : List Nat) : ∀ (m : Nat) (acc : List Nat), (List.replicate m l.toArray).foldl (· ++ ·) acc.toArray = (acc ++ (List.replicate m l).flatten).toArray
  | 0, acc => by simp
  | m + 1, acc => by
    rw [List.replicate_succ, List.foldl_cons, List.append_toArray, foldl_S l m, List.replicate_succ, List.flatten_cons, List.append_assoc]
theorem op_mulS : OpR X (binaryOp .Mult) (fun x y H Q => ∃ (l : List Nat) (k : Int), x = .str (SX.S l) ∧ y = .int k ∧ 0 ≤ k ∧ k ≤ 1000 ∧ l.length ≤ 1000 ∧ Q (.str (SX.S (List.replicate k.toNat l).flatten)) H) := by
  intro pins s σ H x y v u Q I rx ry h
  obtain ⟨l, k, rfl, rfl, h0, h1, hl, q⟩ := h
  obtain ⟨t, rfl⟩ := rx
  obtain ⟨t', rfl⟩ := ry
  have hlen : (SX.S l).length = l.length := SX.S_len l
  have hm : (SX.S l).length * k.toNat ≤ 1000000 := by
    rw [hlen]
    exact Nat.mul_le_mul hl (show k.toNat ≤ 1000 by omega)
  refine PySem.P.mul_str (by rw [decide_eq_false (by omega), decide_eq_false (by omega)]; rfl) (fun hk _ => ?_) (fun _ _ => ?_) ?_
  · rw [hlen]
    have : (1000 : Int) ≤ (2 ^ 63 - 1) / k := by
      refine (Int.le_ediv_iff_mul_le (by omega)).mpr ?_
      omega
    omega
  · have hs : sizeLine = 16777216 := sizeLine_eq
    exact decide_eq_false (by omega)
  · by_cases hk : k < 1
    · rw [if_pos hk]
      have : k = 0 := by omega
      subst this
      exact ⟨by decide, .str Str.empty, H, I.tok _, ⟨_, rfl⟩, q⟩
    · rw [if_neg hk]
      by_cases hc : (k == 1 || (SX.S l).length == 0) = true
      · rw [if_pos hc]
        refine ⟨.str (SX.S l), H, I, ⟨_, rfl⟩, ?_⟩
        have e : (List.replicate k.toNat l).flatten = l := by
          rcases Bool.or_eq_true _ _ ▸ hc with h | h
          · have : k = 1 := beq_iff_eq.mp h
            subst this
            exact List.append_nil l
          · have h2 := beq_iff_eq.mp h
            rw [hlen] at h2
            have : l = [] := List.eq_nil_of_length_eq_zero h2
            subst this
            exact List.flatten_replicate_nil
        rw [e] at q
        exact q
      · rw [if_neg hc]
        have e : (⟨(List.replicate k.toNat (SX.S l).cps).foldl (· ++ ·) #[]⟩ : Str) = SX.S (List.replicate k.toNat l).flatten := by
          have := foldl_S l k.toNat []
          rw [List.nil_append] at this
          exact congrArg Str.mk this
        rw [e]
        refine ⟨?_, .str _, H, I.tok _, ⟨_, rfl⟩, q⟩
        have hs : sizeLine = 16777216 := sizeLine_eq
        show (SX.S _).length ≤ _
        rw [SX.S_len, PyProof.Rows.lm_len_rep_flat]
        rw [hlen] at hm
        have : k.toNat * l.length = l.length * k.toNat := Nat.mul_comm _ _
        omega
end
/-! ### _law_miss -/
section
variable {P : Program} {w : World} {K : PySem.W.Frag} {mg : Str → Option Value} {base : Heap}
abbrev sMiss : Stmt := top 21
theorem scMiss : FnScope ["_law_choice", "_law_a", "_law_text", "_law_top", "_law_bottom", "_law_rows"] ["_law_choice", "_law_a", "_law_text"] (defScope sMiss) := ⟨rfl, rfl, rfl, by decide +kernel, rfl, by decide +kernel, by decide +kernel⟩
theorem ok_miss {C : Addr} {f : Addr} {fd : FuncData} (F : Fun K "_law_miss" "_law_miss" sMiss f fd) (mS : mg "str" = none) : FnOk P w K mg base CX0 1 f fd ["_law_choice", "_law_a", "_law_text"] (spMiss C) := by
  refine F.ok scMiss (fun vs H Q E h => ?_) (fun cdv A outer s H vs Q E hr h => ?_)
  · obtain ⟨c, p, q, la, rfl, _⟩ := h
    rfl
  · obtain ⟨c, p, q, la, rfl, c0, c1, hla, hq, hpw, hqw, k⟩ := h
    have nd := scMiss.nd
    have ps : ∀ {X : Cx} {pos apos : Pos} {kk : Nat}, True := trivial
    refine ⟨_, pss_cons (ps_set (i := 3) nd rfl (Or.inl rfl) (pe_callTy call_strI (by rfl) mS (by decide +kernel) (pa_cons (pe_ix ix_tup (pv 1) pe_int (fun _ _ => rfl)) pa_nil)))
      (pss_cons (ps_set (i := 4) nd rfl (Or.inl rfl) (pe_callTy call_strI (by rfl) mS (by decide +kernel) (pa_cons (pe_ix ix_tup (pv 1) pe_int (fun _ _ => rfl)) pa_nil)))
      (pss_cons (ps_set (i := 5) nd rfl (Or.inl rfl) (pe_lst (pa_cons pe_str (pa_cons pe_str (pa_cons pe_str (pa_cons (pe_op op_addS (pv 3) pe_str) (pa_cons (pe_op op_addS pe_str (pv 4)) (pa_cons (pe_op op_addS pe_str (pv 2)) (pa_cons (pe_op op_addS pe_str (pv 2)) (pa_cons (pe_op op_addS (pv 2) pe_str) (pa_cons (pe_op op_addS pe_str (pv 2)) (pa_cons (pe_op op_addS (pv 2) pe_str) pa_nil))))))))))))
      (pss_cons (ps_set (i := 5) nd rfl (Or.inl rfl) (pe_op op_cat (pv 5) (pe_lst (pa_cons (pe_op op_addS (pv 3) pe_str) (pa_cons (pe_op op_addS (pe_op op_addS (pe_callTy call_strI (by rfl) mS (by decide +kernel) (pa_cons (pe_op op_mul pe_int (pe_ix ix_tup (pv 1) pe_int (fun _ _ => rfl))) pa_nil)) pe_str) (pe_callTy call_strI (by rfl) mS (by decide +kernel) (pa_cons (pe_op op_mul pe_int (pe_ix ix_tup (pv 1) pe_int (fun _ _ => rfl))) pa_nil)))
          (pa_cons (pe_op op_addS (pe_op op_addS (pv 3) pe_str) (pv 4)) (pa_cons pe_str (pa_cons pe_str (pa_cons pe_str pa_nil)))))))))
      (pss_cons (ps_set (i := 5) nd rfl (Or.inl rfl) (pe_op op_cat (pv 5) (pe_lst (pa_cons pe_str (pa_cons pe_str (pa_cons (pe_op op_addS (pv 2) pe_str) (pa_cons (pe_op op_addS (pe_op op_addS pe_str pe_str) (pv 4)) (pa_cons pe_str (pa_cons pe_str pa_nil)))))))))
      (pss_one (ps_ret (pe_ix ix_list (pv 5) (pv 0) (fun _ _ => rfl)))))))), ?_⟩
    have e100 : ∀ {k : Nat}, k < 10 ^ 100 → k < 10 ^ 128 := fun h => Nat.lt_trans h (by decide)
    have h1 := intL_len (e100 hpw)
    have h2 := intL_len (e100 hqw)
    have hp2 : (2 * p).natAbs < 10 ^ 128 := by rw [Int.natAbs_mul]; have : (2 : Int).natAbs = 2 := rfl; rw [this]; omega
    have hq2 : (2 * q).natAbs < 10 ^ 128 := by rw [Int.natAbs_mul]; have : (2 : Int).natAbs = 2 := rfl; rw [this]; omega
    have h3 := intL_len hp2
    have h4 := intL_len hq2
    have hrl : (ratL p q).length ≤ 260 := by
      unfold ratL
      split
      · omega
      · rw [List.length_append, List.length_cons]; omega
    have ct : SqT K H la [.int p, .int q] := SqT.of hla
    have ln : ∀ {l m : List Nat} {a b : Nat}, l.length ≤ a → m.length ≤ b → a + b ≤ 100000 → l.length + m.length ≤ 100000 := fun h1 h2 h3 => by omega
    refine ⟨_, rfl, la, _, _, _, rfl, rfl, ct, rfl, p, rfl, e100 hpw, ?_⟩
    refine ⟨_, rfl, la, _, _, _, rfl, rfl, ct, rfl, q, rfl, e100 hqw, ?_⟩
    -- the first ten
    refine ⟨_, rfl, intL p, [47], rfl, rfl, ln h1 (Nat.le_refl 1) (by decide), ?_⟩
    refine ⟨_, rfl, [47], intL q, rfl, rfl, ln (Nat.le_refl 1) h2 (by decide), ?_⟩
    refine ⟨_, rfl, [43], ratL p q, rfl, rfl, ln (Nat.le_refl 1) hrl (by decide), ?_⟩
    refine ⟨_, rfl, [48], ratL p q, rfl, rfl, ln (Nat.le_refl 1) hrl (by decide), ?_⟩
    refine ⟨_, rfl, ratL p q, [32], rfl, rfl, ln hrl (Nat.le_refl 1) (by decide), ?_⟩
    refine ⟨_, rfl, [32], ratL p q, rfl, rfl, ln (Nat.le_refl 1) hrl (by decide), ?_⟩
    refine ⟨_, rfl, ratL p q, [47, 49], rfl, rfl, ln hrl (Nat.le_refl 2) (by decide), by show 10 ≤ sizeLine; decide, fun l1 n1 => ?_⟩
    have ct1 : ∀ o, SqT K (upd H l1 o) la [.int p, .int q] := fun o => SqT.of (same_upd n1 _ _ hla)
    -- six more
    refine ⟨_, rfl, _, rfl, intL p, [47, 49], rfl, rfl, ln h1 (Nat.le_refl 2) (by decide), ?_⟩
    refine ⟨_, rfl, la, _, _, _, rfl, rfl, ct1 _, rfl, 2, p, rfl, rfl, .inl ⟨by decide, by decide⟩, _, rfl, hp2, intL (2 * p), [47], rfl, rfl, ln h3 (Nat.le_refl 1) (by decide), ?_⟩
    have le1 : (intL (2 * p) ++ [47]).length ≤ 130 := by rw [List.length_append]; show _ + 1 ≤ _; omega
    refine ⟨_, rfl, la, _, _, _, rfl, rfl, ct1 _, rfl, 2, q, rfl, rfl, .inl ⟨by decide, by decide⟩, _, rfl, hq2, intL (2 * p) ++ [47], intL (2 * q), rfl, rfl, ln le1 h4 (by decide), ?_⟩
    have le2 : (intL p ++ [47, 45]).length ≤ 131 := by rw [List.length_append]; show _ + 2 ≤ _; omega
    refine ⟨_, rfl, intL p, [47, 45], rfl, rfl, ln h1 (Nat.le_refl 2) (by decide), _, rfl, intL p ++ [47, 45], intL q, rfl, rfl, ln le2 h2 (by decide), by show 6 ≤ sizeLine; decide, fun l2 n2 => ?_⟩
    have hn12 : l2 ≠ l1 := fun z => by rw [z, upd_same] at n2; cases n2
    refine ⟨l1, l2, _, _, rfl, rfl, (same_upd n2) _ _ upd_same, upd_same, by show 16 ≤ sizeLine; decide, fun l3 n3 => ?_⟩
    -- and six
    refine ⟨_, rfl, _, rfl, ratL p q, [10], rfl, rfl, ln hrl (Nat.le_refl 1) (by decide), ?_⟩
    refine ⟨[45], [47], rfl, rfl, by decide, _, rfl, [45, 47], intL q, rfl, rfl, ln (Nat.le_refl 2) h2 (by decide), by show 6 ≤ sizeLine; decide, fun l4 n4 => ?_⟩
    refine ⟨l3, l4, _, _, rfl, rfl, (same_upd n4) _ _ upd_same, upd_same, by show 22 ≤ sizeLine; decide, fun l5 n5 => ?_⟩
    have items : ([V.str "", .str "-", .str "/", .str (SX.S (intL p ++ [47])), .str (SX.S ([47] ++ intL q)), .str (SX.S ([43] ++ ratL p q)), .str (SX.S ([48] ++ ratL p q)), .str (SX.S (ratL p q ++ [32])), .str (SX.S ([32] ++ ratL p q)), .str (SX.S (ratL p q ++ [47, 49]))]
        ++ [.str (SX.S (intL p ++ [47, 49])), .str (SX.S ((intL (2 * p) ++ [47]) ++ intL (2 * q))), .str (SX.S ((intL p ++ [47, 45]) ++ intL q)), .str "-0", .str "3/0", .str "--1"])
        ++ [.str "1/2/3", .str "x", .str (SX.S (ratL p q ++ [10])), .str (SX.S ([45, 47] ++ intL q)), .str "0/5", .str "1.5"] = (missL p q).map fun t => V.str (SX.S t) := by
      rw [List.append_assoc (intL (2 * p)), List.append_assoc (intL p)]
      rfl
    obtain ⟨v, hv, vin⟩ := atI_in (xs := (missL p q).map fun t => V.str (SX.S t)) c0 (by rw [List.length_map]; exact c1)
    rw [← items] at hv
    obtain ⟨t, ht, rfl⟩ := List.mem_map.mp vin
    refine ⟨_, rfl, _, rfl, l5, _, c, .str (SX.S t), rfl, rfl, SqL.of upd_same, hv, ?_⟩
    exact k t _ ht (miss_len hpw hqw t ht) ((((same_upd n1).trans (same_upd n2)).trans (same_upd n3)).trans ((same_upd n4).trans (same_upd n5)))
end
/-! ### texts of digits -/
section
open PySem.NumText
theorem digitsVal_pos {c : Nat} {r : List Nat} (h : AllDigits (c :: r)) (hc : c ≠ 48) : 1 ≤ digitsVal (c :: r) := by
  have e : digitsVal (c :: r) = digitsVal ([c] ++ r) := rfl
  have h1 : digitsVal [c] = c - 48 := by show 0 * 10 + (c - 48) = _; omega
  have hc2 := h.head
  rw [e, digitsVal_app, h1]
  have hp : 1 ≤ 10 ^ r.length := Nat.pow_pos (by decide)
  have hq : 1 * 1 ≤ (c - 48) * 10 ^ r.length := Nat.mul_le_mul (by omega) hp
  omega
theorem numL_back : ∀ (n : Nat) (l : List Nat), l.length = n → AllDigits l → l ≠ [] → (∀ c r, l = c :: r → c ≠ 48) → TL.numL (digitsVal l) = l
  | n, l, hn, hd, hne, h0 => by
    have hl : l = l.dropLast ++ [l.getLast hne] := (List.dropLast_concat_getLast hne).symm
    have hc := hd _ (List.getLast_mem hne)
    generalize l.getLast hne = c at hl hc
    have hlen : l.dropLast.length = l.length - 1 := List.length_dropLast
    generalize l.dropLast = t at hl hlen
    have h1 : digitsVal [c] = c - 48 := by show 0 * 10 + (c - 48) = _; omega
    have ev : digitsVal l = digitsVal t * 10 + (c - 48) := by
      rw [hl, digitsVal_app, h1]
      rfl
    cases t with
    | nil =>
      have e0 : digitsVal [] = 0 := rfl
      rw [e0] at ev
      rw [ev, TL.numL_lt (by omega), hl]
      show [48 + (0 * 10 + (c - 48))] = [c]
      congr 1
      omega
    | cons d t' =>
      have hdt : AllDigits (d :: t') := fun x hx => hd x (by rw [hl]; exact List.mem_append_left _ hx)
      have hd0 : d ≠ 48 := h0 d (t' ++ [c]) (by rw [hl]; rfl)
      have hp := digitsVal_pos hdt hd0
      have ih := numL_back (n - 1) (d :: t') (by omega) hdt (by simp) (fun c' r' e => by cases e; exact hd0)
      rw [ev, TL.numL_step (by omega), show (digitsVal (d :: t') * 10 + (c - 48)) / 10 = digitsVal (d :: t') by omega, ih, hl, show 48 + (digitsVal (d :: t') * 10 + (c - 48)) % 10 = c by omega]
termination_by n l hn hd hne h0 => n
decreasing_by
  have : 0 < l.length := List.length_pos_iff.mpr hne
  omega
theorem sgn_text {s l : List Nat} (hs : s = [] ∨ s = [45]) (hd : AllDigits l) (hne : l ≠ []) (h0 : ∀ c r, l = c :: r → c ≠ 48) : ∃ n : Int, s ++ l = intL n ∧ n.natAbs = digitsVal l := by
  have hb := numL_back _ l rfl hd hne h0
  rcases hs with rfl | rfl
  · refine ⟨((digitsVal l : Nat) : Int), ?_, rfl⟩
    unfold intL
    rw [if_neg (by omega)]
    show l = TL.numL (digitsVal l)
    exact hb.symm
  · have hp : 1 ≤ digitsVal l := by
      cases l with
      | nil => exact absurd rfl hne
      | cons c r => exact digitsVal_pos hd (h0 c r rfl)
    refine ⟨-((digitsVal l : Nat) : Int), ?_, by omega⟩
    unfold intL
    rw [if_pos (by omega), show (-((digitsVal l : Nat) : Int)).natAbs = digitsVal l by omega, hb]
    rfl
theorem rep_digits {c : Nat} (hc : 48 ≤ c ∧ c ≤ 57) (k : Nat) : AllDigits (List.replicate k c) := fun x hx => by
  rw [List.eq_of_mem_replicate hx]
  exact hc
theorem rep_flat (k : Nat) (c : Nat) : (List.replicate k [c]).flatten = List.replicate k c := by
  induction k with
  | zero => rfl
  | succ k ih => rw [List.replicate_succ, List.flatten_cons, ih, List.replicate_succ]; rfl
theorem zeros_val : ∀ k, digitsVal (List.replicate k 48) = 0
  | 0 => rfl
  | k + 1 => by
    have e : List.replicate (k + 1) 48 = [48] ++ List.replicate k 48 := rfl
    rw [e, digitsVal_app, zeros_val k]
    have h1 : digitsVal [48] = 0 := rfl
    rw [h1]
    omega
theorem ten_val (k : Nat) : digitsVal (49 :: List.replicate k 48) = 10 ^ k := by
  have e : 49 :: List.replicate k 48 = [49] ++ List.replicate k 48 := rfl
  rw [e, digitsVal_app, zeros_val k, List.length_replicate]
  have h1 : digitsVal [49] = 1 := rfl
  rw [h1]
  omega
theorem nines_mod {k : Nat} (hk : 0 < k) : digitsVal (List.replicate k 57) % 10 = 9 := by
  obtain ⟨j, rfl⟩ : ∃ j, k = j + 1 := ⟨k - 1, by omega⟩
  rw [List.replicate_succ', digitsVal_app]
  have h1 : digitsVal [57] = 9 := rfl
  rw [h1]
  show (_ * 10 ^ 1 + 9) % 10 = 9
  omega
theorem ten_gcd {k n : Nat} (h : n % 10 = 9) : Nat.gcd (10 ^ k) n = 1 := by
  refine Nat.Coprime.pow_left k ?_
  show Nat.gcd 10 n = 1
  rw [Nat.gcd_rec, h]
  decide
/-- the digits' sign -/
theorem digit_at : ∀ m : Nat, m < 9 → ∃ c : Nat, (("123456789" : Str)).cps[m]? = some c ∧ 49 ≤ c ∧ c ≤ 57 := by
  intro m hm
  have h : (("123456789" : Str)).cps = #[49, 50, 51, 52, 53, 54, 55, 56, 57] := by decide +kernel
  rw [h]
  match m, hm with
  | 0, _ => exact ⟨_, rfl, by decide⟩
  | 1, _ => exact ⟨_, rfl, by decide⟩
  | 2, _ => exact ⟨_, rfl, by decide⟩
  | 3, _ => exact ⟨_, rfl, by decide⟩
  | 4, _ => exact ⟨_, rfl, by decide⟩
  | 5, _ => exact ⟨_, rfl, by decide⟩
  | 6, _ => exact ⟨_, rfl, by decide⟩
  | 7, _ => exact ⟨_, rfl, by decide⟩
  | 8, _ => exact ⟨_, rfl, by decide⟩
  | m + 9, h => omega
/-- the run of digits -/
theorem run_text {s : List Nat} (hs : s = [] ∨ s = [45]) {c : Nat} (hc : 49 ≤ c ∧ c ≤ 57) {k : Nat} (hk : 0 < k) (hk2 : k ≤ 102) : ∃ n : Int, s ++ List.replicate k c = intL n ∧ n.natAbs < 10 ^ 128 := by
  obtain ⟨n, h1, h2⟩ := sgn_text hs (rep_digits ⟨by omega, hc.2⟩ k) (fun z => by have := congrArg List.length z; rw [List.length_replicate] at this; simp at this; omega) (fun x r e => by
    have : x ∈ List.replicate k c := by rw [e]; exact List.mem_cons_self
    rw [List.eq_of_mem_replicate this]
    omega)
  refine ⟨n, h1, ?_⟩
  rw [h2]
  refine Nat.lt_of_lt_of_le (digitsVal_lt (rep_digits ⟨by omega, hc.2⟩ k)) ?_
  rw [List.length_replicate]
  exact Nat.pow_le_pow_right (by decide) (by omega)
/-- the fraction of 1 and zeros over nines -/
theorem frac_text {s : List Nat} (hs : s = [] ∨ s = [45]) {z m : Nat} (hz : z ≤ 95) (hm : 0 < m) (hm2 : m ≤ 100) : ∃ p q : Int, (s ++ [49]) ++ List.replicate z 48 = intL p ∧ List.replicate m 57 = intL q ∧ p.natAbs < 10 ^ 128 ∧ q.natAbs < 10 ^ 128 ∧ 0 < q ∧ Nat.gcd p.natAbs q.natAbs = 1 ∧ q ≠ 1 := by
  have hd1 : AllDigits (49 :: List.replicate z 48) := fun x hx => by
    rcases List.mem_cons.mp hx with e | h
    · rw [e]; decide
    · exact rep_digits ⟨by decide, by decide⟩ z x h
  obtain ⟨p, h1, h2⟩ := sgn_text hs hd1 (by simp) (fun c r e => by cases e; decide)
  have hne : List.replicate m 57 ≠ [] := fun e => by have := congrArg List.length e; rw [List.length_replicate] at this; simp at this; omega
  obtain ⟨q, h3, h4⟩ := sgn_text (s := []) (.inl rfl) (rep_digits (c := 57) ⟨by decide, by decide⟩ m) hne (fun x r e => by
    have : x ∈ List.replicate m 57 := by rw [e]; exact List.mem_cons_self
    rw [List.eq_of_mem_replicate this]
    decide)
  have hmod := nines_mod hm
  rw [ten_val] at h2
  have hq0 : 0 < q := by
    rcases Int.lt_or_le q 0 with h | h
    · have hneg : intL q = 45 :: TL.numL q.natAbs := by unfold intL; rw [if_pos h]
      rw [List.nil_append, hneg] at h3
      have := List.eq_of_mem_replicate (show 45 ∈ List.replicate m 57 by rw [h3]; exact List.mem_cons_self)
      omega
    · omega
  refine ⟨p, q, by rw [← h1, List.append_assoc]; rfl, by rw [← h3]; rfl, ?_, ?_, hq0, ?_, by omega⟩
  · rw [h2]; exact Nat.pow_lt_pow_right (by decide) (by omega)
  · rw [h4]
    refine Nat.lt_of_lt_of_le (digitsVal_lt (rep_digits (c := 57) ⟨by decide, by decide⟩ m)) ?_
    rw [List.length_replicate]
    exact Nat.pow_le_pow_right (by decide) (by omega)
  · rw [h2, h4]; exact ten_gcd hmod
end
/-! ### the law -/
def spIsR (C : Addr) : Sp := fun vs H Q _ => ∃ (p q : Addr) (a b c d : Int), vs = [.ref p, .ref q] ∧ RatAt C H p a b ∧ H q = some (.tup [.int c, .int d]) ∧ Q (.bl (decide (a = c) && decide (b = d))) H
structure TxL4 (K : PySem.W.Frag) (mg : Str → Option Value) (fB fT fI fN fL fF fR fM : Addr) : Prop where
  bag : At K mg "_law_bag" fB
  take : At K mg "_law_take" fT
  is : At K mg "_law_is" fI
  int : At K mg "_law_int" fN
  low : At K mg "_law_lowest" fL
  frac : At K mg "_law_fraction" fF
  ref : At K mg "_law_refused" fR
  miss : At K mg "_law_miss" fM
section
variable {P : Program} {w : World} {K : PySem.W.Frag} {mg : Str → Option Value} {base : Heap}
theorem ok_isR {f C CI fE fW fN : Addr} {fd fdN : FuncData} (F : Fun K "_law_is" "_law_is" sIs f fd) (T : TxR K mg C CI fE fW) (IC : C8.InsC K C) (mIs : mg "isinstance" = none)
    (GN : FnOk P w K mg base CX0 1 fN fdN ["_law_actual"] (spWhole K)) (bN : Binds K fdN ["_law_actual"] []) (mN : mg "_law_int" = some (.ref fN)) (kN : PySem.W.keepIn K (.ref fN) = true) : FnOk P w K mg base CX0 2 f fd ["_law_actual", "_law_due"] (spIsR C) := by
  refine F.ok scIs (fun vs H Q E h => ?_) (fun cdv A outer s H vs Q E hr h => ?_)
  · obtain ⟨p, q, a, b, c, d, rfl, _⟩ := h
    rfl
  · obtain ⟨p, q, a, b, c, d, rfl, ⟨dx, fs, hp, ht, hb⟩, hq, k⟩ := h
    refine ⟨_, pss_cons (ps_if (PW.pt (pw_or (pt_not (pt_val (pe_callB (C8.call_isC IC) (by rfl) mIs (by decide +kernel) (pa_cons (pv 0) (pa_cons (pe_glob (v := .ref C) (by rfl) T.mgC rfl) pa_nil)))))
        (pw_or (pt_not (pt_val (pe_call GN hr (by rfl) mN kN bN .nil pass0 (pa_cons (pe_fld (pv 0) rfl) pa_nil))))
        (pw_or1 (pt_not (pt_val (pe_call GN hr (by rfl) mN kN bN .nil pass0 (pa_cons (pe_fld (pv 0) rfl) pa_nil)))))))) (pss_one (ps_ret pe_bl)) pss_nil)
      (pss_one (ps_ret (pe_and (pe_cmpR op_eq (pe_fld (pv 0) rfl) (pe_ix ix_tup (pv 1) pe_int (fun _ _ => rfl)) (nomark _)) (pe_one (pe_cmpR op_eq (pe_fld (pv 0) rfl) (pe_ix ix_tup (pv 1) pe_int (fun _ _ => rfl)) (nomark _)))))), ?_⟩
    refine ⟨_, rfl, p, dx, _, rfl, hp, true, rfl, iteF ?_⟩
    refine ⟨_, rfl, p, C, dx, _, _, rfl, hp, T.cl, T.nT, ht, _, _, _, rfl, Kd.int, _, rfl, iteF ?_⟩
    refine ⟨_, rfl, p, C, dx, _, _, rfl, hp, T.cl, T.nB, hb, _, _, _, rfl, Kd.int, _, rfl, iteF ?_⟩
    refine ⟨_, rfl, p, C, dx, _, _, rfl, hp, T.cl, T.nT, ht, _, rfl, q, _, _, _, rfl, rfl, SqT.of hq, rfl, rfl, _, rfl, ?_⟩
    rw [dec_int]
    by_cases e : a = c
    · rw [show (a == c) = true from beq_iff_eq.mpr e]
      rw [decide_eq_true e] at k
      refine iteT ⟨_, rfl, p, C, dx, _, _, rfl, hp, T.cl, T.nB, hb, _, rfl, q, _, _, _, rfl, rfl, SqT.of hq, rfl, rfl, ?_⟩
      rw [dec_int]
      exact k
    · rw [show (a == c) = false from beq_eq_false_iff_ne.mpr e]
      rw [decide_eq_false e] at k
      exact iteF k
theorem canon_inj {t : List Nat} {p q a b : Int} (h1 : Canon t p q) (h2 : Canon t a b) : p = a ∧ q = b := by
  have e1 := h1.2.2.1
  have e2 := h2.2.2.1
  rcases canon (p := p) h1.1 with ⟨x1, x2, x3⟩ | ⟨x1, x2⟩ <;> rcases canon (p := a) h2.1 with ⟨y1, y2, y3⟩ | ⟨y1, y2⟩
  · exact ⟨intL_inj (by rw [← x3, ← y3, ← e1, ← e2]), by rw [x2, y2]⟩
  · rw [← e1, e2, y1] at x1; cases x1
  · rw [← e1, e2, y1] at x1; cases x1
  · rw [← e1, e2, y1] at x1
    have h3 := Option.some.inj x1
    exact ⟨intL_inj (congrArg Prod.fst h3).symm, intL_inj (congrArg Prod.snd h3).symm⟩
theorem can_int {n : Int} (h : (intL n).length ≤ 100) : Canon (intL n) n 1 := ⟨by decide, Nat.gcd_one_right _, by unfold ratL; rw [if_pos rfl], h⟩
abbrev sLaw : Stmt := top 22
theorem scLaw : FnScope ["_law_script", "_law_bag_here", "_law_choice", "_law_digit", "_law_sign", "_law_long", "_law_a", "_law_ratio", "_law_text", "_law_run", "_law_zeros", "_law_parts", "_law_both"] ["_law_script"] (defScope sLaw) := ⟨rfl, rfl, rfl, by decide +kernel, rfl, by decide +kernel, by decide +kernel⟩
theorem ok_law {f C CI fE fW fB fT fI fN fL fF fRf fMs fQ pR fRd fS fRp : Addr} {mc u1 : _} {fd fdB fdT fdI fdF fdRf fdMs fdQ fdRd fdS fdRp : FuncData} (F : Fun K "law" "law" sLaw f fd) (T : TxR K mg C CI fE fW) (L : TxL4 K mg fB fT fI fN fL fF fRf fMs) (M : Mk K C fQ)
    (mS : mg "str" = none) (mRp : mg "repr" = none) (mLn : mg "len" = none) (mI : mg "int" = none)
    (cr : ClX.CRead K C mc) (hC : ClX.CVal K C mc "MOST_TEXT" (.int 100) u1) (sm : SMet K C mc "read" pR fRd)
    (GB : FnOk P w K mg base CX0 1 fB fdB ["_law_script"] (spBag K)) (bB : Binds K fdB ["_law_script"] [])
    (GT : FnOk P w K mg base CX0 1 fT fdT ["_law_bag_here", "_law_size"] spTake) (bT : Binds K fdT ["_law_bag_here", "_law_size"] [])
    (GI : FnOk P w K mg base CX0 2 fI fdI ["_law_actual", "_law_due"] (spIsR C)) (bI : Binds K fdI ["_law_actual", "_law_due"] [])
    (GF : FnOk P w K mg base CX0 2 fF fdF ["_law_bag_here"] spFrac) (bF : Binds K fdF ["_law_bag_here"] [])
    (GRf : FnOk P w K mg base CX0 7 fRf fdRf ["_law_text"] spRefused) (bRf : Binds K fdRf ["_law_text"] [])
    (GM : FnOk P w K mg base CX0 1 fMs fdMs ["_law_choice", "_law_a", "_law_text"] (spMiss C)) (bM : Binds K fdMs ["_law_choice", "_law_a", "_law_text"] [])
    (GQ : FnOk P w K mg base (L2.CX P w) 3 fQ fdQ ["self", "top", "bottom"] (spInit K C CI)) (bQ : Binds K fdQ ["self", "top", "bottom"] [])
    (GRd : FnOk P w K mg base (L2.CX P w) 6 fRd fdRd ["text"] (spRead C CI)) (bRd : Binds K fdRd ["text"] [])
    (GS : FnOk P w K mg base CX0 2 fS fdS ["self"] (spStr C ratL)) (bS : Binds K fdS ["self"] []) (hs : PySem.W.findIn K (.ref C) "__str__" = some (some (.ref fS))) (hf : PySem.W.isFn K (.ref fS) = true)
    (GRp : FnOk P w K mg base CX0 2 fRp fdRp ["self"] (spStr C repL)) (bRp : Binds K fdRp ["self"] []) (hsR : PySem.W.findIn K (.ref C) "__repr__" = some (some (.ref fRp))) (hfR : PySem.W.isFn K (.ref fRp) = true) :
    FnOk P w K mg base CX0 8 f fd ["_law_script"] (spLaw K) := by
  refine F.ok scLaw (fun vs H Q E h => ?_) (fun cdv A outer s H vs Q E hr h => ?_)
  · obtain ⟨t, ns, rfl, _⟩ := h
    rfl
  · obtain ⟨sa, ns, rfl, hS, _, k⟩ := h
    have hr1 : Room 1 _ := hr.mono (by decide)
    have hr2 : Room 2 _ := hr.mono (by decide)
    have hr3 : Room 3 _ := hr.mono (by decide)
    have hr4 : Room 4 _ := hr.mono (by decide)
    have hr6 : Room 6 _ := hr.mono (by decide)
    have nd := scLaw.nd
    refine ⟨_, pss_cons (ps_set (i := 1) nd rfl (Or.inl rfl) (pe_call GB hr1 (by rfl) L.bag.g L.bag.k bB .nil pass0 (pa_cons (pv 0) pa_nil)))
      (pss_cons (ps_set (i := 2) nd rfl (Or.inl rfl) (pe_call GT hr1 (by rfl) L.take.g L.take.k bT .nil pass0 (pa_cons (pv 1) (pa_cons pe_int pa_nil))))
      (pss_cons (ps_set (i := 3) nd rfl (Or.inl rfl) (pe_item_str pe_str (pe_call GT hr1 (by rfl) L.take.g L.take.k bT .nil pass0 (pa_cons (pv 1) (pa_cons pe_int pa_nil))) (fun _ _ => rfl)))
      (pss_cons (ps_set (i := 4) nd rfl (Or.inl rfl) (pe_ix ix_list (pe_lst (pa_cons pe_str (pa_cons pe_str pa_nil))) (pe_call GT hr1 (by rfl) L.take.g L.take.k bT .nil pass0 (pa_cons (pv 1) (pa_cons pe_int pa_nil))) (fun _ _ => rfl)))
      (pss_cons (ps_set (i := 5) nd rfl (Or.inl rfl) (pe_op op_add pe_int (pe_call GT hr1 (by rfl) L.take.g L.take.k bT .nil pass0 (pa_cons (pv 1) (pa_cons pe_int pa_nil)))))
      (pss_cons (ps_set (i := 6) nd rfl (Or.inl rfl) (pe_call GF hr2 (by rfl) L.frac.g L.frac.k bF .nil pass0 (pa_cons (pv 1) pa_nil)))
      (pss_cons (ps_set (i := 7) nd rfl (Or.inl rfl) (pe_make M GQ hr4 (by rfl) T.mgC bQ .nil passL (pa_cons (pe_ix ix_tup (pv 6) pe_int (fun _ _ => rfl)) (pa_cons (pe_ix ix_tup (pv 6) pe_int (fun _ _ => rfl)) pa_nil))))
      (pss_cons (ps_set (i := 8) nd rfl (Or.inl rfl) (pe_callTy call_strI (by rfl) mS (by decide +kernel) (pa_cons (pe_ix ix_tup (pv 6) pe_int (fun _ _ => rfl)) pa_nil)))
      (C8.pss_cut (ps_if (pt_cmpR op_ne (pe_ix ix_tup (pv 6) pe_int (fun _ _ => rfl)) pe_int (nomark _)) (pss_one (ps_set (i := 8) nd rfl (Or.inl rfl) (pe_op op_addS (pe_op op_addS (pv 8) pe_str) (pe_callTy call_strI (by rfl) mS (by decide +kernel) (pa_cons (pe_ix ix_tup (pv 6) pe_int (fun _ _ => rfl)) pa_nil))))) pss_nil)
      (pss_cons (ps_if (PW.pt (pw_or (pt_cmpR op_ne (pe_callTy (call_strO hs hf GS bS hr4) (by rfl) mS (by decide +kernel) (pa_cons (pv 7) pa_nil)) (pv 8) (nomark _))
          (pw_or1 (pt_cmpR op_ne (pe_callB (call_reprO hsR hfR GRp bRp hr3) (by rfl) mRp (by decide +kernel) (pa_cons (pv 7) pa_nil))
            (pe_op op_addS (pe_op op_addS (pe_op op_addS (pe_op op_addS pe_str (pe_callTy call_strI (by rfl) mS (by decide +kernel) (pa_cons (pe_ix ix_tup (pv 6) pe_int (fun _ _ => rfl)) pa_nil))) pe_str) (pe_callTy call_strI (by rfl) mS (by decide +kernel) (pa_cons (pe_ix ix_tup (pv 6) pe_int (fun _ _ => rfl)) pa_nil))) pe_str) (nomark _))))) (pss_one (ps_ret pe_bl)) pss_nil)
      (pss_cons (ps_if (PW.pt (pw_or (pt_not (pt_val (pe_call GI hr2 (by rfl) L.is.g L.is.k bI .nil pass0 (pa_cons (pe_smeth (pe_glob (v := .ref C) (by rfl) T.mgC rfl) cr sm GRd bRd hr6 passL (pa_cons (pv 8) pa_nil)) (pa_cons (pv 6) pa_nil)))))
          (pw_or1 (pt_not (pt_val (pe_call GRf hr (by rfl) L.ref.g L.ref.k bRf .nil pass0 (pa_cons (pe_call GM hr1 (by rfl) L.miss.g L.miss.k bM .nil pass0 (pa_cons (pv 2) (pa_cons (pv 6) (pa_cons (pv 8) pa_nil)))) pa_nil))))))) (pss_one (ps_ret pe_bl)) pss_nil)
      (pss_cons (ps_set (i := 9) nd rfl (Or.inl rfl) (pe_op op_addS (pv 4) (pe_op op_mulS (pv 3) (pv 5))))
      (pss_cons (ps_set (i := 10) nd rfl (Or.inl rfl) (pe_call GT hr1 (by rfl) L.take.g L.take.k bT .nil pass0 (pa_cons (pv 1) (pa_cons pe_int pa_nil))))
      (pss_cons (ps_set (i := 11) nd rfl (Or.inl rfl) (pe_lst (pa_cons (pe_op op_addS (pe_op op_addS (pv 4) pe_str) (pe_op op_mulS pe_str (pv 10))) (pa_cons (pe_op op_mulS pe_str (pe_op op_sub (pe_op op_sub (pv 5) (pv 10)) pe_int)) pa_nil))))
      (pss_cons (ps_set (i := 12) nd rfl (Or.inl rfl) (pe_op op_addS (pe_op op_addS (pe_ix ix_list (pv 11) pe_int (fun _ _ => rfl)) pe_str) (pe_ix ix_list (pv 11) pe_int (fun _ _ => rfl))))
      (C8.pss_cut (ps_if (PW.pt (pw_or (pt_cmpR op_ne (ClX.pe_cval (pe_glob (v := .ref C) (by rfl) T.mgC rfl)) pe_int (nomark _))
          (pw_or1 (PW.pt (pw_and (pt_cmpR op_gt (pe_callB call_len_str (by rfl) mLn PySem.boot_len (pa_cons (pv 12) pa_nil)) pe_int (nomark _)) (pw_and1 (pt_not (pt_val (pe_call GRf hr (by rfl) L.ref.g L.ref.k bRf .nil pass0 (pa_cons (pv 12) pa_nil)))))))))) (pss_one (ps_ret pe_bl)) pss_nil)
      (C8.pss_cut (ps_if (PW.pt (pw_and (pt_cmpR op_le (pe_callB call_len_str (by rfl) mLn PySem.boot_len (pa_cons (pv 12) pa_nil)) pe_int (nomark _))
          (pw_and1 (pt_not (pt_val (pe_call GI hr2 (by rfl) L.is.g L.is.k bI .nil pass0 (pa_cons (pe_smeth (pe_glob (v := .ref C) (by rfl) T.mgC rfl) cr sm GRd bRd hr6 passL (pa_cons (pv 12) pa_nil)) (pa_cons (pe_tup (pa_cons (pe_callTy call_int_str (by rfl) mI (by decide +kernel) (pa_cons (pe_ix ix_list (pv 11) pe_int (fun _ _ => rfl)) pa_nil)) (pa_cons (pe_callTy call_int_str (by rfl) mI (by decide +kernel) (pa_cons (pe_ix ix_list (pv 11) pe_int (fun _ _ => rfl)) pa_nil)) pa_nil))) pa_nil)))))))) (pss_one (ps_ret pe_bl)) pss_nil)
      (pss_cons (ps_if (pt_cmpR op_gt (pe_callB call_len_str (by rfl) mLn PySem.boot_len (pa_cons (pv 9) pa_nil)) pe_int (nomark _)) (pss_one (ps_ret (pe_call GRf hr (by rfl) L.ref.g L.ref.k bRf .nil pass0 (pa_cons (pv 9) pa_nil)))) pss_nil)
      (pss_one (ps_ret (pe_call GI hr2 (by rfl) L.is.g L.is.k bI .nil pass0 (pa_cons (pe_smeth (pe_glob (v := .ref C) (by rfl) T.mgC rfl) cr sm GRd bRd hr6 passL (pa_cons (pv 9) pa_nil)) (pa_cons (pe_tup (pa_cons (pe_callTy call_int_str (by rfl) mI (by decide +kernel) (pa_cons (pv 9) pa_nil)) (pa_cons pe_int pa_nil))) pa_nil)))))))))))))))))))))), ?_⟩
    refine ⟨_, rfl, sa, ns, rfl, hS, fun b H1 B1 _ _ => ?_⟩
    refine ⟨_, rfl, b, 22, rfl, by decide, by decide, B1, fun ch H2 ch0 ch1 B2 _ => ?_⟩
    refine ⟨_, rfl, b, 9, rfl, by decide, by decide, B2, fun dg H3 dg0 dg1 B3 _ => ?_⟩
    obtain ⟨c, hc, hc1, hc2⟩ := digit_at dg.toNat (by omega)
    have l9 : ("123456789" : Str).length = 9 := by decide +kernel
    refine ⟨_, dg, c, rfl, rfl, dg0, by omega, by rw [l9]; exact dg1, hc, ?_⟩
    refine ⟨by show 2 ≤ sizeLine; decide, fun l1 n1 => ?_⟩
    refine ⟨_, rfl, b, 2, rfl, by decide, by decide, B3.sm (same_upd n1), fun d1 H4 d1a d1b B4 k4 => ?_⟩
    obtain ⟨v1, at1, in1⟩ := atI_in (xs := [V.str "", .str "-"]) d1a d1b
    obtain ⟨s, rfl, hs⟩ : ∃ s, v1 = .str (SX.S s) ∧ (s = [] ∨ s = [45]) := by
      simp only [List.mem_cons, List.not_mem_nil, or_false] at in1
      rcases in1 with h | h
      · exact ⟨[], h, .inl rfl⟩
      · exact ⟨[45], h.trans (congrArg V.str (by decide +kernel)), .inr rfl⟩
    have hsl : s.length ≤ 1 := by rcases hs with h | h <;> rw [h] <;> decide
    refine ⟨l1, _, d1, _, rfl, rfl, SqL.of (k4 _ _ upd_same (B3.ne n1)), at1, ?_⟩
    refine ⟨_, rfl, b, 5, rfl, by decide, by decide, B4, fun lo H5 lo0 lo1 B5 _ => ⟨98, lo, rfl, rfl, ?_⟩⟩
    refine ⟨_, rfl, b, rfl, B5, fun a0 a1 qa H6 a1p a1w a0w ag B6 _ e6 neb => ?_⟩
    have w0 : a0.natAbs < 10 ^ 128 := by omega
    have w1 : a1.natAbs < 10 ^ 128 := by omega
    refine ⟨_, rfl, qa, _, _, _, rfl, rfl, SqT.of e6, rfl, _, rfl, qa, _, _, _, rfl, rfl, SqT.of e6, rfl, fun x dx nx ndx ne => rd_make (m := a0) (n := a1) (by omega) (by omega) nx ndx ne rfl fun H7 s7 e7 => ?_⟩
    rw [cmn_low a1p ag, Int.fdiv_one, Int.fdiv_one] at e7
    have RA7 : RatAt C H7 x a0 a1 := ⟨dx, _, e7, rfl2_top _ _, rfl2_bottom _ _⟩
    have q7 := s7 _ _ e6
    have li0 : (intL a0).length ≤ 32 := by
      have := TL.numL_len (k := 31) (by decide) (show a0.natAbs < 10 ^ 31 by omega)
      unfold intL
      split
      · rw [List.length_cons]; omega
      · omega
    have li1 : (intL a1).length ≤ 32 := by
      have := TL.numL_len (k := 31) (by decide) (show a1.natAbs < 10 ^ 31 by omega)
      unfold intL
      split
      · rw [List.length_cons]; omega
      · omega
    have lr : (ratL a0 a1).length ≤ 100 := by
      unfold ratL
      split
      · omega
      · rw [List.length_append, List.length_cons]; omega
    have can : Canon (ratL a0 a1) a0 a1 := ⟨a1p, ag, rfl, lr⟩
    refine ⟨_, rfl, qa, _, _, _, rfl, rfl, SqT.of q7, rfl, a0, rfl, w0, ?_⟩
    refine ⟨fun σ' H' => H' = H7 ∧ σ' = [some (.ref sa), some (.ref b), some (.int ch), some (.str (SX.S [c])), some (.str (SX.S s)), some (.int (98 + lo)), some (.ref qa), some (.ref x), some (.str (SX.S (ratL a0 a1))), none, none, none, none], ?_, ?_⟩
    · refine ⟨_, rfl, qa, _, _, _, rfl, rfl, SqT.of q7, rfl, rfl, _, rfl, ?_⟩
      rw [dec_int]
      by_cases h1 : a1 = 1
      · rw [show (a1 == 1) = true from beq_iff_eq.mpr h1]
        refine iteF ⟨rfl, ?_⟩
        have e : ratL a0 a1 = intL a0 := by unfold ratL; rw [if_pos h1]
        rw [e]
        rfl
      · rw [show (a1 == 1) = false from beq_eq_false_iff_ne.mpr h1]
        refine iteT ⟨_, rfl, intL a0, [47], rfl, rfl, by show _ + 1 ≤ _; omega, _, rfl, qa, _, _, _, rfl, rfl, SqT.of q7, rfl, a1, rfl, w1, intL a0 ++ [47], intL a1, rfl, rfl, by rw [List.length_append]; show _ + 1 + _ ≤ _; omega, rfl, ?_⟩
        have e : ratL a0 a1 = (intL a0 ++ [47]) ++ intL a1 := by unfold ratL; rw [if_neg h1, List.append_assoc]; rfl
        rw [e]
        rfl
    rintro σ' H' ⟨rfl, rfl⟩
    -- str and repr
    refine ⟨_, rfl, x, dx, _, rfl, e7, x, a0, a1, rfl, RA7, w0, w1, fun H8 s8 => ⟨_, rfl, _, rfl, rfl, _, rfl, ?_⟩⟩
    rw [decide_eq_true rfl]
    have q8 := s8 _ _ q7
    have e1 : ("Ratio(" : Str) = SX.S [82, 97, 116, 105, 111, 40] := by decide +kernel
    have e2 : (", " : Str) = SX.S [44, 32] := by decide +kernel
    have e3 : (")" : Str) = SX.S [41] := by decide +kernel
    refine iteF ⟨_, rfl, x, dx, _, rfl, s8 _ _ e7, x, a0, a1, rfl, RA7.sm s8, w0, w1, fun H9 s9 => ⟨_, rfl, ?_⟩⟩
    have q9 := s9 _ _ q8
    have len : ∀ {l m : List Nat} {i j : Nat}, l.length ≤ i → m.length ≤ j → (l ++ m).length ≤ i + j := fun h1 h2 => by rw [List.length_append]; omega
    refine ⟨_, rfl, qa, _, _, _, rfl, rfl, SqT.of q9, rfl, a0, rfl, w0, [82, 97, 116, 105, 111, 40], intL a0, congrArg V.str e1, rfl, by show 6 + _ ≤ _; omega, _, [44, 32], rfl, congrArg V.str e2, ?_, ?_⟩
    · have := len (Nat.le_refl [82, 97, 116, 105, 111, 40].length) li0
      show _ + 2 ≤ _
      exact Nat.le_trans (Nat.add_le_add_right this 2) (by decide)
    refine ⟨_, rfl, qa, _, _, _, rfl, rfl, SqT.of q9, rfl, a1, rfl, w1, _, intL a1, rfl, rfl, ?_, _, [41], rfl, congrArg V.str e3, ?_, rfl, _, rfl, ?_⟩
    · have := len (len (Nat.le_refl [82, 97, 116, 105, 111, 40].length) li0) (Nat.le_refl [44, 32].length)
      exact Nat.le_trans (Nat.add_le_add this li1) (by decide)
    · have := len (len (len (Nat.le_refl [82, 97, 116, 105, 111, 40].length) li0) (Nat.le_refl [44, 32].length)) li1
      show _ + 1 ≤ _
      exact Nat.le_trans (Nat.add_le_add_right this 1) (by decide)
    have er : repL a0 a1 = ((([82, 97, 116, 105, 111, 40] ++ intL a0) ++ [44, 32]) ++ intL a1) ++ [41] := by
      unfold repL
      simp only [List.append_assoc]
    rw [decide_eq_true (congrArg (fun l => V.str (SX.S l)) er)]
    refine iteF ?_
    -- read, and the near miss
    refine ⟨rfl, _, rfl, ratL a0 a1, rfl, by omega, fun v0 v1 cn H10 r s10 nr RAr => ?_, fun h => absurd can (h a0 a1)⟩
    obtain ⟨rfl, rfl⟩ := canon_inj cn can
    have q10 := s10 _ _ q9
    refine ⟨_, rfl, r, qa, _, _, _, _, rfl, RAr, q10, _, rfl, ?_⟩
    rw [decide_eq_true rfl, decide_eq_true rfl]
    refine iteF ?_
    refine ⟨_, rfl, _, rfl, _, rfl, ch, _, _, qa, rfl, ch0, ch1, q10, a1p, by omega, by omega, fun t H11 ht hl s11 => ?_⟩
    refine ⟨t, rfl, hl, miss_no a1p t ht, fun H12 s12 => ⟨_, rfl, iteF ?_⟩⟩
    -- the run
    obtain ⟨n, hn⟩ : ∃ n : Nat, n = (98 + lo).toNat := ⟨_, rfl⟩
    have hn1 : 98 ≤ n := by omega
    have hn2 : n ≤ 102 := by omega
    refine ⟨_, rfl, _, rfl, _, rfl, [c], 98 + lo, rfl, rfl, by omega, by omega, by show 1 ≤ 1000; decide, s, List.replicate n c, rfl, by rw [rep_flat, hn], by rw [List.length_replicate]; omega, ?_⟩
    obtain ⟨rn, hrn, wrn⟩ := run_text hs ⟨hc1, hc2⟩ (show 0 < n by omega) hn2
    have lrn : (intL rn).length = s.length + n := by rw [← hrn, List.length_append, List.length_replicate]
    rw [hrn]
    have B12 : BagAt H12 b := (((((B6.sm s7).sm s8).sm s9).sm s10).sm s11).sm s12
    refine ⟨_, rfl, b, 96, rfl, by decide, by decide, B12, fun z H13 z0 z1 B13 k13 => ?_⟩
    obtain ⟨zn, hzn⟩ : ∃ zn : Nat, zn = z.toNat := ⟨_, rfl⟩
    obtain ⟨m, hm⟩ : ∃ m : Nat, m = (98 + lo - z - 2).toNat := ⟨_, rfl⟩
    have hz2 : zn ≤ 95 := by omega
    have hmz : zn + m + 2 = n := by omega
    obtain ⟨p, q, hp, hq, wp, wq, q0, g, q1⟩ := frac_text hs hz2 (show 0 < m by omega) (show m ≤ 100 by omega)
    have lp : (intL p).length = s.length + 1 + zn := by rw [← hp, List.length_append, List.length_append, List.length_replicate]; rfl
    have lq : (intL q).length = m := by rw [← hq, List.length_replicate]
    have l49 : (s ++ [49]).length = s.length + 1 := by rw [List.length_append]; rfl
    refine ⟨_, rfl, s, [49], rfl, rfl, by show _ + 1 ≤ _; omega, _, rfl, [48], z, rfl, rfl, z0, by omega, by decide, s ++ [49], List.replicate zn 48, rfl, by rw [rep_flat, hzn], by rw [l49, List.length_replicate]; omega, ?_⟩
    refine ⟨_, rfl, _, rfl, _, z, rfl, rfl, _, _, rfl, rfl, [57], _, rfl, rfl, by omega, by omega, by decide, by show 2 ≤ sizeLine; decide, fun l2 n2 => ?_⟩
    rw [hp, rep_flat, ← hm, hq]
    obtain ⟨H14, e14⟩ : ∃ H14, H14 = upd H13 l2 (.lst [.str (SX.S (intL p)), .str (SX.S (intL q))]) := ⟨_, rfl⟩
    rw [← e14]
    have h14 : H14 l2 = some (.lst [.str (SX.S (intL p)), .str (SX.S (intL q))]) := by rw [e14]; exact upd_same
    refine ⟨_, rfl, l2, _, _, _, rfl, rfl, SqL.of h14, rfl, intL p, [47], rfl, rfl, by show _ + 1 ≤ _; omega, _, rfl, l2, _, _, _, rfl, rfl, SqL.of h14, rfl, intL p ++ [47], intL q, rfl, rfl, by rw [List.length_append]; show _ + 1 + _ ≤ _; omega, ?_⟩
    have eb : (intL p ++ [47]) ++ intL q = ratL p q := by unfold ratL; rw [if_neg q1, List.append_assoc]; rfl
    rw [eb]
    have lb : (ratL p q).length = s.length + n := by rw [← eb, List.length_append, List.length_append, lp, lq]; show _ + 1 + _ = _; omega
    have hsz : (sizeLine : Nat) = 16777216 := sizeLine_eq
    obtain ⟨σ, hσ⟩ : ∃ σ : L2.St, σ = [some (.ref sa), some (.ref b), some (.int ch), some (.str (SX.S [c])), some (.str (SX.S s)), some (.int (98 + lo)), some (.ref qa), some (.ref x), some (.str (SX.S (ratL v0 v1))), some (.str (SX.S (intL rn))), some (.int z), some (.ref l2), some (.str (SX.S (ratL p q)))] := ⟨_, rfl⟩
    refine ⟨fun σ' H' => σ' = σ ∧ H' l2 = some (.lst [.str (SX.S (intL p)), .str (SX.S (intL q))]), ?_, ?_⟩
    · refine ⟨C, mc, .int 100, u1, rfl, cr, hC, rfl, _, rfl, ?_⟩
      rw [decide_eq_true rfl]
      refine iteF ?_
      refine ⟨_, rfl, _, rfl, by rw [SX.S_len]; omega, _, _, rfl, rfl, _, rfl, ?_⟩
      rw [SX.S_len]
      refine ite2 (fun h => ?_) (fun h => ?_)
      · have h' : (100 : Int) < ((ratL p q).length : Int) := of_decide_eq_true h
        refine ⟨_, rfl, ratL p q, rfl, by omega, fun a b c => by have := c.2.2.2; omega, fun H15 s15 => ⟨_, rfl, iteF ⟨hσ.symm, s15 _ _ h14⟩⟩⟩
      · exact iteF ⟨hσ.symm, h14⟩
    rintro σ' H15 ⟨rfl, h15⟩
    subst hσ
    refine ⟨fun σ' H' => σ' = [some (.ref sa), some (.ref b), some (.int ch), some (.str (SX.S [c])), some (.str (SX.S s)), some (.int (98 + lo)), some (.ref qa), some (.ref x), some (.str (SX.S (ratL v0 v1))), some (.str (SX.S (intL rn))), some (.int z), some (.ref l2), some (.str (SX.S (ratL p q)))], ?_, ?_⟩
    · refine ⟨_, rfl, _, rfl, by rw [SX.S_len]; omega, _, _, rfl, rfl, _, rfl, ?_⟩
      rw [SX.S_len]
      refine ite2 (fun h => ?_) (fun h => ?_)
      · have h' : ((ratL p q).length : Int) ≤ 100 := of_decide_eq_true h
        have cn : Canon (ratL p q) p q := ⟨q0, g, rfl, by omega⟩
        refine ⟨rfl, _, rfl, ratL p q, rfl, by omega, fun p' q' cn' H16 r s16 nr RAr => ?_, fun h => absurd cn (h p q)⟩
        obtain ⟨rfl, rfl⟩ := canon_inj cn' cn
        have h16 := s16 _ _ h15
        refine ⟨_, rfl, l2, _, _, _, rfl, rfl, SqL.of h16, rfl, _, _, rfl, intL_int wp, by rw [SX.S_len]; omega, _, rfl, l2, _, _, _, rfl, rfl, SqL.of h16, rfl, _, _, rfl, intL_int wq, by rw [SX.S_len]; omega, by show 2 ≤ sizeLine; decide, fun t nt => ?_⟩
        refine ⟨r, t, _, _, _, _, rfl, RAr.sm (same_upd nt), upd_same, _, rfl, ?_⟩
        rw [decide_eq_true rfl, decide_eq_true rfl]
        exact iteF rfl
      · exact iteF rfl
    rintro σ' H16 rfl
    refine ⟨_, rfl, _, rfl, by rw [SX.S_len]; omega, _, _, rfl, rfl, _, rfl, ?_⟩
    rw [SX.S_len]
    refine ite2 (fun h => ?_) (fun h => ?_)
    · have h' : (100 : Int) < ((intL rn).length : Int) := of_decide_eq_true h
      exact ⟨_, rfl, intL rn, rfl, by omega, fun a b c => by have := c.2.2.2; omega, fun H17 s17 => k _⟩
    · have h' : ¬ (100 : Int) < ((intL rn).length : Int) := fun z => h (decide_eq_true z)
      have cn : Canon (intL rn) rn 1 := can_int (by omega)
      refine ⟨rfl, _, rfl, intL rn, rfl, by omega, fun p' q' cn' H17 r s17 nr RAr => ?_, fun h => absurd cn (h rn 1)⟩
      obtain ⟨rfl, rfl⟩ := canon_inj cn' cn
      refine ⟨_, rfl, _, _, rfl, intL_int wrn, by rw [SX.S_len]; omega, by show 2 ≤ sizeLine; decide, fun t nt => ?_⟩
      refine ⟨r, t, _, _, _, _, rfl, RAr.sm (same_upd nt), upd_same, ?_⟩
      rw [decide_eq_true rfl, decide_eq_true rfl]
      exact k _
end
/-! ### what the top has written, and the end -/
theorem all_mk {l : PySem.W.OpenLaw} {w : World} {K : PySem.W.Frag} {h : Heap} {mg : Str → Option Value} {fa : Addr} {fW fE fQ fS fRp fRd fWn fDg fB fT fN fI fL fF fRf fMs fZ C CI CF pR : Addr} (X : K.In h) (G : h.Ns mainGlobals mg) (hfa : mg "law" = some (.ref fa))
    {odW anW odE anE odQ anQ odS anS odRp anRp odRd anRd odWn anWn odD anD odB anB odT anT odN anN odI anI odL anL odF anF odRf anRf odMs anMs odZ anZ : Option Addr} {slW slE slQ slS slRp slRd slWn slD slB slT slN slI slL slF slRf slMs slZ : Array (Option Value)} {ocW kVW dcW pmW cdW ctW ocE kVE dcE pmE cdE ctE ocQ kVQ dcQ pmQ cdQ ctQ ocS kVS dcS pmS cdS ctS ocRp kVRp dcRp pmRp cdRp ctRp ocRd kVRd dcRd pmRd cdRd ctRd ocWn kVWn dcWn pmWn cdWn ctWn ocD kVD dcD pmD cdD ctD ocB kVB dcB pmB cdB ctB ocT kVT dcT pmT cdT ctT ocN kVN dcN pmN cdN ctN ocI kVI dcI pmI cdI ctI ocL kVL dcL pmL cdL ctL ocF kVF dcF pmF cdF ctF ocRf kVRf dcRf pmRf cdRf ctRf ocMs kVMs dcMs pmMs cdMs ctMs ocZ kVZ dcZ pmZ cdZ ctZ : Value} {DQ : Addr} {dclQ : Value} {dddQ : Option Addr} {dnnQ : Nat} {dslQ : Array (Option Value)} {tQ : Tok} {xnm xq : Str} {xN : Addr} {xbs : List Value} {xsn : List Str} {xsub : List Value} {xab : Bool} {xcol : Option Bool} {xdd : Option Addr} {xm0 xm1 xm2 xm3 xm5 : Option Value} {tM : Tok} {restR : List Value}
    (aCI : PySem.W.nsIn K mainGlobals "InvalidNumber" = some (some (.ref CI)))
    (aCF : PySem.W.nsIn K mainGlobals "FontError" = some (some (.ref CF)))
    (aC : PySem.W.nsIn K mainGlobals "Ratio" = some (some (.ref C)))
    (aW : PySem.W.nsIn K mainGlobals "is_whole" = some (some (.ref fW)))
    (lW : K.lookup fW = some ⟨ocW, odW, .func (PySem.W.fnOf "is_whole" "is_whole" (defArgs sWhole) (defBody sWhole) (defScope sWhole) .none kVW dcW pmW anW cdW ctW), slW⟩)
    (cW : PySem.W.codeIn K cdW "is_whole" = true)
    (kW : PySem.W.keepIn K (.ref fW) = true)
    (aE : PySem.W.findIn K (.ref CI) "__init__" = some (some (.ref fE)))
    (tE : PySem.W.typeIn K (.ref fE) = some (.type "function"))
    (lE : K.lookup fE = some ⟨ocE, odE, .func (PySem.W.fnOf "__init__" "InvalidNumber.__init__" (defArgs sEI) (defBody sEI) (defScope sEI) .none kVE dcE pmE anE cdE ctE), slE⟩)
    (cE : PySem.W.codeIn K cdE "InvalidNumber.__init__" = true)
    (kE : PySem.W.keepIn K (.ref fE) = true)
    (aQ : PySem.W.findIn K (.ref C) "__init__" = some (some (.ref fQ)))
    (iQ : PySem.W.isFn K (.ref fQ) = true)
    (lQ : K.lookup fQ = some ⟨ocQ, odQ, .func (PySem.W.fnOf "__init__" "Ratio.__init__" (defArgs sInit) (defBody sInit) (defScope sInit) (.ref DQ) kVQ dcQ pmQ anQ cdQ ctQ), slQ⟩)
    (cQ : PySem.W.codeIn K cdQ "Ratio.__init__" = true)
    (kQ : PySem.W.keepIn K (.ref fQ) = true)
    (dQ : K.lookup DQ = some ⟨dclQ, dddQ, .seq #[.int 1 tQ] dnnQ, dslQ⟩)
    (aS : PySem.W.findIn K (.ref C) "__str__" = some (some (.ref fS)))
    (iS : PySem.W.isFn K (.ref fS) = true)
    (lS : K.lookup fS = some ⟨ocS, odS, .func (PySem.W.fnOf "__str__" "Ratio.__str__" (defArgs sStr) (defBody sStr) (defScope sStr) .none kVS dcS pmS anS cdS ctS), slS⟩)
    (cS : PySem.W.codeIn K cdS "Ratio.__str__" = true)
    (kS : PySem.W.keepIn K (.ref fS) = true)
    (aRp : PySem.W.findIn K (.ref C) "__repr__" = some (some (.ref fRp)))
    (iRp : PySem.W.isFn K (.ref fRp) = true)
    (lRp : K.lookup fRp = some ⟨ocRp, odRp, .func (PySem.W.fnOf "__repr__" "Ratio.__repr__" (defArgs sRepr) (defBody sRepr) (defScope sRepr) .none kVRp dcRp pmRp anRp cdRp ctRp), slRp⟩)
    (cRp : PySem.W.codeIn K cdRp "Ratio.__repr__" = true)
    (kRp : PySem.W.keepIn K (.ref fRp) = true)
    (crd : PySem.W.readsIn K C (.type "type") = true)
    (cga : PySem.W.specialIn K (.ref C) "__getattribute__" = some (some (.builtin "type.__getattribute__")))
    (cMT : PySem.W.findCls K (.ref C) (.type "type") "MOST_TEXT" = some (.val (.int 100 tM)))
    (cRD : PySem.W.findCls K (.ref C) (.type "type") "read" = some (.get (.builtin "staticmethod.__get__") (.ref pR) .none (.ref C)))
    (rRD : PySem.W.recIn K pR "staticmethod" = some (.ref fRd :: restR))
    (lRd : K.lookup fRd = some ⟨ocRd, odRd, .func (PySem.W.fnOf "read" "Ratio.read" (defArgs sRead) (defBody sRead) (defScope sRead) .none kVRd dcRd pmRd anRd cdRd ctRd), slRd⟩)
    (cRd : PySem.W.codeIn K cdRd "Ratio.read" = true)
    (kRd : PySem.W.keepIn K (.ref fRd) = true)
    (aWn : PySem.W.nsIn K mainGlobals "written" = some (some (.ref fWn)))
    (lWn : K.lookup fWn = some ⟨ocWn, odWn, .func (PySem.W.fnOf "written" "written" (defArgs sWritten) (defBody sWritten) (defScope sWritten) .none kVWn dcWn pmWn anWn cdWn ctWn), slWn⟩)
    (cWn : PySem.W.codeIn K cdWn "written" = true)
    (kWn : PySem.W.keepIn K (.ref fWn) = true)
    (aD : PySem.W.nsIn K mainGlobals "is_digits" = some (some (.ref fDg)))
    (lD : K.lookup fDg = some ⟨ocD, odD, .func (PySem.W.fnOf "is_digits" "is_digits" (defArgs sDigits) (defBody sDigits) (defScope sDigits) .none kVD dcD pmD anD cdD ctD), slD⟩)
    (cD : PySem.W.codeIn K cdD "is_digits" = true)
    (kD : PySem.W.keepIn K (.ref fDg) = true)
    (aB : PySem.W.nsIn K mainGlobals "_law_bag" = some (some (.ref fB)))
    (lB : K.lookup fB = some ⟨ocB, odB, .func (PySem.W.fnOf "_law_bag" "_law_bag" (defArgs sBag) (defBody sBag) (defScope sBag) .none kVB dcB pmB anB cdB ctB), slB⟩)
    (cB : PySem.W.codeIn K cdB "_law_bag" = true)
    (kB : PySem.W.keepIn K (.ref fB) = true)
    (aT : PySem.W.nsIn K mainGlobals "_law_take" = some (some (.ref fT)))
    (lT : K.lookup fT = some ⟨ocT, odT, .func (PySem.W.fnOf "_law_take" "_law_take" (defArgs sTake) (defBody sTake) (defScope sTake) .none kVT dcT pmT anT cdT ctT), slT⟩)
    (cT : PySem.W.codeIn K cdT "_law_take" = true)
    (kT : PySem.W.keepIn K (.ref fT) = true)
    (aN : PySem.W.nsIn K mainGlobals "_law_int" = some (some (.ref fN)))
    (lN : K.lookup fN = some ⟨ocN, odN, .func (PySem.W.fnOf "_law_int" "_law_int" (defArgs sInt) (defBody sInt) (defScope sInt) .none kVN dcN pmN anN cdN ctN), slN⟩)
    (cN : PySem.W.codeIn K cdN "_law_int" = true)
    (kN : PySem.W.keepIn K (.ref fN) = true)
    (aI : PySem.W.nsIn K mainGlobals "_law_is" = some (some (.ref fI)))
    (lI : K.lookup fI = some ⟨ocI, odI, .func (PySem.W.fnOf "_law_is" "_law_is" (defArgs sIs) (defBody sIs) (defScope sIs) .none kVI dcI pmI anI cdI ctI), slI⟩)
    (cI : PySem.W.codeIn K cdI "_law_is" = true)
    (kI : PySem.W.keepIn K (.ref fI) = true)
    (aL : PySem.W.nsIn K mainGlobals "_law_lowest" = some (some (.ref fL)))
    (lL : K.lookup fL = some ⟨ocL, odL, .func (PySem.W.fnOf "_law_lowest" "_law_lowest" (defArgs sLowest) (defBody sLowest) (defScope sLowest) .none kVL dcL pmL anL cdL ctL), slL⟩)
    (cL : PySem.W.codeIn K cdL "_law_lowest" = true)
    (kL : PySem.W.keepIn K (.ref fL) = true)
    (aF : PySem.W.nsIn K mainGlobals "_law_fraction" = some (some (.ref fF)))
    (lF : K.lookup fF = some ⟨ocF, odF, .func (PySem.W.fnOf "_law_fraction" "_law_fraction" (defArgs sFrac) (defBody sFrac) (defScope sFrac) .none kVF dcF pmF anF cdF ctF), slF⟩)
    (cF : PySem.W.codeIn K cdF "_law_fraction" = true)
    (kF : PySem.W.keepIn K (.ref fF) = true)
    (aRf : PySem.W.nsIn K mainGlobals "_law_refused" = some (some (.ref fRf)))
    (lRf : K.lookup fRf = some ⟨ocRf, odRf, .func (PySem.W.fnOf "_law_refused" "_law_refused" (defArgs sRefused) (defBody sRefused) (defScope sRefused) .none kVRf dcRf pmRf anRf cdRf ctRf), slRf⟩)
    (cRf : PySem.W.codeIn K cdRf "_law_refused" = true)
    (kRf : PySem.W.keepIn K (.ref fRf) = true)
    (aMs : PySem.W.nsIn K mainGlobals "_law_miss" = some (some (.ref fMs)))
    (lMs : K.lookup fMs = some ⟨ocMs, odMs, .func (PySem.W.fnOf "_law_miss" "_law_miss" (defArgs sMiss) (defBody sMiss) (defScope sMiss) .none kVMs dcMs pmMs anMs cdMs ctMs), slMs⟩)
    (cMs : PySem.W.codeIn K cdMs "_law_miss" = true)
    (kMs : PySem.W.keepIn K (.ref fMs) = true)
    (aZ : PySem.W.nsIn K mainGlobals "law" = some (some (.ref fZ)))
    (lZ : K.lookup fZ = some ⟨ocZ, odZ, .func (PySem.W.fnOf "law" "law" (defArgs sLaw) (defBody sLaw) (defScope sLaw) .none kVZ dcZ pmZ anZ cdZ ctZ), slZ⟩)
    (cZ : PySem.W.codeIn K cdZ "law" = true)
    (kZ : PySem.W.keepIn K (.ref fZ) = true)
    (xCI : K.lookup CI = some (excClassObj xnm xq CI xN xbs [.ref CF, .type "ValueError", .type "Exception", .type "BaseException", .type "object"] true xsn xsub xab xcol xdd xm0 xm1 xm2 xm3 xm5 "ValueError.__new__"))
    (saI : PySem.W.findIn K (.ref CI) "__setattr__" = some (some (.builtin "object.__setattr__")))
    (exI : PySem.W.subIn K (.ref CI) (.type "BaseException") = some true)
    (tyI : PySem.W.typeIn K (.ref CI) = some (.type "type"))
    (kpI : PySem.W.keepIn K (.ref CI) = true)
    (noI : PySem.W.findIn K (.ref CI) "value" = some none)
    (pg : PySem.W.plainGet K C Str.empty = true)
    (hd : PySem.W.hasDictIn K C = true)
    (po : PySem.W.plainOver K C = true)
    (sa : PySem.W.findIn K (.ref C) "__setattr__" = some (some (.builtin "object.__setattr__")))
    (mk : PySem.W.makesIn K C = true)
    (kc : PySem.W.keepIn K (.ref C) = true)
    (nT : PySem.W.findIn K (.ref C) "top" = some none)
    (nB : PySem.W.findIn K (.ref C) "bottom" = some none)
    (icA : PySem.W.findIn K (.ref C) "__class__" = some (some (.builtin "object.__class__")))
    (icN : PySem.W.specialIn K (.builtin "object.__class__") "__get__" = some (some (.builtin "getset_descriptor.__get__")))
    (icT : PySem.W.takesIn K (.builtin "object.__class__") = some true)
    (icM : PySem.W.mroIn K C (.type "object") = some true)
    (icE : PySem.W.kitOne K (.ref C) (.ref C) = some true)
    (gG : PySem.W.nsIn K mainGlobals "gcd" = some (some (.builtin "math.gcd")))
    (egA : PySem.W.findIn K (.ref CI) "__getattribute__" = some (some (.builtin "BaseException.__getattribute__")))
    (egG : PySem.W.findIn K (.ref CI) "__getattr__" = some none)
    (ehD : PySem.W.hasDictIn K CI = true)
    (ecA : PySem.W.findIn K (.ref CI) "__class__" = some (some (.builtin "object.__class__")))
    (ecM : PySem.W.mroIn K CI (.type "object") = some true)
    (esS : PySem.W.subIn K (.ref CI) (.ref CI) = some true)
    (z_isinstance : PySem.W.nsIn K mainGlobals "isinstance" = some none)
    (z_int : PySem.W.nsIn K mainGlobals "int" = some none)
    (z_bool : PySem.W.nsIn K mainGlobals "bool" = some none)
    (z_len : PySem.W.nsIn K mainGlobals "len" = some none)
    (z_list : PySem.W.nsIn K mainGlobals "list" = some none)
    (z_range : PySem.W.nsIn K mainGlobals "range" = some none)
    (z_abs : PySem.W.nsIn K mainGlobals "abs" = some none)
    (z_str : PySem.W.nsIn K mainGlobals "str" = some none)
    (z_repr : PySem.W.nsIn K mainGlobals "repr" = some none)
    (z_divmod : PySem.W.nsIn K mainGlobals "divmod" = some none) :
    ∃ fd : FuncData, (∀ (s : Shared) (v : Value), BindsTo s fd ⟨[v], []⟩ [("_law_script", v)]) ∧ ∀ base : Heap, K.In base → base.Ns mainGlobals mg → FnOk l.prog w K mg base CX0 8 fa fd ["_law_script"] (spLaw K) := by
  have e := hfa.symm.trans (PySem.W.mg_of X G aZ)
  cases e
  have FW := fun_mk (st := sWhole) lW cW kW
  have bW := FW.binds (ps := ["value"]) fun _ _ _ _ _ _ us hl => match us, hl with | [_], _ => rfl
  have FE := fun_mk (st := sEI) lE cE kE
  have bE := FE.binds (ps := ["self", "value"]) fun _ _ _ _ _ _ us hl => match us, hl with | [_, _], _ => rfl
  have FQ : FunD K "__init__" "Ratio.__init__" (defArgs sInit) (defBody sInit) (defScope sInit) [.int 1] [] fQ _ := ⟨⟨ocQ, odQ, _, kVQ, dcQ, pmQ, anQ, cdQ, ctQ, slQ, rfl, lQ, cQ, .inr ⟨by simp, DQ, _, [.int 1 tQ], dnnQ, rfl, dQ, rfl, .cons ⟨tQ, rfl⟩ .nil⟩, .inl rfl⟩, kQ⟩
  obtain ⟨ds0, v0, bQ⟩ := FQ.binds1 (ps := ["self", "top", "bottom"]) 3 1 (by simp) rfl fun T kV doc pm an cdv ct us its h1 h2 => match us, its, h1, h2 with | [_, _, _], [_], _, _ => ⟨_, rfl, rfl⟩
  obtain ⟨ds, vQ1, bQ1⟩ := FQ.binds1 (ps := ["self", "top", "bottom"]) 2 0 (by simp) rfl fun T kV doc pm an cdv ct us its h1 h2 => match us, its, h1, h2 with | [_, _], [_], _, _ => ⟨_, rfl, rfl⟩
  cases v0
  have FS := fun_mk (st := sStr) lS cS kS
  have bS := FS.binds (ps := ["self"]) fun _ _ _ _ _ _ us hl => match us, hl with | [_], _ => rfl
  have FRp := fun_mk (st := sRepr) lRp cRp kRp
  have bRp := FRp.binds (ps := ["self"]) fun _ _ _ _ _ _ us hl => match us, hl with | [_], _ => rfl
  have FRd := fun_mk (st := sRead) lRd cRd kRd
  have bRd := FRd.binds (ps := ["text"]) fun _ _ _ _ _ _ us hl => match us, hl with | [_], _ => rfl
  have FWn := fun_mk (st := sWritten) lWn cWn kWn
  have bWn := FWn.binds (ps := ["number"]) fun _ _ _ _ _ _ us hl => match us, hl with | [_], _ => rfl
  have FD := fun_mk (st := sDigits) lD cD kD
  have bD := FD.binds (ps := ["text"]) fun _ _ _ _ _ _ us hl => match us, hl with | [_], _ => rfl
  have FB := fun_mk (st := sBag) lB cB kB
  have bB := FB.binds (ps := ["_law_script"]) fun _ _ _ _ _ _ us hl => match us, hl with | [_], _ => rfl
  have FT := fun_mk (st := sTake) lT cT kT
  have bT := FT.binds (ps := ["_law_bag_here", "_law_size"]) fun _ _ _ _ _ _ us hl => match us, hl with | [_, _], _ => rfl
  have FN := fun_mk (st := sInt) lN cN kN
  have bN := FN.binds (ps := ["_law_actual"]) fun _ _ _ _ _ _ us hl => match us, hl with | [_], _ => rfl
  have FI := fun_mk (st := sIs) lI cI kI
  have bI := FI.binds (ps := ["_law_actual", "_law_due"]) fun _ _ _ _ _ _ us hl => match us, hl with | [_, _], _ => rfl
  have FL := fun_mk (st := sLowest) lL cL kL
  have bL := FL.binds (ps := ["_law_top", "_law_bottom"]) fun _ _ _ _ _ _ us hl => match us, hl with | [_, _], _ => rfl
  have FF := fun_mk (st := sFrac) lF cF kF
  have bF := FF.binds (ps := ["_law_bag_here"]) fun _ _ _ _ _ _ us hl => match us, hl with | [_], _ => rfl
  have FRf := fun_mk (st := sRefused) lRf cRf kRf
  have bRf := FRf.binds (ps := ["_law_text"]) fun _ _ _ _ _ _ us hl => match us, hl with | [_], _ => rfl
  have FMs := fun_mk (st := sMiss) lMs cMs kMs
  have bMs := FMs.binds (ps := ["_law_choice", "_law_a", "_law_text"]) fun _ _ _ _ _ _ us hl => match us, hl with | [_, _, _], _ => rfl
  have FZ := fun_mk (st := sLaw) lZ cZ kZ
  have TO : OexC K CI := ⟨⟨xnm, xq, xN, xbs, _, xsn, xsub, xab, xcol, xdd, xm0, xm1, xm2, xm3, xm5, xCI, (by show PySem.HandSPX.refsVE [.type "ValueError", .type "Exception", .type "BaseException", .type "object"] = true; decide +kernel)⟩, saI, exI, tyI, kpI⟩
  have TR : TxR K mg C CI fE fW := ⟨⟨pg, hd, po, sa⟩, nT, nB, PySem.W.mg_of X G aC, ⟨PySem.W.mg_of X G aCI, TO, aE, tE⟩, PySem.W.mg_of X G aW, kW, PySem.W.mg_of X G gG⟩
  have IC : C8.InsC K C := ⟨⟨pg, hd, po, sa⟩, icA, icN, icT, icM, icE⟩
  have MQ : Mk K C fQ := ⟨mk, aQ, iQ, kc⟩
  have mz : ∀ {x : Str}, PySem.W.nsIn K mainGlobals x = some none → mg x = none := fun z => PySem.W.mg_none_of X G z
  have TL : TxL4 K mg fB fT fI fN fL fF fRf fMs := ⟨⟨PySem.W.mg_of X G aB, kB⟩, ⟨PySem.W.mg_of X G aT, kT⟩, ⟨PySem.W.mg_of X G aI, kI⟩, ⟨PySem.W.mg_of X G aN, kN⟩, ⟨PySem.W.mg_of X G aL, kL⟩, ⟨PySem.W.mg_of X G aF, kF⟩, ⟨PySem.W.mg_of X G aRf, kRf⟩, ⟨PySem.W.mg_of X G aMs, kMs⟩⟩
  have TN : TxN K mg CI := ⟨PySem.W.exm_ref exI ehD tyI esS, ⟨egA, egG, exI, ehD, ecA, icN, icT, ecM⟩, ⟨egA, egG, exI, ehD⟩, noI⟩
  have CR : ClX.CRead K C (.type "type") := ⟨crd, cga⟩
  have hC : ClX.CVal K C (.type "type") "MOST_TEXT" (.int 100) (.int 100 tM) := ⟨cMT, ⟨tM, rfl⟩⟩
  have SM : SMet K C (.type "type") "read" pR fRd := ⟨cRD, ⟨_, rRD⟩, kRd⟩
  exact ⟨PySem.W.fnOf "law" "law" (defArgs sLaw) (defBody sLaw) (defScope sLaw) .none kVZ dcZ pmZ anZ cdZ ctZ, fun s v => .of_eq rfl, fun base _ _ => by
    have GE : FnOk l.prog w K mg base CX0 1 fE _ ["self", "value"] (spEx1 CI "value") := ok_ei FE TO noI
    have GW : FnOk l.prog w K mg base CX0 1 fW _ ["value"] (spWhole K) := ok_whole FW (mz z_isinstance) (mz z_int) (mz z_bool)
    have GQ := ok_init FQ TR GE bE GW bW
    have GN : FnOk l.prog w K mg base CX0 1 fN _ ["_law_actual"] (spWhole K) := ok_int FN (mz z_isinstance) (mz z_int) (mz z_bool)
    have GT : FnOk l.prog w K mg base CX0 1 fT _ ["_law_bag_here", "_law_size"] spTake := ok_take FT (mz z_len) (mz z_int)
    have GL : FnOk l.prog w K mg base CX0 1 fL _ ["_law_top", "_law_bottom"] spLowest := ok_lowest FL (mz z_abs) (mz z_range)
    have GWn : FnOk l.prog w K mg base CX0 1 fWn _ ["number"] spWritten := ok_written FWn (mz z_abs) (mz z_divmod)
    have GD : FnOk l.prog w K mg base CX0 1 fDg _ ["text"] spDigits := ok_digits FD
    have GS := ok_str FS ⟨pg, hd, po, sa⟩ nT nB ⟨PySem.W.mg_of X G aWn, kWn⟩ GWn bWn
    have GRp := ok_repr FRp ⟨pg, hd, po, sa⟩ nT nB ⟨PySem.W.mg_of X G aWn, kWn⟩ GWn bWn
    have GRd := ok_read FRd TR CR ⟨_, hC⟩ (mz z_isinstance) (mz z_str) (mz z_len) (mz z_int) GE bE ⟨PySem.W.mg_of X G aD, kD⟩ GD bD MQ GQ bQ aS iS GS bS
    have GRf := ok_refused FRf TR TN CR SM GRd bRd
    exact ok_law FZ TR TL MQ (mz z_str) (mz z_repr) (mz z_len) (mz z_int) CR hC SM (ok_bag FB (mz z_list)) bB GT bT (ok_isR FI TR IC (mz z_isinstance) GN bN (PySem.W.mg_of X G aN) kN) bI (ok_frac FF ⟨PySem.W.mg_of X G aT, kT⟩ ⟨PySem.W.mg_of X G aL, kL⟩ GT bT GL bL) bF GRf bRf (ok_miss FMs (mz z_str)) bMs GQ bQ GRd bRd GS bS aS iS GRp bRp aRp iRp⟩
theorem walk {l : PySem.W.OpenLaw} {q : Program} {loose : List Str} {XP : (Str → Option Value) → Heap → Prop} {YP : World → Heap → Prop} {d : DefRec} {K : Params → PySem.W.Frag} (hn : l.most = some 63) (hdf : d.params.defaults = [])
    (hY : ∀ (w : World) (h : Heap), YP w h → (K w.params).In h)
    (F : ∀ (w : World) (mg : Str → Option Value) (fa : Addr) (h : Heap), (K w.params).In h → h.Ns mainGlobals mg → mg d.name = some (.ref fa) →
      ∃ fd : FuncData, (∀ (s : Shared) (u : Value), BindsTo s fd ⟨[u], []⟩ [("_law_script", u)]) ∧ ∀ base : Heap, (K w.params).In base → base.Ns mainGlobals mg → FnOk l.prog w (K w.params) mg base CX0 8 fa fd ["_law_script"] (spLaw (K w.params))) :
    PySem.W.WalkO q loose XP YP l.row.toRowW d [] (fun f vs => PySem.call f vs) :=
  L2.walk_of (n := 63) (k := 8) (x := "_law_script") (CX := fun _ => CX0) (sp := fun w => spLaw (K w.params)) hn (by decide) hdf ⟨rfl, by decide, by decide⟩ hY F (fun _ _ a ns hl _ hS => ⟨a, ns, rfl, hS, hl, fun _ => rfl⟩) fun _ _ _ _ _ z => z
end Toy
open PySem PySem.W PyProof.Rows
set_option maxRecDepth 100000 in
set_option maxHeartbeats 0 in
theorem PySem.Challenge.cw_fontgap_k04_ratio_written_and_read_holds : PySem.Challenge.rw_fontgap_k04_ratio_written_and_read.Holds := by
  w_on; o_law; k_head; (case hw => w_witness2)
  k_fill
  refine Toy.walk (l := PySem.Challenge.rw_fontgap_k04_ratio_written_and_read) rfl rfl (fun w h Y => PySem.W.kIn_of Y) ?F
  case F =>
    intro w mg fa h KX G hmg
    refine' Toy.all_mk KX G hmg ?aCI ?aCF ?aC ?aW ?lW ?cW ?kW ?aE ?tE ?lE ?cE ?kE ?aQ ?iQ ?lQ ?cQ ?kQ ?dQ ?aS ?iS ?lS ?cS ?kS ?aRp ?iRp ?lRp ?cRp ?kRp ?crd ?cga ?cMT ?cRD ?rRD ?lRd ?cRd ?kRd ?aWn ?lWn ?cWn ?kWn ?aD ?lD ?cD ?kD ?aB ?lB ?cB ?kB ?aT ?lT ?cT ?kT ?aN ?lN ?cN ?kN ?aI ?lI ?cI ?kI ?aL ?lL ?cL ?kL ?aF ?lF ?cF ?kF ?aRf ?lRf ?cRf ?kRf ?aMs ?lMs ?cMs ?kMs ?aZ ?lZ ?cZ ?kZ ?xCI ?saI ?exI ?tyI ?kpI ?noI ?pg ?hd ?po ?sa ?mk ?kc ?nT ?nB ?icA ?icN ?icT ?icM ?icE ?gG ?egA ?egG ?ehD ?ecA ?ecM ?esS ?z_isinstance ?z_int ?z_bool ?z_len ?z_list ?z_range ?z_abs ?z_str ?z_repr ?z_divmod
    (case aCI => k_is)
    (case aCF => k_is)
    (case aC => k_is)
    (case aW => k_is)
    (case lW => k_is)
    (case cW => k_is)
    (case kW => k_is)
    (case aE => k_is)
    (case tE => k_is)
    (case lE => k_is)
    (case cE => k_is)
    (case kE => k_is)
    (case aQ => k_is)
    (case iQ => k_is)
    (case lQ => k_is)
    (case cQ => k_is)
    (case kQ => k_is)
    (case dQ => k_is)
    (case aS => k_is)
    (case iS => k_is)
    (case lS => k_is)
    (case cS => k_is)
    (case kS => k_is)
    (case aRp => k_is)
    (case iRp => k_is)
    (case lRp => k_is)
    (case cRp => k_is)
    (case kRp => k_is)
    (case crd => k_is)
    (case cga => k_is)
    (case cMT => k_is)
    (case cRD => k_is)
    (case rRD => k_is)
    (case lRd => k_is)
    (case cRd => k_is)
    (case kRd => k_is)
    (case aWn => k_is)
    (case lWn => k_is)
    (case cWn => k_is)
    (case kWn => k_is)
    (case aD => k_is)
    (case lD => k_is)
    (case cD => k_is)
    (case kD => k_is)
    (case aB => k_is)
    (case lB => k_is)
    (case cB => k_is)
    (case kB => k_is)
    (case aT => k_is)
    (case lT => k_is)
    (case cT => k_is)
    (case kT => k_is)
    (case aN => k_is)
    (case lN => k_is)
    (case cN => k_is)
    (case kN => k_is)
    (case aI => k_is)
    (case lI => k_is)
    (case cI => k_is)
    (case kI => k_is)
    (case aL => k_is)
    (case lL => k_is)
    (case cL => k_is)
    (case kL => k_is)
    (case aF => k_is)
    (case lF => k_is)
    (case cF => k_is)
    (case kF => k_is)
    (case aRf => k_is)
    (case lRf => k_is)
    (case cRf => k_is)
    (case kRf => k_is)
    (case aMs => k_is)
    (case lMs => k_is)
    (case cMs => k_is)
    (case kMs => k_is)
    (case aZ => k_is)
    (case lZ => k_is)
    (case cZ => k_is)
    (case kZ => k_is)
    (case xCI => k_is)
    (case saI => k_is)
    (case exI => k_is)
    (case tyI => k_is)
    (case kpI => k_is)
    (case noI => k_is)
    (case pg => k_is)
    (case hd => k_is)
    (case po => k_is)
    (case sa => k_is)
    (case mk => k_is)
    (case kc => k_is)
    (case nT => k_is)
    (case nB => k_is)
    (case icA => k_is)
    (case icN => k_is)
    (case icT => k_is)
    (case icM => k_is)
    (case icE => kit_is)
    (case gG => k_is)
    (case egA => k_is)
    (case egG => k_is)
    (case ehD => k_is)
    (case ecA => k_is)
    (case ecM => k_is)
    (case esS => k_is)
    (case z_isinstance => k_is)
    (case z_int => k_is)
    (case z_bool => k_is)
    (case z_len => k_is)
    (case z_list => k_is)
    (case z_range => k_is)
    (case z_abs => k_is)
    (case z_str => k_is)
    (case z_repr => k_is)
    (case z_divmod => k_is)
