import PyProof.Rows.All
import Wide.All
import OpenK.AllK
import Wide.FinOn
import HandS.ForMost
import HandS.Exc
import HandS.TryOnly
import HandS.WordsExc
import HandS.Wide
import HandS.Gcd
import HandS.IsInst
import HandS.Codes
import HandS.Defaults
import HandS.ExcInit
import HandS.ExcField
import HandS.ExcIs
import HandS.TryMany
import KE.KExcIs
import KE.KOpsOwn
import KE.SortKeyHeap
import KE.SortData
import HandS.SortKw
import HandS.RaiseMore
import HandS.DictTup
import HandS.Conv
import HandS.Style
import HandS.Flow
import HandS.StrMore
import HandS.Property
import KE.KxField
import HandS.WideBits
import HandS.FStr
import KE.KCallOwn
import HandS.ClsMeth
import HandS.Comp
import HandS.Iter
import HandS.Walk
import PySem.Challenge.RW_fontgap_k19_width_table_columns
set_option Elab.async false
set_option maxRecDepth 100000
set_option maxHeartbeats 4000000
set_option exponentiation.threshold 2000
namespace Toy
open PySem L2
def top (i : Nat) : Stmt := PySem.Challenge.pw_fontgap_k19_width_table_columns.main.body.getD i (.Pass ⟨0, 0, 0, 0⟩)
/-! ### the bag of draws -/
/-- a bag stands at b: the script's ints at l, the place, the rest, the state, the count -/
def BagAt (H : Hp) (b l : Addr) : Prop := ∃ (ns : List Int) (p q r c : Int), H b = some (.lst [.ref l, .int p, .int q, .int r, .int c]) ∧ H l = some (.lst (ns.map V.int)) ∧ 0 ≤ p ∧ 0 ≤ r ∧ r < 2147483647
def Keep (b : Addr) (H H' : Hp) : Prop := ∀ a o, H a = some o → a ≠ b → H' a = some o
def spBag (K : PySem.W.Frag) : Sp := fun vs H Q _ => ∃ (a : Addr) (ns : List Int), vs = [.ref a] ∧ SqL K H a (ns.map V.int) ∧ ∀ b l H', BagAt H' b l → H b = none → Same H H' → Q (.ref b) H'
def spTake : Sp := fun vs H Q _ => ∃ (b l : Addr) (n : Int), vs = [.ref b, .int n] ∧ 0 < n ∧ n.natAbs < 2 ^ 300 ∧ BagAt H b l ∧
  ∀ (d : Int) H', 0 ≤ d → d < n → BagAt H' b l → Keep b H H' → Q (.int d) H'
abbrev sBag : Stmt := top 22
abbrev sTake : Stmt := top 23
theorem cut63 (ns : List Int) : cutV (ns.map V.int) none (some 63) = ((ns.take (HT.sIx (ns.map V.int).length (ns.map V.int).length (some 63) - HT.sIx (ns.map V.int).length 0 none)).drop 0).map V.int ∨ True := .inr trivial
theorem cut_map (ns : List Int) (lo hi : Option Int) : ∃ ms : List Int, cutV (ns.map V.int) lo hi = ms.map V.int := by
  unfold cutV
  rw [← List.map_drop, ← List.map_take]
  exact ⟨_, rfl⟩
section
variable {P : Program} {w : World} {K : PySem.W.Frag} {mg : Str → Option Value} {base : Heap}
theorem scBag : FnScope ["_law_script"] ["_law_script"] (defScope sBag) := ⟨rfl, rfl, rfl, by decide +kernel, rfl, by decide +kernel, by decide +kernel⟩
theorem ok_bag {f : Addr} {fd : FuncData} (F : Fun K "_law_bag" "_law_bag" sBag f fd) (mL : mg "list" = none) : FnOk P w K mg base CX0 1 f fd ["_law_script"] (spBag K) := by
  refine F.ok scBag (fun vs H Q E h => ?_) (fun cdv A outer s H vs Q E hr h => ?_)
  · obtain ⟨a, ns, rfl, _⟩ := h
    rfl
  · obtain ⟨a, ns, rfl, hS, k⟩ := h
    refine ⟨_, pss_one (ps_ret (pe_lst (pa_cons (pe_callTy call_list_of (by rfl) mL (by decide +kernel) (pa_cons (pe_slice sl_list (pv 0) po_none (po_some pe_int)) pa_nil)) (pa_cons pe_int (pa_cons pe_int (pa_cons pe_int (pa_cons pe_int pa_nil))))))), ?_⟩
    refine ⟨_, rfl, _, rfl, a, _, rfl, hS, fun p np => ?_⟩
    obtain ⟨ms, em⟩ := cut_map ns none (some 63)
    refine ⟨p, _, rfl, .inl (SqL.of upd_same), fun l nl => ?_⟩
    refine ⟨by show 5 ≤ sizeLine; decide, fun b nb => ?_⟩
    have hlp : l ≠ p := fun z => by rw [z, upd_same] at nl; cases nl
    have hbl : l ≠ b := fun z => by rw [← z, upd_same] at nb; cases nb
    have hbp : p ≠ b := fun z => by rw [← z, upd_ne (Ne.symm hlp), upd_same] at nb; cases nb
    refine k b l _ ⟨ms, 0, 0, 7, 0, upd_same, ?_, by decide, by decide, by decide⟩ ?_ ?_
    · rw [upd_ne hbl, upd_same, em]
    · rw [upd_ne (Ne.symm hbl), upd_ne (Ne.symm hbp)] at nb
      exact nb
    · intro c o e
      have hcp : c ≠ p := ne_of_none e np
      have hcl : c ≠ l := fun z => by rw [z] at e; rw [upd_ne hlp] at nl; rw [nl] at e; cases e
      have hcb : c ≠ b := fun z => by rw [z] at e; rw [upd_ne (Ne.symm hbl), upd_ne (Ne.symm hbp)] at nb; rw [nb] at e; cases e
      rw [upd_ne hcb, upd_ne hcl, upd_ne hcp]
      exact e
end
section
variable {P : Program} {w : World} {K : PySem.W.Frag} {mg : Str → Option Value} {base : Heap}
theorem scTake : FnScope ["_law_bag_here", "_law_size", "_law_digit", "_law_cell"] ["_law_bag_here", "_law_size"] (defScope sTake) := ⟨rfl, rfl, rfl, by decide +kernel, rfl, by decide +kernel, by decide +kernel⟩
theorem fm_nn (a : Int) {n : Int} (h : 0 < n) : 0 ≤ a.fmod n ∧ a.fmod n < n := by
  rw [Int.fmod_eq_emod_of_nonneg _ (by omega)]
  exact ⟨Int.emod_nonneg _ (by omega), Int.emod_lt_of_pos _ h⟩
theorem bag_keep {H : Hp} {b : Addr} {o : HO} : Keep b H (upd H b o) := fun a u e h => by rw [upd_ne h]; exact e
theorem Keep.trans {b : Addr} {H H1 H2 : Hp} (a : Keep b H H1) (c : Keep b H1 H2) : Keep b H H2 := fun x o e h => c x o (a x o e h) h
theorem Keep.refl {b : Addr} {H : Hp} : Keep b H H := fun _ _ e _ => e
theorem ok_take {f : Addr} {fd : FuncData} (F : Fun K "_law_take" "_law_take" sTake f fd) (mL : mg "len" = none) (mI : mg "int" = none) : FnOk P w K mg base CX0 1 f fd ["_law_bag_here", "_law_size"] spTake := by
  refine F.ok scTake (fun vs H Q E h => ?_) (fun cdv A outer s H vs Q E hr h => ?_)
  · obtain ⟨b, l, n, rfl, _⟩ := h
    rfl
  · obtain ⟨b, l, n, rfl, n0, nW, ⟨ns, p, q, r, c, hb, hl, p0, r0, r1⟩, k⟩ := h
    have wd : CDivW 0 n := wide_div n0 nW (by decide) (by decide)
    have nn : n ≠ 0 := by omega
    refine ⟨_, pss_cons (ps_if (pt_cmpR op_ge (pe_ix ix_list (pv 0) pe_int (fun _ _ => rfl)) (pe_op op_pow pe_int pe_int) (nomark _))
        (pss_cons (ps_set (i := 2) scTake.nd rfl (Or.inl rfl) (pe_op op_modN (pe_callTy call_int1 (by rfl) mI (by decide +kernel) (pa_cons (pe_ix ix_list (pv 0) pe_int (fun _ _ => rfl)) pa_nil)) (pv 1)))
        (pss_cons (ps_asg (pe_op op_fdivW (pe_ix ix_list (pv 0) pe_int (fun _ _ => rfl)) (pv 1)) (pg_sub (pv 0) pe_int set_list))
        (pss_one (ps_ret (pv 2))))) pss_nil)
      (pss_cons (ps_set (i := 3) scTake.nd rfl (Or.inl rfl) pe_int)
      (C8.pss_cut (ps_if (pt_cmpR op_lt (pe_ix ix_list (pv 0) pe_int (fun _ _ => rfl)) (pe_callB call_len_seq (by rfl) mL PySem.boot_len (pa_cons (pe_ix ix_list (pv 0) pe_int (fun _ _ => rfl)) pa_nil)) (nomark _))
        (pss_cons (ps_set (i := 3) scTake.nd rfl (Or.inl rfl) (pe_ix ix_list (pe_ix ix_list (pv 0) pe_int (fun _ _ => rfl)) (pe_ix ix_list (pv 0) pe_int (fun _ _ => rfl)) (fun _ _ => rfl)))
        (pss_one (ps_asg (pe_op op_add (pe_ix ix_list (pv 0) pe_int (fun _ _ => rfl)) pe_int) (pg_sub (pv 0) pe_int set_list)))) pss_nil)
      (pss_cons (ps_if (pt_cmpR op_ge (pv 3) (pe_op op_pow pe_int pe_int) (nomark _))
        (pss_cons (ps_asg (pe_op op_fdivW (pv 3) (pv 1)) (pg_sub (pv 0) pe_int set_list))
        (pss_one (ps_ret (pe_op op_modN (pe_callTy call_int1 (by rfl) mI (by decide +kernel) (pa_cons (pv 3) pa_nil)) (pv 1))))) pss_nil)
      (pss_cons (ps_asg (pe_op op_add (pe_ix ix_list (pv 0) pe_int (fun _ _ => rfl)) pe_int) (pg_sub (pv 0) pe_int set_list))
      (pss_cons (ps_asg (pe_op op_mod (pe_callTy call_int1 (by rfl) mI (by decide +kernel) (pa_cons (pe_op op_add (pe_op op_add (pe_op op_mul (pe_ix ix_list (pv 0) pe_int (fun _ _ => rfl)) pe_int) (pv 3)) (pe_op op_mul (pe_ix ix_list (pv 0) pe_int (fun _ _ => rfl)) pe_int)) pa_nil)) pe_int) (pg_sub (pv 0) pe_int set_list))
      (pss_one (ps_ret (pe_op op_modN (pe_op op_fdiv (pe_op op_mod (pe_callTy call_int1 (by rfl) mI (by decide +kernel) (pa_cons (pe_op op_mul (pe_ix ix_list (pv 0) pe_int (fun _ _ => rfl)) (pe_ix ix_list (pv 0) pe_int (fun _ _ => rfl))) pa_nil)) pe_int) pe_int) (pv 1))))))))), ?_⟩
    have at2 : ∀ (a0 a1 a2 a3 a4 : V), atI [a0, a1, a2, a3, a4] 2 = some a2 := fun _ _ _ _ _ => rfl
    -- if bag[2] >= 10 ** 18
    refine ⟨_, rfl, b, _, _, _, rfl, rfl, SqL.of hb, rfl, 10, 18, rfl, rfl, ⟨by decide, by decide, by decide⟩, _, _, rfl, rfl, _, rfl, ?_⟩
    refine ite2 (fun _ => ?_) (fun _ => ?_)
    · refine ⟨_, rfl, b, _, _, _, rfl, rfl, SqL.of hb, rfl, .inl ⟨_, rfl, ?_⟩⟩
      refine ⟨_, rfl, _, _, rfl, rfl, nn, ?_⟩
      refine ⟨_, rfl, b, _, _, _, rfl, rfl, SqL.of hb, rfl, _, rfl, _, _, rfl, rfl, ⟨wd.1, wd.2⟩, ?_⟩
      refine ⟨_, rfl, b, _, _, 2, rfl, rfl, hb, rfl, ?_⟩
      refine ⟨_, rfl, k _ _ (fm_nn _ n0).1 (fm_nn _ n0).2 ⟨ns, p, q / n, r, c, upd_same, ?_, p0, r0, r1⟩ bag_keep⟩
      rw [upd_ne (ne_of hl hb (by intro z; cases ns with | nil => cases z | cons a t => cases z))]
      exact hl
    · -- cell = 0; the join
      refine ⟨fun σ' H' => ∃ (p' cell : Int) (v : Option V), σ' = [some (.ref b), some (.int n), v, some (.int cell)] ∧ 0 ≤ p' ∧ H' b = some (.lst [.ref l, .int p', .int q, .int r, .int c]) ∧ H' l = some (.lst (ns.map V.int)) ∧ Keep b H H', ?_, ?_⟩
      · refine ⟨_, rfl, b, _, _, _, rfl, rfl, SqL.of hb, rfl, _, rfl, b, _, _, _, rfl, rfl, SqL.of hb, rfl, l, _, rfl, .inl (SqL.of hl), _, _, rfl, rfl, _, rfl, ?_⟩
        refine ite2 (fun hp => ?_) (fun _ => ?_)
        · have hp' : p < ((ns.map V.int).length : Int) := of_decide_eq_true hp
          rw [List.length_map] at hp'
          obtain ⟨m, rfl⟩ : ∃ m : Nat, p = (m : Int) := ⟨p.toNat, by omega⟩
          have hm : m < ns.length := by omega
          refine ⟨_, rfl, b, _, _, _, rfl, rfl, SqL.of hb, rfl, _, rfl, b, _, _, _, rfl, rfl, SqL.of hb, rfl, l, _, _, .int ns[m], rfl, rfl, SqL.of hl, atI_nat (by rw [List.getElem?_map, List.getElem?_eq_getElem hm]; rfl), ?_⟩
          refine ⟨_, rfl, b, _, _, _, rfl, rfl, SqL.of hb, rfl, _, _, rfl, rfl, ?_⟩
          refine ⟨_, rfl, b, _, _, 1, rfl, rfl, hb, rfl, ?_⟩
          refine ⟨(m : Int) + 1, ns[m], none, rfl, by omega, upd_same, ?_, bag_keep⟩
          rw [upd_ne (ne_of hl hb (by intro z; cases ns with | nil => cases z | cons a t => cases z))]
          exact hl
        · exact ⟨p, 0, none, rfl, p0, hb, hl, Keep.refl⟩
      · rintro σ' H' ⟨p', cell, v, rfl, p0', hb', hl', kp⟩
        have hbl : ∀ o, upd H' b o l = some (.lst (ns.map V.int)) := fun o => by
          rw [upd_ne (ne_of hl' hb' (by intro z; cases ns with | nil => cases z | cons a t => cases z))]
          exact hl'
        refine ⟨_, rfl, 10, 18, rfl, rfl, ⟨by decide, by decide, by decide⟩, _, _, rfl, rfl, _, rfl, ?_⟩
        refine ite2 (fun _ => ?_) (fun _ => ?_)
        · refine ⟨_, rfl, _, rfl, _, _, rfl, rfl, ⟨wd.1, wd.2⟩, ?_⟩
          refine ⟨_, rfl, b, _, _, 2, rfl, rfl, hb', rfl, ?_⟩
          refine ⟨_, rfl, .inl ⟨_, rfl, ?_⟩⟩
          refine ⟨_, rfl, _, _, rfl, rfl, nn, ?_⟩
          exact k _ _ (fm_nn _ n0).1 (fm_nn _ n0).2 ⟨ns, p', cell / n, r, c, upd_same, hbl _, p0', r0, r1⟩ (kp.trans bag_keep)
        · refine ⟨_, rfl, b, _, _, _, rfl, rfl, SqL.of hb', rfl, _, _, rfl, rfl, ?_⟩
          refine ⟨_, rfl, b, _, _, 4, rfl, rfl, hb', rfl, ?_⟩
          refine ⟨_, rfl, b, _, _, _, rfl, rfl, SqL.of upd_same, rfl, _, _, rfl, rfl, .inr (by decide), ?_⟩
          refine ⟨_, rfl, _, _, rfl, rfl, ?_⟩
          refine ⟨_, rfl, b, _, _, _, rfl, rfl, SqL.of upd_same, rfl, _, _, rfl, rfl, .inr (by decide), ?_⟩
          refine ⟨_, _, rfl, rfl, .inl ⟨_, rfl, ?_⟩⟩
          refine ⟨_, _, rfl, rfl, (by show (0 : Int) < 2147483647; decide), ?_⟩
          refine ⟨_, rfl, b, _, _, 3, rfl, rfl, upd_same, rfl, ?_⟩
          have z0 : ∀ x : Int, 0 ≤ x % 2147483647 ∧ x % 2147483647 < 2147483647 := fun x => by omega
          generalize (r * 48271 + cell + (c + 1) * 69621 : Int) = x
          obtain ⟨y0, y1⟩ := z0 x
          refine ⟨_, rfl, b, _, _, _, rfl, rfl, SqL.of upd_same, rfl, _, rfl, b, _, _, _, rfl, rfl, SqL.of upd_same, rfl, _, _, rfl, rfl, .inl ⟨by omega, by omega⟩, .inl ⟨_, rfl, ?_⟩⟩
          refine ⟨_, _, rfl, rfl, (by show (0 : Int) < 2147483629; decide), ?_⟩
          refine ⟨_, _, rfl, rfl, ⟨by decide, by decide⟩, ?_⟩
          refine ⟨_, rfl, _, _, rfl, rfl, nn, ?_⟩
          refine k _ _ (fm_nn _ n0).1 (fm_nn _ n0).2 ⟨ns, p', q, x % 2147483647, c + 1, upd_same, ?_, p0', y0, y1⟩ ((kp.trans bag_keep).trans bag_keep)
          rw [upd_upd]
          exact hbl _
end
/-! ### rules of my own -/
section
variable {X : Cx}
/-- // by any divisor but 0, below 2 ^ 9000 in size -/
def CDivX (_ j : Int) : Prop := j ≠ 0 ∧ j.natAbs.log2 < 9000
theorem op_fdivX : OpR X (binaryOp .FloorDiv) (rI CDivX fun i j => .int (i.fdiv j)) := opI fun i j _ _ _ _ _ hc q =>
  PyProof.Rows.floordiv_int hc.1 q (.inl (PyProof.noPylong_of_log2 hc.2))
theorem divx {i j : Int} {b : Nat} (h : j ≠ 0) (hb : j.natAbs < 2 ^ b) (h0 : 0 < b) (h9 : b ≤ 9000) : CDivX i j := ⟨h, Nat.lt_of_lt_of_le (PySem.Flt.log2_lt_of h0 hb) h9⟩
/-- C(e, ..) whose __init__ may raise, wished for at the caller's slots -/
def tMakeS (C : Addr) (sp : Sp) (dvs : List V) (E : St → XK) (t : TA) : TE := fun σ H Q => t σ H fun vs H1 => ∀ x dx, H1 x = none → H1 dx = none → dx ≠ x →
  sp (.ref x :: (vs ++ dvs)) (upd (upd H1 dx (.own x)) x (.ins C dx [])) (fun v H2 => v = .non ∧ Q (.ref x) H2) (E σ)
theorem pe_makeS {CX : CXT} {k : Nat} {f C : Addr} {fd : FuncData} {ps : List Str} {sp : Sp} {E : St → XK} {x : Str} {p pos : Pos} {e : Expr} {es : List Expr} {t : TA} {ds : List Value} {dvs : List V}
    (M : Mk X.K C f) (F : FnOk X.prog X.w X.K X.mg X.base CX k f fd ps sp) (hr : Room (k + 1) X.A) (hg : Gl X x) (hm : X.mg x = some (.ref C)) (hb : Binds X.K fd ps ds) (hd : Vals dvs ds) (hx : ∀ σ, PassesAt CX X σ (E σ))
    (ha : PA X (e :: es) t) (hdb : (x == ("__debug__" : Str)) = false := by decide) (he : starEach (e :: es) X.env = (false, eval e X.env) :: starEach es X.env := by rfl) (hpl : (backTo pos (starEach es X.env)).any (·.1) = false := by rfl) :
    PE X (.Call (.Name x p) (e :: es) [] pos) (tMakeS C sp dvs E t) := by
  refine ⟨fun pins s σ H Q I h => ?_⟩
  refine PySem.wpAny_Call_Name_kw (ld_glob I hg hm ?_ hdb)
  refine PySem.W.callWith_K (h₀ := X.base) I.ok.mod.kin M.kp (thn (ha.run pos pins s σ H _ I h) fun us s1 ⟨vs, H1, I1, r, q1⟩ => ⟨I1.kIn, ?_⟩) he hpl
  have hq := q1 (s1.heap.objs.size + 1) s1.heap.objs.size (I1.hok.fresh (Nat.le_succ _)) (I1.hok.fresh (Nat.le_refl _)) (Nat.ne_of_lt (Nat.lt_succ_self _))
  have I2 := Inv.made (C := C) I1
  have r2 : Vals (V.ref (s1.heap.objs.size + 1) :: (vs ++ dvs)) (Value.ref (s1.heap.objs.size + 1) :: (us ++ ds)) := .cons rfl (r.append hd)
  have hl : (Value.ref (s1.heap.objs.size + 1) :: us ++ ds).length = ps.length := by
    have e := r2.length
    rw [F.len _ _ _ _ hq] at e
    exact e.symm
  refine wpAny_call (make_map (f := f) I1.kIn M.makes M.init (beq_iff_eq.mp M.fn) (codeAny_mono (F.run _ X.stack _ _ ⟨Value.ref (s1.heap.objs.size + 1) :: us, []⟩ (Value.ref (s1.heap.objs.size + 1) :: (us ++ ds)) _ _ (E σ) (hr.make C us [])
    (I2.env0.make C us []) (hb _ (Value.ref (s1.heap.objs.size + 1) :: us) I2.kIn hl) r2 hq) fun r s' hq' => ?_))
  cases r with
  | error e => exact hx σ pins _ _ e s' I2 hq'
  | ok fl =>
    cases fl with
    | ret u =>
      obtain ⟨v, H', I3, rv, ev, q3⟩ := I2.after hq'
      subst ev
      exact ⟨rv, ⟨V.ref (s1.heap.objs.size + 1), H', I3, rfl, q3⟩⟩
    | next => exact False.elim hq'
    | brk => exact False.elim hq'
    | cont => exact False.elim hq'
end
/-! ### an own error with one field -/
theorem upd_exc {H : Hp} {a dx : Addr} {u1 u2 u3 o : HO} (ha : H a = none) (hd : dx ≠ a) : upd (del (upd (upd (upd H a u1) dx u2) a u3) a) dx o = upd H dx o := by
  funext b
  by_cases h1 : b = dx
  · rw [h1, upd_same, upd_same]
  · rw [upd_ne h1, upd_ne h1]
    by_cases h2 : b = a
    · rw [h2, del_same, ha]
    · rw [del_ne h2, upd_ne h2, upd_ne h1, upd_ne h2]
/-- C.__init__(self, y): self.f = y -/
def spEx1 (C : Addr) (f : Str) : Sp := fun vs H Q _ => ∃ (a : Addr) (y : V), vs = [.ref a, y] ∧ H a = some (exo a C none) ∧ ∀ dx, H dx = none → dx ≠ a → Q .non (upd (upd H dx (exd dx [(f, y)])) a (exo a C (some dx)))
theorem mkO1 {C : Addr} {f : Str} {ta : TA} {σ : St} {H : Hp} {Q : XK} (h : ta σ H fun vs H1 => ∃ y, vs = [y] ∧ ∀ d, H1 d = none → Q (.ref C) (some d) (upd H1 d (.xd [(f, y)]))) (hm : ∀ (P R : List V → Hp → Prop), (∀ vs H, P vs H → R vs H) → ta σ H P → ta σ H R) : tMkO C (spEx1 C f) [] ta σ H Q := by
  refine hm _ _ (fun vs H1 ⟨y, ev, k⟩ => ?_) h
  subst ev
  refine ⟨by show 1 ≤ 1000; decide, fun a na => ⟨a, y, rfl, upd_same, fun dx hdx nda => ⟨rfl, dx, [(f, y)], upd_same, ?_, ?_, ?_⟩⟩⟩
  · rw [upd_ne nda, upd_same]
  · rw [upd_ne nda] at hdx
    exact hdx
  · rw [upd_exc na nda]
    rw [upd_ne nda] at hdx
    exact k dx hdx
/-- what the written part says of such a class and its __init__ -/
structure ErrC (K : PySem.W.Frag) (mg : Str → Option Value) (x : Str) (C fI : Addr) : Prop where
  g : mg x = some (.ref C)
  T : OexC K C
  iC : PySem.W.findIn K (.ref C) "__init__" = some (some (.ref fI))
  tI : PySem.W.typeIn K (.ref fI) = some (.type "function")
/-- raise C(e) -/
def tRaise1 (C : Addr) (f : Str) (W : WX) (te : TE) : TS := fun _ σ H => te σ H fun y H1 => ∀ d, H1 d = none → W (.ref C) (some d) σ (upd H1 d (.xd [(f, y)]))
section
variable {X : Cx}
theorem ps_raise1 {CX : CXT} {x f : Str} {C fI : Addr} {k : Nat} {fd : FuncData} {te : TE} {W : WX} {a : Expr} {p pos pos2 : Pos} (R : ErrC X.K X.mg x C fI) (F1 : FnOk X.prog X.w X.K X.mg X.base CX k fI fd ["self", f] (spEx1 C f)) (hr : Room (k + 1) X.A) (hb : Binds X.K fd ["self", f] [])
    (hx : Passes CX X (fun _ _ _ => False)) (hc : X.calm = true) (tk : Takes X W) (ha : PE X a te) (hm : ∀ σ H (P R : V → Hp → Prop), (∀ v H, P v H → R v H) → te σ H P → te σ H R) (hg : Gl X x := by rfl) (hdb : (x == ("__debug__" : Str)) = false := by decide)
    (he : starEach (a :: []) X.env = (false, eval a X.env) :: starEach [] X.env := by rfl) (hpl : (backTo pos (starEach [] X.env)).any (·.1) = false := by rfl) :
    PS X (.Raise (some (.Call (.Name x p) [a] [] pos)) none pos2) (tRaise1 C f W te) := by
  have q := ps_raise hc tk (pmk_oex (p := p) (e := a) (es := []) R.T R.iC R.tI F1 hr hb .nil hx hg R.g (pa_cons ha pa_nil he) hdb he hpl) (pos := pos2)
  refine ⟨fun pins s σ H D I h => q.run pins s σ H D I ?_⟩
  refine mkO1 (f := f) ?_ (fun P R hpr h => ?_)
  · exact hm σ H _ _ (fun y H1 k => ⟨y, rfl, k⟩) h
  · exact hm σ H _ _ (fun v H1 k => hpr _ _ k) h
theorem mono_tVar {i : Nat} (σ : St) (H : Hp) (P R : V → Hp → Prop) (h : ∀ v H, P v H → R v H) : tVar i σ H P → tVar i σ H R := fun ⟨v, e, p⟩ => ⟨v, e, h v H p⟩
end
/-! ### kinds of values -/
/-- v is an int (a truth value too): i; a truth value: b -/
def Kd (K : PySem.W.Frag) (H : Hp) (v : V) (i b : Bool) : Prop := ∃ T : String, TyX K H v (.type T) ∧ kitB T "int" = some i ∧ kitB T "bool" = some b
theorem Kd.int {K : PySem.W.Frag} {H : Hp} {n : Int} : Kd K H (.int n) true false := ⟨"int", .base (.int n), by decide +kernel, by decide +kernel⟩
theorem Kd.bl {K : PySem.W.Frag} {H : Hp} {n : Bool} : Kd K H (.bl n) true true := ⟨"bool", .base (.bl n), by decide +kernel, by decide +kernel⟩
theorem Kd.non {K : PySem.W.Frag} {H : Hp} : Kd K H .non false false := ⟨"NoneType", .base .non, by decide +kernel, by decide +kernel⟩
theorem Kd.str {K : PySem.W.Frag} {H : Hp} {z : Str} : Kd K H (.str z) false false := ⟨"str", .base (.str z), by decide +kernel, by decide +kernel⟩
theorem Kd.lst {K : PySem.W.Frag} {H : Hp} {a : Addr} {xs : List V} (e : H a = some (.lst xs)) : Kd K H (.ref a) false false := ⟨"list", .base (.lst e), by decide +kernel, by decide +kernel⟩
theorem Kd.tup {K : PySem.W.Frag} {H : Hp} {a : Addr} {xs : List V} (e : H a = some (.tup xs)) : Kd K H (.ref a) false false := ⟨"tuple", .base (.tup e), by decide +kernel, by decide +kernel⟩
/-! ### is_whole, and the law's own of that shape -/
def spWhole (K : PySem.W.Frag) : Sp := fun vs H Q _ => ∃ (v : V) (i b : Bool), vs = [v] ∧ Kd K H v i b ∧ Q (.bl (i && !b)) H
section
variable {P : Program} {w : World} {K : PySem.W.Frag} {mg : Str → Option Value} {base : Heap}
abbrev sWhole : Stmt := top 9
theorem scWhole : FnScope ["value"] ["value"] (defScope sWhole) := ⟨rfl, rfl, rfl, by decide +kernel, rfl, by decide +kernel, by decide +kernel⟩
theorem ok_whole {f : Addr} {fd : FuncData} (F : Fun K "is_whole" "is_whole" sWhole f fd) (mIs : mg "isinstance" = none) (mI : mg "int" = none) (mB : mg "bool" = none) : FnOk P w K mg base CX0 1 f fd ["value"] (spWhole K) := by
  refine F.ok scWhole (fun vs H Q E h => ?_) (fun cdv A outer s H vs Q E hr h => ?_)
  · obtain ⟨v, i, b, rfl, _⟩ := h
    rfl
  · obtain ⟨v, i, b, rfl, ⟨T, ty, k1, k2⟩, k⟩ := h
    refine ⟨_, pss_one (ps_ret (pe_and (pe_callB call_isi (by rfl) mIs (by decide +kernel) (pa_cons (pv 0) (pa_cons (pe_bltn (v := .ty "int") (by rfl) mI (by decide +kernel) rfl) pa_nil)))
      (pe_one (pe_not (pe_callB call_isi (by rfl) mIs (by decide +kernel) (pa_cons (pv 0) (pa_cons (pe_bltn (v := .ty "bool") (by rfl) mB (by decide +kernel) rfl) pa_nil))))))), ?_⟩
    refine ⟨_, rfl, _, _, _, _, i, rfl, .ty "int", ty, kit_ty k1, i, rfl, ?_⟩
    cases i with
    | false => exact iteF k
    | true =>
      refine iteT ?_
      exact ⟨_, rfl, _, _, _, _, b, rfl, .ty "bool", ty, kit_ty k2, b, rfl, k⟩
/-! ### an error's __init__ -/
abbrev sEI : Stmt := inClass (top 4) 0
theorem scEI : FnScope ["self", "value"] ["self", "value"] (defScope sEI) := ⟨rfl, rfl, rfl, by decide +kernel, rfl, by decide +kernel, by decide +kernel⟩
theorem ok_ei {f C : Addr} {fd : FuncData} (F : Fun K "__init__" "InvalidNumber.__init__" sEI f fd) (T : OexC K C) (hno : PySem.W.findIn K (.ref C) "value" = some none) : FnOk P w K mg base CX0 1 f fd ["self", "value"] (spEx1 C "value") := by
  refine F.ok scEI (fun vs H Q E h => ?_) (fun cdv A outer s H vs Q E hr h => ?_)
  · obtain ⟨v, i, rfl, _⟩ := h
    rfl
  · obtain ⟨a, y, rfl, ha, k⟩ := h
    refine ⟨_, pss_one (ps_ost (pv 0) (pv 1)), ?_⟩
    exact ⟨_, rfl, _, rfl, a, C, rfl, T, hno, .inl ⟨ha, fun dx n ne => k dx n ne⟩⟩
end
/-! ### what stays -/
theorem TyOf.sm {K : PySem.W.Frag} {H H' : Hp} {v : V} {t : Value} (s : Same H H') (h : TyOf K H v t) : TyOf K H' v t := by
  cases h with
  | non => exact .non
  | bl x => exact .bl x
  | int i => exact .int i
  | str x => exact .str x
  | flt x => exact .flt x
  | lst e => exact .lst (s _ _ e)
  | frz e => exact .frz (s _ _ e)
  | tup e => exact .tup (s _ _ e)
  | dK e => exact .dK (s _ _ e)
  | dT e => exact .dT (s _ _ e)
  | ins e cl ha hn htk hm => exact .ins (s _ _ e) cl ha hn htk hm
theorem TyX.sm {K : PySem.W.Frag} {H H' : Hp} {v : V} {t : Value} (s : Same H H') (h : TyX K H v t) : TyX K H' v t := by
  cases h with
  | base b => exact .base (TyOf.sm s b)
  | byt b => exact .byt b
  | set e => exact .set (s _ _ e)
  | kList e c => exact .kList e c
  | kTuple e c => exact .kTuple e c
  | kDict e c => exact .kDict e c
  | fTuple e => exact .fTuple (s _ _ e)
  | fDict e => exact .fDict (s _ _ e)
theorem Kd.sm {K : PySem.W.Frag} {H H' : Hp} {v : V} {i b : Bool} (s : Same H H') : Kd K H v i b → Kd K H' v i b := fun ⟨T, ty, k1, k2⟩ => ⟨T, TyX.sm s ty, k1, k2⟩
theorem same_upd {H : Hp} {a : Addr} {o : HO} (h : H a = none) : Same H (upd H a o) := fun b u e => by
  rw [upd_ne (ne_of_none e h)]
  exact e
theorem fresh_of {H : Hp} {a b : Addr} {u : HO} (h : H a = none) (e : H b = some u) : b ≠ a := fun z => by rw [z, h] at e; cases e
/-! ### what the laws of ratios share -/
structure At (K : PySem.W.Frag) (mg : Str → Option Value) (x : Str) (f : Addr) : Prop where
  g : mg x = some (.ref f)
  k : PySem.W.keepIn K (.ref f) = true
theorem BagAt.sm {H H' : Hp} {b l : Addr} (s : Same H H') : BagAt H b l → BagAt H' b l := fun ⟨ns, p, q, r, c, h1, h2, h3⟩ => ⟨ns, p, q, r, c, s _ _ h1, s _ _ h2, h3⟩
theorem BagAt.ne {H : Hp} {a b l : Addr} : BagAt H b l → H a = none → a ≠ b := fun ⟨ns, p, q, r, c, h1, _⟩ h z => by rw [z, h1] at h; cases h
theorem BagAt.nl {H : Hp} {a b l : Addr} : BagAt H b l → H a = none → a ≠ l := fun ⟨ns, p, q, r, c, _, h2, _⟩ h z => by rw [z, h2] at h; cases h
theorem BagAt.up {H : Hp} {a b l : Addr} {o : HO} (h1 : a ≠ b) (h2 : a ≠ l) : BagAt H b l → BagAt (upd H a o) b l := fun ⟨ns, p, q, r, c, e1, e2, h3⟩ => ⟨ns, p, q, r, c, (upd_ne (Ne.symm h1)).trans e1, (upd_ne (Ne.symm h2)).trans e2, h3⟩
theorem atI_in {α : Type} {xs : List α} {d : Int} (h0 : 0 ≤ d) (h1 : d < (xs.length : Int)) : ∃ v, atI xs d = some v ∧ v ∈ xs := by
  obtain ⟨m, rfl⟩ : ∃ m : Nat, d = (m : Int) := ⟨d.toNat, by omega⟩
  have hm : m < xs.length := by omega
  exact ⟨xs[m], atI_nat (List.getElem?_eq_getElem hm), List.getElem_mem hm⟩
def spLaw (K : PySem.W.Frag) : Sp := fun vs H Q _ => ∃ (a : Addr) (ns : List Int), vs = [.ref a] ∧ SqL K H a (ns.map V.int) ∧ ns.length ≤ 63 ∧ ∀ H', Q (.bl true) H'
/-! ### a key function: it keeps the heap -/
open PySem.W PyProof.Rows in
/-- what stays while it runs -/
structure Kx (K : PySem.W.Frag) (mg : Str → Option Value) (base : Heap) (s0 : Shared) (L : Addr) (m : Str → Option Value) (s : Shared) : Prop where
  mod : Mod K mg base
  bs : ∀ b o, base.get? b = some o → s0.heap.get? b = some o
  c : InCall s0 L m s
section
open PySem.W PyProof.Rows
variable {prog : Program} {w : World} {A : Around} {K : PySem.W.Frag} {mg : Str → Option Value} {base : Heap} {s0 : Shared} {L f : Addr} {m : Str → Option Value} {qual : Str} {scope : Scope} {cdv : Value}
theorem Kx.tok {s : Shared} (I : Kx K mg base s0 L m s) (t : Nat) : Kx K mg base s0 L m { s with toks := t } := ⟨I.mod, I.bs, I.c.tok t⟩
theorem Kx.kp {s : Shared} (I : Kx K mg base s0 L m s) : ∀ b o, base.get? b = some o → s.heap.get? b = some o := fun b o e => I.c.keep b o (I.bs b o e)
/-- e is worth a value that P holds of -/
def Ev (prog : Program) (w : World) (A : Around) (env : Env) (I : Shared → Prop) (e : Expr) (P : Value → Prop) : Prop := ∀ (s : Shared) (Q : Value → Shared → Prop) (E : Value → Shared → Prop), I s → (∀ u s', I s' → P u → Q u s') → wpAny (model prog w) A (eval e env) Q E s
theorem ev_var {x : Str} {pos : Pos} {v : Value} (hk : scope.kind = .function) (hl : (envOfC qual scope L f cdv).kindOf x = some .local) (hv : m x = some v) {P : Value → Prop} (hp : P v) (hd : (x == ("__debug__" : Str)) = false := by decide) : Ev prog w A (envOfC qual scope L f cdv) (Kx K mg base s0 L m) (.Name x pos) P := fun s Q E I h =>
  wpAny_Name (wpAny_loadName_local (env := envOfC qual scope L f cdv) hk hl I.c.ns hv (h v s I hp)) hd
theorem ld_b {x : Str} {pos : Pos} {u : Value} {s : Shared} {Q : Value → Shared → Prop} {E : Value → Shared → Prop} (I : Kx K mg base s0 L m s) (hk : scope.kind = .function) (hg : (envOfC qual scope L f cdv).kindOf x = some .globalImplicit) (hm : mg x = none) (hv : bootBuiltins x = some u) (h : Q u s) (hn : x ≠ "__name__" := by decide) (hd : (x == ("__debug__" : Str)) = false := by decide) :
    wpAny (model prog w) A (eval (.Name x pos) (envOfC qual scope L f cdv)) Q E s := by
  obtain ⟨mb, h1, h2⟩ := I.mod.blt
  exact Calls.Name_function_global (env := envOfC qual scope L f cdv) hk hg (Calls.loadGlobal_builtin (env := envOfC qual scope L f cdv) (I.mod.glob.keeps I.kp) hm (h1.keeps I.kp) ((h2 x hn).trans hv) h) hd
theorem ev_len {e : Expr} {p pos : Pos} {z : Str} (hk : scope.kind = .function) (hg : (envOfC qual scope L f cdv).kindOf "len" = some .globalImplicit) (hm : mg "len" = none) (hz : z.length ≤ 1000) (he : Ev prog w A (envOfC qual scope L f cdv) (Kx K mg base s0 L m) e (fun u => ∃ t, u = .str z t))
    (hs : starEach [e] (envOfC qual scope L f cdv) = (false, eval e (envOfC qual scope L f cdv)) :: starEach [] (envOfC qual scope L f cdv) := by rfl) (hpl : (backTo pos (starEach [] (envOfC qual scope L f cdv))).any (·.1) = false := by rfl) :
    Ev prog w A (envOfC qual scope L f cdv) (Kx K mg base s0 L m) (.Call (.Name "len" p) [e] [] pos) (fun u => ∃ t, u = .int z.length t) := fun s Q E I h => by
  refine wpAny_Call_Name_kw (ld_b I hk hg hm PySem.boot_len ?_)
  refine PyProof.Rows.callWith_builtin1 ?_ hs hpl
  rw [hs]
  show wpAny _ _ (spliced ((false, eval e (envOfC qual scope L f cdv)) :: backTo pos (starEach [] (envOfC qual scope L f cdv)))) _ _ s
  refine Calls.spliced_cons (he s _ E I fun u s' I' hu => Calls.spliced_nil ?_)
  obtain ⟨t, rfl⟩ := hu
  have hn := line63
  exact len_str (by omega) (h _ _ (I'.tok _) ⟨_, rfl⟩)
theorem ev_strs {e : Expr} {p pos : Pos} {z : Str} (hk : scope.kind = .function) (hg : (envOfC qual scope L f cdv).kindOf "str" = some .globalImplicit) (hm : mg "str" = none) (he : Ev prog w A (envOfC qual scope L f cdv) (Kx K mg base s0 L m) e (fun u => ∃ t, u = .str z t))
    (hs : starEach [e] (envOfC qual scope L f cdv) = (false, eval e (envOfC qual scope L f cdv)) :: starEach [] (envOfC qual scope L f cdv) := by rfl) (hpl : (backTo pos (starEach [] (envOfC qual scope L f cdv))).any (·.1) = false := by rfl) :
    Ev prog w A (envOfC qual scope L f cdv) (Kx K mg base s0 L m) (.Call (.Name "str" p) [e] [] pos) (fun u => ∃ t, u = .str z t) := fun s Q E I h => by
  refine wpAny_Call_Name_kw (ld_b I hk hg hm (u := .type "str") (by decide +kernel) ?_)
  refine PyProof.Rows.callWith_type1 ?_ hs hpl
  rw [hs]
  show wpAny _ _ (spliced ((false, eval e (envOfC qual scope L f cdv)) :: backTo pos (starEach [] (envOfC qual scope L f cdv)))) _ _ s
  refine Calls.spliced_cons (he s _ E I fun u s' I' hu => Calls.spliced_nil ?_)
  obtain ⟨t, rfl⟩ := hu
  exact PySem.P.str_of_str (h _ _ I' ⟨_, rfl⟩)
theorem ev_isi {e : Expr} {p p2 pos : Pos} {z : Str} (hk : scope.kind = .function) (hg : (envOfC qual scope L f cdv).kindOf "isinstance" = some .globalImplicit) (hm : mg "isinstance" = none) (hg2 : (envOfC qual scope L f cdv).kindOf "str" = some .globalImplicit) (hm2 : mg "str" = none) (he : Ev prog w A (envOfC qual scope L f cdv) (Kx K mg base s0 L m) e (fun u => ∃ t, u = .str z t))
    (hs : starEach [e, .Name "str" p2] (envOfC qual scope L f cdv) = (false, eval e (envOfC qual scope L f cdv)) :: starEach [.Name "str" p2] (envOfC qual scope L f cdv) := by rfl) (hpl : (backTo pos (starEach [.Name "str" p2] (envOfC qual scope L f cdv))).any (·.1) = false := by rfl)
    (hs2 : starEach [.Name "str" p2] (envOfC qual scope L f cdv) = (false, eval (.Name "str" p2) (envOfC qual scope L f cdv)) :: starEach [] (envOfC qual scope L f cdv) := by rfl) :
    Ev prog w A (envOfC qual scope L f cdv) (Kx K mg base s0 L m) (.Call (.Name "isinstance" p) [e, .Name "str" p2] [] pos) (fun u => u = .bool true) := fun s Q E I h => by
  refine wpAny_Call_Name_kw (ld_b I hk hg hm (u := .builtin "isinstance") (by decide +kernel) ?_)
  refine PyProof.Rows.callWith_builtin1 ?_ hs hpl
  rw [hs, hs2]
  show wpAny _ _ (spliced ((false, eval e (envOfC qual scope L f cdv)) :: (false, eval (.Name "str" p2) (envOfC qual scope L f cdv)) :: backTo pos (starEach [] (envOfC qual scope L f cdv)))) _ _ s
  refine Calls.spliced_cons (he s _ E I fun u s' I' hu => Calls.spliced_cons (ld_b I' hk hg2 hm2 (u := .type "str") (by decide +kernel) (Calls.spliced_nil ?_)))
  obtain ⟨t, rfl⟩ := hu
  exact PySem.W.kia_one (K := K) PySem.W.kitx_str (I'.mod.kin.keeps I'.kp) True.intro (kit_ty (a := "str") (b := "str") (by decide +kernel)) (fun z => nomatch z) fun tk => h _ _ (I'.tok _) rfl
theorem ev_ifT {c a b : Expr} {pos : Pos} {P : Value → Prop} (hc : Ev prog w A (envOfC qual scope L f cdv) (Kx K mg base s0 L m) c (fun u => u = .bool true)) (ha : Ev prog w A (envOfC qual scope L f cdv) (Kx K mg base s0 L m) a P)
    (he : ∀ whole, isTrue c (envOfC qual scope L f cdv) whole = (do let v ← whole; standAt c.pos; holding [v] (truthy v)) := by intro _; rfl) : Ev prog w A (envOfC qual scope L f cdv) (Kx K mg base s0 L m) (.IfExp c a b pos) P := fun s Q E I h => by
  refine wpAny_IfExp ?_
  rw [he]
  refine wpAny_bind (hc s _ E I fun u s' I' hu => ?_)
  subst hu
  refine wpAny_bind (wpAny_standAt (wpAny_holding (wpAny_truthy_bool ?_)))
  exact ha s' Q E I' h
/-- items of a display -/
inductive EvL (prog : Program) (w : World) (A : Around) (env : Env) (I : Shared → Prop) : List Expr → List (Value → Prop) → Prop where
  | nil : EvL prog w A env I [] []
  | cons {e : Expr} {es : List Expr} {P : Value → Prop} {Ps : List (Value → Prop)} : Ev prog w A env I e P → EvL prog w A env I es Ps → starEach (e :: es) env = (false, eval e env) :: starEach es env → EvL prog w A env I (e :: es) (P :: Ps)
theorem EvL.run {env : Env} {I : Shared → Prop} {pos : Pos} : ∀ {es : List Expr} {Ps : List (Value → Prop)}, EvL prog w A env I es Ps → ∀ (s : Shared) (Q : List Value → Shared → Prop) (E : Value → Shared → Prop), I s → (∀ us s', I s' → Paired (fun u (P : Value → Prop) => P u) us Ps → Q us s') → wpAny (model prog w) A (spliced (backTo pos (starEach es env))) Q E s
  | _, _, .nil, s, Q, E, hI, h => Calls.spliced_nil (h [] s hI .nil)
  | _, _, .cons (e := e) (es := es) he hr hs, s, Q, E, hI, h => by
    rw [hs]
    show wpAny _ _ (spliced ((false, eval e env) :: backTo pos (starEach es env))) _ _ s
    exact Calls.spliced_cons (he s _ E hI fun u s' I' hu => hr.run s' _ E I' fun us s2 I2 hus => h (u :: us) s2 I2 (.cons hu hus))
theorem ret_tup {es : List Expr} {Ps : List (Value → Prop)} {ds : List PyData} {x1 : Nat} {pos pos2 : Pos} {s : Shared} {Q : Flow → Shared → Prop} {E : Value → Shared → Prop} (h : EvL prog w A (envOfC qual scope L f cdv) (Kx K mg base s0 L m) es Ps) (I : Kx K mg base s0 L m s)
    (hr : ∀ us, Paired (fun u (P : Value → Prop) => P u) us Ps → us.length ≤ sizeLine ∧ ∀ g, ReadsAll g us ds []) (hq : ∀ u s', KeyPure (.tuple ds) s0 u s' → Q (.ret u) s') : wpAny (model prog w) A (exec (.Return (some (.Tuple es x1 pos)) pos2) (envOfC qual scope L f cdv)) Q E s := by
  refine wpAny_Return_some (wpAny_Tuple_spliced (h.run s _ E I fun us s' I' hus => ?_))
  obtain ⟨h1, h2⟩ := hr us hus
  refine ⟨h1, hq _ _ ?_⟩
  obtain ⟨g, tk, rfl⟩ := I'.c.same
  refine ⟨_, tk, rfl, fun b o e => Heap.get?_push_of_some _ (I'.c.keep b o e), ?_⟩
  exact .tuple (Heap.get?_push_size _ rfl) rfl rfl (h2 _)
end
section
open PySem.W PyProof.Rows
variable {prog : Program} {w : World} {A : Around} {K : PySem.W.Frag} {mg : Str → Option Value} {base : Heap}
/-- a def of one text is a key function: k of the text -/
def KeyStr (prog : Program) (w : World) (K : PySem.W.Frag) (mg : Str → Option Value) (base : Heap) (f : Addr) (k : Str → PyData) : Prop :=
  ∀ (A : Around) (s : Shared) (g : Str) (t : Tok), A.depth < recursionLimit → Mod K mg base → (∀ b o, base.get? b = some o → s.heap.get? b = some o) → g.length ≤ 1000 → wpAny (model prog w) A (call (.ref f) [.str g t]) (KeyPure (k g) s) (fun _ _ => False) s
theorem key_enter {x qual : Str} {st : Stmt} {f : Addr} {fd : FuncData} {v : Value} {s : Shared} {k : PyData} (F : Fun K x qual st f fd) (mod : Mod K mg base) (hbs : ∀ b o, base.get? b = some o → s.heap.get? b = some o) (hroom : A.depth < recursionLimit) {p : Str}
    (hb : Binds K fd [p] []) (hk : (defScope st).kind = .function) (hco : (defScope st).isCoroutine = false) (hgen : (defScope st).isGenerator = false) (hl : (defScope st).names.lookup p = some .local)
    (h : ∀ cdv (m : Str → Option Value) s1, m p = some v → Kx K mg base s s.heap.objs.size m s1 → wpAny (model prog w) (A.deeper (envOfC qual (defScope st) s.heap.objs.size f cdv)) (execs (defBody st) (envOfC qual (defScope st) s.heap.objs.size f cdv)) (fun fl s' => ∃ u, fl = .ret u ∧ KeyPure k s u s') (fun _ _ => False) s1) :
    wpAny (model prog w) A (call (.ref f) [v]) (KeyPure k s) (fun _ _ => False) s := by
  obtain ⟨oc, od, kV, doc, pm, an, cdv, ct, osl, rfl, lk, hcd⟩ := F.ex
  have KX : K.In s.heap := mod.kin.keeps hbs
  have bt : BindsTo s (PySem.W.fnOf x qual (defArgs st) (defBody st) (defScope st) .none kV doc pm an cdv ct) ⟨[v], []⟩ [(p, v)] := hb s [v] KX rfl
  refine wpAny_call (Att.call_fn (binds := [(p, v)]) KX (mod.nolimit.keeps hbs) lk hcd hroom bt (by simp [hl]) (fun s1 IC => ?_) hco hgen hk)
  have hm : (bindL (envOfC qual (defScope st) s.heap.objs.size f cdv).kindOf [(p, v)] fun _ => none) p = some v := by
    have hl' : (envOfC qual (defScope st) s.heap.objs.size f cdv).kindOf p = some .local := hl
    simp [bindL, hl']
  refine wpAny_mono (h cdv _ s1 hm ⟨mod, hbs, IC.toInCall⟩) (fun fl s' q => ?_) (fun _ _ q => q.elim)
  obtain ⟨u, rfl, q⟩ := q
  exact q
/-! ### sorted(xs, key=f) -/
theorem vals_of_each {T : Type} {val : T → V} {R : Value → T → Prop} (h : ∀ u x, R u x → RelV (val x) u) : ∀ {us : List Value} {xs : List T}, EachIs R us xs → Vals (xs.map val) us
  | _, _, .nil => .nil
  | _, _, .cons r e => .cons (h _ _ r) (vals_of_each h e)
/-- the items xs as values, what of them is read, their keys -/
structure KeyFn (X : Cx) (H : Hp) (f : Addr) {T : Type} (val : T → V) (ok : Heap → Value → T → Prop) (k : T → PyData) (xs : List T) : Prop where
  al : AllAlike (xs.map k)
  so : Sortable (xs.map k)
  dp : ∀ x ∈ xs, (k x).depth ≤ 8
  each : ∀ (pins : List (Addr × Obj)) (σ : L2.St) (s : Shared) (us : List Value), Inv X pins σ H s → Vals (xs.map val) us → EachIs (fun u x => RelV (val x) u ∧ ok s.heap u x) us xs
  turn : ∀ (A : Around) (s : Shared) (h0 : Heap) (u : Value) (x : T), A.depth < recursionLimit → A.handled = none → Mod X.K X.mg X.base → (∀ b o, X.base.get? b = some o → s.heap.get? b = some o) → (∀ b o, h0.get? b = some o → s.heap.get? b = some o) → RelV (val x) u → ok h0 u x →
    wpAny (model X.prog X.w) A (call (.ref f) [u]) (KeyPure (k x) s) (fun _ _ => False) s
theorem cr_sortedK {X : Cx} {T : Type} {f : Addr} {val : T → V} {ok : Heap → Value → T → Prop} {k : T → PyData} (hc : X.calm = true) (hr : Room 1 X.A) : CallRK X (.builtin "sorted") [Str.ofString "key"] (fun vs zs H Q => ∃ (a : Addr) (xs : List T), vs = [.ref a] ∧ zs = [.ref f] ∧ SqL X.K H a (xs.map val) ∧ KeyFn X H f val ok k xs ∧
    ∀ p, H p = none → Q (.ref p) (upd H p (.lst ((xs.mergeSort (dataLe false k)).map val)))) := by
  intro pins s σ H vs zs us ws Q I rv rz hq
  obtain ⟨a, xs, rfl, rfl, hS, KF, q⟩ := hq
  obtain ⟨u1, rfl, r1⟩ := vals1 rv
  obtain ⟨u2, rfl, r2⟩ := vals1 rz
  cases r1
  cases r2
  obtain ⟨its, rits, pl, hz⟩ := I.list hS
  have e := KF.each pins σ s its I rits
  have hl : xs.length ≤ sizeLine := by rw [List.length_map] at hz; exact hz
  show wpAny (model X.prog X.w) X.A (call (.builtin "sorted") [.ref a] [(Str.ofString "key", .ref f)]) _ _ s
  have hun := hr.un
  have hdp := hr.dp
  refine sorted_key_data (b := false) k pl.isList e KF.al KF.so hl (fun x hx => ?_) (ksk_s1 _ _) (fun _ => ksk_l1 _ _) (fun _ => ksk_t1 _ _) (fun u x hR hx h tk kp => ?_) fun out c h' tk kp hn hD ho eo => ?_
  · have := KF.dp x hx
    omega
  · exact KF.turn X.A.in1.in1 { s with heap := h, toks := tk } s.heap u x (by show X.A.depth < _; omega) (I.ok.hd hc) I.mod (fun b o eb => kp b o (I.bk b o eb)) kp hR.1 hR.2
  · have hf : H (s.heap.objs.size + 1) = none := I.hok.fresh (Nat.le_succ _)
    refine ⟨.ref (s.heap.objs.size + 1), upd H (s.heap.objs.size + 1) (.lst ((xs.mergeSort (dataLe false k)).map val)), I.laid (t' := tk) kp (Nat.le_succ _) ?_, rfl, q _ hf⟩
    refine ⟨?_, out, c, vals_of_each (fun u x h => h.1) eo, hD⟩
    rw [List.length_map, List.length_mergeSort]
    exact hl
end
/-! ### the key functions of the text -/
def kRank (g : Str) : PyData := .tuple [.int g.length, .str g]
section
open PySem.W PyProof.Rows
variable {prog : Program} {w : World} {K : PySem.W.Frag} {mg : Str → Option Value} {base : Heap}
theorem pair_flat {us : List Value} {a : Int} {z : Str} (h : Paired (fun u (P : Value → Prop) => P u) us [fun u => ∃ t, u = .int a t, fun u => ∃ t, u = .str z t]) : us.length ≤ sizeLine ∧ ∀ g, ReadsAll g us [.int a, .str z] [] := by
  cases h with
  | cons h1 r =>
    cases r with
    | cons h2 r =>
      cases r
      obtain ⟨t1, rfl⟩ := h1
      obtain ⟨t2, rfl⟩ := h2
      exact ⟨by show 2 ≤ sizeLine; decide, fun g => .cons (.int _ _) (.cons (.str _ _) .nil)⟩
abbrev sPlace : Stmt := top 15
theorem key_place {f : Addr} {fd : FuncData} (F : Fun K "font_place" "font_place" sPlace f fd) (b : Binds K fd ["glyph"] []) (mL : mg "len" = none) (mI : mg "isinstance" = none) (mS : mg "str" = none) : KeyStr prog w K mg base f kRank := by
  intro A s g t hroom mod hbs hg
  refine key_enter F mod hbs hroom b rfl rfl rfl rfl fun cdv m s1 hm I => ?_
  have v0 : ∀ {pos : Pos} {m' : Str → Option Value}, m' "glyph" = some (.str g t) → Ev prog w (A.deeper (envOfC "font_place" (defScope sPlace) s.heap.objs.size f cdv)) (envOfC "font_place" (defScope sPlace) s.heap.objs.size f cdv) (Kx K mg base s s.heap.objs.size m') (.Name "glyph" pos) (fun u => ∃ t, u = .str g t) := fun {pos m'} h => ev_var rfl rfl h ⟨t, rfl⟩
  refine wpAny_execs_cons ?_
  refine wpAny_Assign_Name (ev_ifT (ev_isi rfl rfl mI rfl mS (v0 hm)) (ev_len rfl rfl mL hg (v0 hm)) (fun _ => rfl) s1 _ _ I fun u s2 I2 hu => ?_) rfl
  obtain ⟨t2, rfl⟩ := hu
  refine wpAny_storeName_local (env := envOfC "font_place" (defScope sPlace) s.heap.objs.size f cdv) rfl I2.c.ns (fun h' hn' hs' => ?_) rfl
  obtain ⟨m3, e3⟩ : ∃ m3 : Str → Option Value, m3 = (fun y : Str => if y = "length" then some (Value.int g.length t2) else m y) := ⟨_, rfl⟩
  have I3 : Kx K mg base s s.heap.objs.size m3 { s2 with heap := h', toks := s2.toks + 1 } := by
    refine ⟨I2.mod, I2.bs, ⟨?_, e3 ▸ hn', fun b o e => ?_, I2.c.fresh⟩⟩
    · obtain ⟨h₁, tk, rfl⟩ := I2.c.same
      exact ⟨h', _, rfl⟩
    · exact hs'.extBut b o (Nat.ne_of_lt (Nat.lt_of_lt_of_le (Heap.lt_size e) I2.c.fresh)) (I2.c.keep b o e)
  refine wpAny_execs_cons ?_
  have hmL : m3 "length" = some (.int g.length t2) := by
    rw [e3]
    exact if_pos rfl
  have hm3 : m3 "glyph" = some (.str g t) := by
    rw [e3]
    show (if ("glyph" : Str) = "length" then _ else _) = _
    rw [if_neg (by decide +kernel)]
    exact hm
  exact ret_tup (.cons (ev_var rfl rfl hmL ⟨t2, rfl⟩) (.cons (ev_strs rfl rfl mS (v0 hm3)) .nil rfl) rfl) I3 (fun us h => pair_flat h) fun u s' q => ⟨u, rfl, q⟩
/-- the texts xs under such a key -/
theorem keyFn_str {X : Cx} {H : Hp} {f : Addr} {xs : List Str} (h : KeyStr X.prog X.w X.K X.mg X.base f kRank) (hx : ∀ x ∈ xs, x.length ≤ 1000) : KeyFn X H f (T := Str) V.str (fun _ _ x => x.length ≤ 1000) kRank xs where
  al := AllAlike.of fun _ _ => by simp [alike, alikeAll, kRank]
  so := Sortable.tuples fun _ => ⟨_, _, rfl⟩
  dp := fun x _ => by simp [kRank, PyData.depth, PyData.depthAll]
  each := fun pins σ s us I r => by
    have go : ∀ {us : List Value} {xs : List Str}, (∀ x ∈ xs, x.length ≤ 1000) → Vals (xs.map V.str) us → EachIs (fun u x => RelV (.str x) u ∧ x.length ≤ 1000) us xs := by
      intro us xs
      induction xs generalizing us with
      | nil => intro _ r; cases r; exact .nil
      | cons x xs ih =>
        intro hx r
        cases r with
        | cons r1 r2 => exact .cons ⟨r1, hx x List.mem_cons_self⟩ (ih (fun y hy => hx y (List.mem_cons_of_mem _ hy)) r2)
    exact go hx r
  turn := fun A s h0 u x hroom _ mod hbs _ r hl => by
    obtain ⟨t, rfl⟩ := r
    exact h A s x t hroom mod hbs hl
end
/-! ### the key function of pairs -/
def kPlace (g : Str × Str) : PyData := .tuple [.bool true, .str g.1, .bool true, .str g.2]
section
open PySem.W PyProof.Rows
variable {prog : Program} {w : World} {A : Around} {K : PySem.W.Frag} {mg : Str → Option Value} {base : Heap} {s0 : Shared} {L f : Addr} {m : Str → Option Value} {qual : Str} {scope : Scope} {cdv : Value}
theorem Kx.ext {s : Shared} {h' : Heap} (I : Kx K mg base s0 L m s) (hx : Heap.ExtBut s.heap.objs.size s.heap h') : Kx K mg base s0 L m { s with heap := h' } := by
  have k : ∀ b o, s.heap.get? b = some o → h'.get? b = some o := fun b o e => hx b o (Nat.ne_of_lt (Heap.lt_size e)) e
  refine ⟨I.mod, I.bs, ⟨?_, I.c.ns.keeps k, fun b o e => k b o (I.c.keep b o e), I.c.fresh⟩⟩
  obtain ⟨h₁, tk, rfl⟩ := I.c.same
  exact ⟨h', _, rfl⟩
theorem four_flat {us : List Value} {x z : Str} (h : Paired (fun u (P : Value → Prop) => P u) us [fun u => u = .bool true, fun u => ∃ t, u = .str x t, fun u => u = .bool true, fun u => ∃ t, u = .str z t]) : us.length ≤ sizeLine ∧ ∀ g, ReadsAll g us [.bool true, .str x, .bool true, .str z] [] := by
  cases h with
  | cons h1 r =>
    cases r with
    | cons h2 r =>
      cases r with
      | cons h3 r =>
        cases r with
        | cons h4 r =>
          cases r
          subst h1 h3
          obtain ⟨t2, rfl⟩ := h2
          obtain ⟨t4, rfl⟩ := h4
          exact ⟨by show 4 ≤ sizeLine; decide, fun g => .cons (.bool _) (.cons (.str _ _) (.cons (.bool _) (.cons (.str _ _) .nil)))⟩
abbrev sPair : Stmt := top 16
/-- a def of one pair of texts is a key function: k of the pair -/
def KeyPair (prog : Program) (w : World) (K : PySem.W.Frag) (mg : Str → Option Value) (base : Heap) (f : Addr) (k : Str × Str → PyData) : Prop :=
  ∀ (A : Around) (s : Shared) (a : Addr) (l r : Str) (t1 t2 : Tok), A.depth < recursionLimit → A.handled = none → Mod K mg base → (∀ b o, base.get? b = some o → s.heap.get? b = some o) → IsTup s.heap a #[.str l t1, .str r t2] → wpAny (model prog w) A (call (.ref f) [.ref a]) (KeyPure (k (l, r)) s) (fun _ _ => False) s
theorem key_pair {f : Addr} {fd : FuncData} (F : Fun K "pair_place" "pair_place" sPair f fd) (b : Binds K fd ["pair"] []) (mI : mg "isinstance" = none) (mS : mg "str" = none) : KeyPair prog w K mg base f kPlace := by
  intro A s a l r t1 t2 hroom hh mod hbs ht
  refine key_enter F mod hbs hroom b rfl rfl rfl rfl fun cdv m s1 hm I => ?_
  have v0 : ∀ {pos : Pos} {x z : Str} {t : Tok} {m' : Str → Option Value}, (envOfC "pair_place" (defScope sPair) s.heap.objs.size f cdv).kindOf x = some .local → m' x = some (.str z t) → (x == ("__debug__" : Str)) = false →
      Ev prog w (A.deeper (envOfC "pair_place" (defScope sPair) s.heap.objs.size f cdv)) (envOfC "pair_place" (defScope sPair) s.heap.objs.size f cdv) (Kx K mg base s s.heap.objs.size m') (.Name x pos) (fun u => ∃ t, u = .str z t) := fun {pos x z t m'} hk h hd => ev_var rfl hk h ⟨t, rfl⟩ hd
  refine wpAny_execs_cons ?_
  have hv : ∀ (Q : Value → Shared → Prop) (E : Value → Shared → Prop), (∀ s', Kx K mg base s s.heap.objs.size m s' → Q (.ref a) s') → wpAny (model prog w) (A.deeper (envOfC "pair_place" (defScope sPair) s.heap.objs.size f cdv)) (eval (.Name "pair" ⟨0, 0, 0, 0⟩) (envOfC "pair_place" (defScope sPair) s.heap.objs.size f cdv)) Q E s1 := fun Q E h =>
    ev_var (P := fun u => u = .ref a) rfl rfl hm rfl (by decide) s1 Q E I fun u s' I' hu => by subst hu; exact h s' I'
  refine wpAny_Assign_stores (ev_var (P := fun u => u = .ref a) rfl rfl hm rfl (by decide) s1 _ _ I fun u s2 I2 hu => ?_) rfl rfl
  subst hu
  show wpAny _ _ (assign _ _ (.ref a)) _ _ s2
  have ht2 : IsTup s2.heap a #[.str l t1, .str r t2] := by
    obtain ⟨o, ho, hc, n, hd⟩ := ht
    exact ⟨o, I2.c.keep _ _ ho, hc, n, hd⟩
  refine assign_Tuple_tuple hh ht2 rfl rfl fun h3 hx => ?_
  have I3 := I2.ext hx
  refine assignInOrder_cons (wpAny_assign_Name (wpAny_storeName_local (env := envOfC "pair_place" (defScope sPair) s.heap.objs.size f cdv) rfl I3.c.ns (fun h' hn' hs' => ?_) rfl))
  obtain ⟨m4, e4⟩ : ∃ m4 : Str → Option Value, m4 = (fun y : Str => if y = "left" then some (Value.str l t1) else m y) := ⟨_, rfl⟩
  have I4 : Kx K mg base s s.heap.objs.size m4 { s2 with heap := h', toks := s2.toks + 1 } := by
    refine ⟨I3.mod, I3.bs, ⟨?_, e4 ▸ hn', fun b o e => ?_, I3.c.fresh⟩⟩
    · obtain ⟨h₁, tk, rfl⟩ := I2.c.same
      exact ⟨h', _, rfl⟩
    · exact hs'.extBut b o (Nat.ne_of_lt (Nat.lt_of_lt_of_le (Heap.lt_size e) I3.c.fresh)) (I3.c.keep b o e)
  refine assignInOrder_cons (wpAny_assign_Name (wpAny_storeName_local (env := envOfC "pair_place" (defScope sPair) s.heap.objs.size f cdv) rfl I4.c.ns (fun h'' hn'' hs'' => ?_) rfl))
  obtain ⟨m5, e5⟩ : ∃ m5 : Str → Option Value, m5 = (fun y : Str => if y = "right" then some (Value.str r t2) else m4 y) := ⟨_, rfl⟩
  have I5 : Kx K mg base s s.heap.objs.size m5 { s2 with heap := h'', toks := s2.toks + 1 + 1 } := by
    refine ⟨I4.mod, I4.bs, ⟨?_, e5 ▸ hn'', fun b o e => ?_, I4.c.fresh⟩⟩
    · obtain ⟨h₁, tk, rfl⟩ := I2.c.same
      exact ⟨h'', _, rfl⟩
    · exact hs''.extBut b o (Nat.ne_of_lt (Nat.lt_of_lt_of_le (Heap.lt_size e) I4.c.fresh)) (I4.c.keep b o e)
  refine assignInOrder_nil ?_
  refine wpAny_execs_cons ?_
  have hr5 : m5 "right" = some (.str r t2) := by
    rw [e5]
    exact if_pos rfl
  have hl5 : m5 "left" = some (.str l t1) := by
    rw [e5, e4]
    show (if ("left" : Str) = "right" then _ else (if ("left" : Str) = "left" then _ else _)) = _
    rw [if_neg (by decide +kernel), if_pos rfl]
  exact ret_tup (.cons (ev_isi rfl rfl mI rfl mS (v0 rfl hl5 (by decide))) (.cons (ev_strs rfl rfl mS (v0 rfl hl5 (by decide))) (.cons (ev_isi rfl rfl mI rfl mS (v0 rfl hr5 (by decide))) (.cons (ev_strs rfl rfl mS (v0 rfl hr5 (by decide))) .nil rfl) rfl) rfl) rfl) I5 (fun us h => four_flat h) fun u s' q => ⟨u, rfl, q⟩
/-- pairs under such a key -/
theorem keyFn_pair {X : Cx} {H : Hp} {f : Addr} {xs : List (Addr × (Str × Str))} (h : KeyPair X.prog X.w X.K X.mg X.base f kPlace) (hx : ∀ x ∈ xs, H x.1 = some (.tup [.str x.2.1, .str x.2.2])) :
    KeyFn X H f (T := Addr × (Str × Str)) (fun x => V.ref x.1) (fun hp _ x => ∃ t1 t2, IsTup hp x.1 #[.str x.2.1 t1, .str x.2.2 t2]) (fun x => kPlace x.2) xs where
  al := AllAlike.of fun _ _ => by simp [alike, alikeAll, kPlace]
  so := Sortable.tuples fun _ => ⟨_, _, rfl⟩
  dp := fun x _ => by simp [kPlace, PyData.depth, PyData.depthAll]
  each := fun pins σ s us I r => by
    have go : ∀ {us : List Value} {xs : List (Addr × (Str × Str))}, (∀ x ∈ xs, H x.1 = some (.tup [.str x.2.1, .str x.2.2])) → Vals (xs.map fun x => V.ref x.1) us → EachIs (fun u x => RelV (V.ref x.1) u ∧ ∃ t1 t2, IsTup s.heap x.1 #[.str x.2.1 t1, .str x.2.2 t2]) us xs := by
      intro us xs
      induction xs generalizing us with
      | nil => intro _ r; cases r; exact .nil
      | cons x xs ih =>
        intro hx r
        cases r with
        | cons r1 r2 =>
          refine .cons ⟨r1, ?_⟩ (ih (fun y hy => hx y (List.mem_cons_of_mem _ hy)) r2)
          obtain ⟨ts, rts, ht, _⟩ := I.tuple (SqT.of (K := X.K) (hx x List.mem_cons_self))
          cases rts with
          | cons a1 rr =>
            cases rr with
            | cons a2 rr =>
              cases rr
              obtain ⟨t1, rfl⟩ := a1
              obtain ⟨t2, rfl⟩ := a2
              exact ⟨t1, t2, ht⟩
    exact go hx r
  turn := fun A s h0 u x hroom hh mod hbs hk r hl => by
    obtain ⟨t1, t2, o, ho, hc, n, hd⟩ := hl
    cases r
    exact h A s x.1 x.2.1 x.2.2 t1 t2 hroom hh mod hbs ⟨o, hk _ _ ho, hc, n, hd⟩
end
/-! ### a font as data -/
abbrev AdvL := List (Str × Int)
abbrev KrnL := List ((Str × Str) × Int)
def lget {κ : Type} [DecidableEq κ] (l : List (κ × Int)) (k : κ) : Option Int := (l.find? fun p => decide (p.1 = k)).map (·.2)
def lput {κ : Type} [DecidableEq κ] (l : List (κ × Int)) (k : κ) (v : Int) : List (κ × Int) := if (l.any fun p => decide (p.1 = k)) = true then l.map (fun p => if p.1 = k then (p.1, v) else p) else l ++ [(k, v)]
def ldrop {κ : Type} [DecidableEq κ] (l : List (κ × Int)) (k : κ) : List (κ × Int) := l.filter fun p => decide (p.1 ≠ k)
/-- the same list under other keys, as a tracked dict holds it -/
def enc {κ κ' : Type} (c : κ → κ') (l : List (κ × Int)) : List (κ' × V) := l.map fun p => (c p.1, .int p.2)
section
variable {κ κ' : Type} [DecidableEq κ] [DecidableEq κ'] {c : κ → κ'} (hc : ∀ a b, c a = c b → a = b)
include hc
theorem dec_c (a b : κ) : decide (c a = c b) = decide (a = b) := by
  by_cases h : a = b
  · rw [decide_eq_true h, decide_eq_true (congrArg c h)]
  · rw [decide_eq_false h, decide_eq_false fun z => h (hc _ _ z)]
theorem enc_get (l : List (κ × Int)) (k : κ) : valV (enc c l) (c k) = (lget l k).map V.int := by
  unfold valV lget enc
  rw [List.find?_map]
  have e : ((fun kv : κ' × V => decide (kv.1 = c k)) ∘ fun p : κ × Int => (c p.1, V.int p.2)) = fun p => decide (p.1 = k) := by
    funext p
    exact dec_c hc _ _
  rw [e]
  cases l.find? fun p => decide (p.1 = k) <;> rfl
theorem enc_put (l : List (κ × Int)) (k : κ) (v : Int) : putK (enc c l) (c k) (.int v) = enc c (lput l k v) := by
  unfold putK lput enc
  rw [List.any_map]
  have e : ((fun kv : κ' × V => decide (kv.1 = c k)) ∘ fun p : κ × Int => (c p.1, V.int p.2)) = fun p => decide (p.1 = k) := by
    funext p
    exact dec_c hc _ _
  rw [e]
  split
  · rw [List.map_map, List.map_map]
    refine List.map_congr_left fun p _ => ?_
    show (if c p.1 = c k then (c p.1, V.int v) else (c p.1, V.int p.2)) = _
    by_cases h : p.1 = k
    · rw [if_pos (congrArg c h)]
      simp [h]
    · rw [if_neg fun z => h (hc _ _ z)]
      simp [h]
  · rw [List.map_append]
    rfl
theorem enc_drop (l : List (κ × Int)) (k : κ) : dropK (enc c l) (c k) = enc c (ldrop l k) := by
  unfold dropK ldrop enc
  rw [List.filter_map]
  congr 1
  refine List.filter_congr fun p _ => ?_
  show decide (c p.1 ≠ c k) = decide (p.1 ≠ k)
  by_cases h : p.1 = k
  · rw [decide_eq_false (by simp [h]), decide_eq_false (by simp [h])]
  · rw [decide_eq_true (p := c p.1 ≠ c k) (fun z => h (hc _ _ z)), decide_eq_true (p := p.1 ≠ k) h]
end
def cA (g : Str) : Key := .inr g
def cK (p : Str × Str) : List Key := [.inr p.1, .inr p.2]
theorem cA_inj (a b : Str) (h : cA a = cA b) : a = b := Sum.inr.inj h
theorem cK_inj (a b : Str × Str) (h : cK a = cK b) : a = b := by
  obtain ⟨a1, a2⟩ := a
  obtain ⟨b1, b2⟩ := b
  have h1 : (Sum.inr a1 : Key) = Sum.inr b1 ∧ [(Sum.inr a2 : Key)] = [Sum.inr b2] := List.cons.inj h
  have h2 := List.cons.inj h1.2
  rw [Sum.inr.inj h1.1, Sum.inr.inj h2.1]
/-- what a change remembers -/
inductive Rec where
  | adv (g : Str) (old : Option Int)
  | krn (l r : Str) (old : Option Int)
  | blank (old : Int)
def ov : Option Int → V
  | none => .non
  | some n => .int n
def RecAt (H : Hp) (t : Addr) : Rec → Prop
  | .adv g old => H t = some (.tup [.str "advance", .str g, ov old])
  | .krn l r old => ∃ q, H t = some (.tup [.str "kern", .ref q, ov old]) ∧ H q = some (.tup [.str l, .str r])
  | .blank old => H t = some (.tup [.str "blank", .str "", .int old])
def RecsAt (H : Hp) (l : Addr) (rs : List Rec) : Prop := ∃ ts : List Addr, H l = some (.lst (ts.map V.ref)) ∧ Paired (RecAt H) ts rs
structure FSt where
  adv : AdvL
  krn : KrnL
  blank : Int
/-- where a font's parts stand -/
structure Own where
  dx : Addr
  dA : Addr
  dN : Addr
  dP : Addr
def fflds (o : Own) (b : Int) : List (Str × V) := [("_advances", .ref o.dA), ("_kerns", .ref o.dN), ("_blank", .int b), ("_past", .ref o.dP)]
structure FontAt (C : Addr) (H : Hp) (p : Addr) (o : Own) (st : FSt) (past : List (List Rec)) : Prop where
  ob : H p = some (.ins C o.dx (fflds o st.blank))
  da : H o.dA = some (.dK (enc cA st.adv))
  dn : H o.dN = some (.dT (enc cK st.krn))
  dp : ∃ ls : List Addr, H o.dP = some (.lst (ls.map V.ref)) ∧ Paired (RecsAt H) ls past ∧ ∀ l ∈ ls, l ≠ o.dP
  small : st.adv.length ≤ 1000 ∧ st.krn.length ≤ 1000 ∧ past.length ≤ 1000
/-- all but the font's own parts stays -/
def KeepF (p : Addr) (o : Own) (H H' : Hp) : Prop := ∀ a u, H a = some u → a ≠ p → a ≠ o.dA → a ≠ o.dN → a ≠ o.dP → H' a = some u
theorem KeepF.refl {p : Addr} {o : Own} {H : Hp} : KeepF p o H H := fun _ _ e _ _ _ _ => e
theorem KeepF.trans {p : Addr} {o : Own} {H H1 H2 : Hp} (a : KeepF p o H H1) (b : KeepF p o H1 H2) : KeepF p o H H2 := fun x u e h1 h2 h3 h4 => b x u (a x u e h1 h2 h3 h4) h1 h2 h3 h4
theorem KeepF.same {p : Addr} {o : Own} {H H' : Hp} (s : Same H H') : KeepF p o H H' := fun x u e _ _ _ _ => s x u e
theorem RecAt.sm {H H' : Hp} (s : ∀ a xs, H a = some (.tup xs) → H' a = some (.tup xs)) : ∀ {t : Addr} {r : Rec}, RecAt H t r → RecAt H' t r
  | _, .adv _ _, h => s _ _ h
  | _, .krn _ _ _, ⟨q, h1, h2⟩ => ⟨q, s _ _ h1, s _ _ h2⟩
  | _, .blank _, h => s _ _ h
theorem paired_mono {α β : Type} {R S : α → β → Prop} (h : ∀ a b, R a b → S a b) : ∀ {as : List α} {bs : List β}, Paired R as bs → Paired S as bs
  | _, _, .nil => .nil
  | _, _, .cons r t => .cons (h _ _ r) (paired_mono h t)
theorem paired_mem {α β : Type} {R S : α → β → Prop} : ∀ {as : List α} {bs : List β}, Paired R as bs → (∀ a ∈ as, ∀ b, R a b → S a b) → Paired S as bs
  | _, _, .nil, _ => .nil
  | _, _, .cons r t, h => .cons (h _ List.mem_cons_self _ r) (paired_mem t fun a ha => h a (List.mem_cons_of_mem _ ha))
theorem RecsAt.sm {H H' : Hp} {l : Addr} {rs : List Rec} (h : RecsAt H l rs) (hl : ∀ xs, H l = some (.lst xs) → H' l = some (.lst xs)) (s : ∀ a xs, H a = some (.tup xs) → H' a = some (.tup xs)) : RecsAt H' l rs := by
  obtain ⟨ts, h1, h2⟩ := h
  exact ⟨ts, hl _ h1, paired_mono (fun _ _ => RecAt.sm s) h2⟩
theorem look_ne {k a : Str} {v : V} {l : List (Str × V)} (h : (k == a) = false) : ((a, v) :: l).lookup k = l.lookup k := by simp [List.lookup, h]
theorem look_eq {k : Str} {v : V} {l : List (Str × V)} : ((k, v) :: l).lookup k = some v := by simp [List.lookup]
theorem fflds_adv (o : Own) (b : Int) : (fflds o b).lookup ("_advances" : Str) = some (.ref o.dA) := look_eq
theorem fflds_krn (o : Own) (b : Int) : (fflds o b).lookup ("_kerns" : Str) = some (.ref o.dN) := (look_ne (by decide +kernel)).trans look_eq
theorem fflds_blank (o : Own) (b : Int) : (fflds o b).lookup ("_blank" : Str) = some (.int b) := (look_ne (by decide +kernel)).trans ((look_ne (by decide +kernel)).trans look_eq)
theorem fflds_past (o : Own) (b : Int) : (fflds o b).lookup ("_past" : Str) = some (.ref o.dP) := (look_ne (by decide +kernel)).trans ((look_ne (by decide +kernel)).trans ((look_ne (by decide +kernel)).trans look_eq))
theorem fflds_no (o : Own) (b : Int) {m : Str} (h1 : (m == ("_advances" : Str)) = false) (h2 : (m == ("_kerns" : Str)) = false) (h3 : (m == ("_blank" : Str)) = false) (h4 : (m == ("_past" : Str)) = false) : (fflds o b).lookup m = none :=
  (look_ne h1).trans ((look_ne h2).trans ((look_ne h3).trans ((look_ne h4).trans rfl)))
theorem putF_ne {k a : Str} {v w : V} {l : List (Str × V)} (h : ¬ a = k) : putF k v ((a, w) :: l) = (a, w) :: putF k v l := by
  show (if a = k then _ else _) = _
  rw [if_neg h]
theorem putF_eq {k : Str} {v w : V} {l : List (Str × V)} : putF k v ((k, w) :: l) = (k, v) :: l := by
  show (if k = k then _ else _) = _
  rw [if_pos rfl]
theorem fflds_put (o : Own) (b n : Int) : putF "_blank" (.int n) (fflds o b) = fflds o n := by
  unfold fflds
  rw [putF_ne (by decide +kernel), putF_ne (by decide +kernel), putF_eq]
theorem fflds_make (o : Own) (b : Int) : putF "_past" (.ref o.dP) (putF "_blank" (.int b) (putF "_kerns" (.ref o.dN) (putF "_advances" (.ref o.dA) []))) = fflds o b := by
  show putF "_past" (.ref o.dP) (putF "_blank" (.int b) (putF "_kerns" (.ref o.dN) [("_advances", .ref o.dA)])) = _
  rw [putF_ne (by decide +kernel)]
  show putF "_past" (.ref o.dP) (putF "_blank" (.int b) [("_advances", .ref o.dA), ("_kerns", .ref o.dN)]) = _
  rw [putF_ne (by decide +kernel), putF_ne (by decide +kernel)]
  show putF "_past" (.ref o.dP) [("_advances", .ref o.dA), ("_kerns", .ref o.dN), ("_blank", .int b)] = _
  rw [putF_ne (by decide +kernel), putF_ne (by decide +kernel), putF_ne (by decide +kernel)]
  rfl
theorem FontAt.kinds {C : Addr} {H : Hp} {p : Addr} {o : Own} {st : FSt} {past : List (List Rec)} (F : FontAt C H p o st past) : p ≠ o.dA ∧ p ≠ o.dN ∧ p ≠ o.dP ∧ o.dA ≠ o.dN ∧ o.dA ≠ o.dP ∧ o.dN ≠ o.dP := by
  obtain ⟨ls, h, _, _⟩ := F.dp
  exact ⟨ne_of F.ob F.da (by intro z; cases z), ne_of F.ob F.dn (by intro z; cases z), ne_of F.ob h (by intro z; cases z), ne_of F.da F.dn (by intro z; cases z), ne_of F.da h (by intro z; cases z), ne_of F.dn h (by intro z; cases z)⟩
/-- what was no part of the font and stood, stands: so the font too, if its own parts do -/
theorem FontAt.sm {C : Addr} {H H' : Hp} {p : Addr} {o : Own} {st : FSt} {past : List (List Rec)} (F : FontAt C H p o st past) (s : Same H H') : FontAt C H' p o st past := by
  obtain ⟨ls, h, h1, h2⟩ := F.dp
  exact ⟨s _ _ F.ob, s _ _ F.da, s _ _ F.dn, ⟨ls, s _ _ h, paired_mono (fun _ _ r => r.sm (fun _ => s _ _) fun _ _ => s _ _) h1, h2⟩, F.small⟩
/-! ### the small methods -/
structure TxF (K : PySem.W.Frag) (mg : Str → Option Value) (C CI fE fW fBt fWr : Addr) : Prop where
  cl : Cls K C
  nA : NoAttr K C "_advances"
  nN : NoAttr K C "_kerns"
  nB : NoAttr K C "_blank"
  nP : NoAttr K C "_past"
  adv : ∃ u, Con K C "MOST_ADVANCE" (.int 1000000) u
  und : ∃ u, Con K C "MOST_UNDO" (.int 50) u
  err : ErrC K mg "InvalidNumber" CI fE
  whole : At K mg "is_whole" fW
  btw : At K mg "check_between" fBt
  wr : At K mg "write" fWr
  len : mg "len" = none
def inR (v : V) (lo hi : Int) : Prop := ∃ n, v = .int n ∧ lo ≤ n ∧ n ≤ hi
def spBetween (K : PySem.W.Frag) (CI : Addr) : Sp := fun vs H Q E => ∃ (v : V) (i b : Bool) (lo hi : Int), vs = [v, .int lo, .int hi] ∧ Kd K H v i b ∧ ((i && !b) = true → ∃ n, v = .int n) ∧ ((i && !b) = false → ∀ n, v ≠ .int n) ∧
  (¬ inR v lo hi → ∀ d, H d = none → E (.ref CI) (some d) (upd H d (.xd [("value", v)]))) ∧ (inR v lo hi → Q .non H)
def spWriteK : Sp := fun vs H Q _ => ∃ (d : Addr) (g : Str) (x : Option Int) (l : AdvL), vs = [.ref d, .str g, ov x] ∧ H d = some (.dK (enc cA l)) ∧ l.length ≤ 1000 ∧
  Q (ov (lget l g)) (upd H d (.dK (enc cA (match x with | none => ldrop l g | some n => lput l g n))))
def spWriteT : Sp := fun vs H Q _ => ∃ (d q : Addr) (k : Str × Str) (x : Option Int) (l : KrnL), vs = [.ref d, .ref q, ov x] ∧ H d = some (.dT (enc cK l)) ∧ H q = some (.tup [.str k.1, .str k.2]) ∧ l.length ≤ 1000 ∧
  Q (ov (lget l k)) (upd H d (.dT (enc cK (match x with | none => ldrop l k | some n => lput l k n))))
theorem upd_id {H : Hp} {d : Addr} {u : HO} (h : H d = some u) : upd H d u = H := by
  funext b
  by_cases e : b = d
  · rw [e, upd_same, h]
  · rw [upd_ne e]
theorem ov_get (x : Option Int) : (x.map V.int).getD .non = ov x := by cases x <;> rfl
theorem ov_isN (x : Option Int) : decide (ov x = .non) = x.isNone := by cases x <;> simp [ov]
theorem ldrop_none {κ : Type} [DecidableEq κ] {l : List (κ × Int)} {k : κ} (h : lget l k = none) : ldrop l k = l := by
  unfold lget at h
  unfold ldrop
  rw [Option.map_eq_none_iff, List.find?_eq_none] at h
  rw [List.filter_eq_self]
  intro p hp
  have := h p hp
  simpa using this
theorem kV_cK (k : Str × Str) : (cK k).map kV = [V.str k.1, V.str k.2] := rfl
section
variable {P : Program} {w : World} {K : PySem.W.Frag} {mg : Str → Option Value} {base : Heap} {C CI fE fW fBt fWr : Addr}
abbrev sIsB : Stmt := top 10
theorem scIsB : FnScope ["value", "low", "high"] ["value", "low", "high"] (defScope sIsB) := ⟨rfl, rfl, rfl, by decide +kernel, rfl, by decide +kernel, by decide +kernel⟩
/-- is_between: the answer of inR -/
def spIsB (K : PySem.W.Frag) : Sp := fun vs H Q _ => ∃ (v : V) (i b : Bool) (lo hi : Int), vs = [v, .int lo, .int hi] ∧ Kd K H v i b ∧ ((i && !b) = true → ∃ n, v = .int n) ∧ ((i && !b) = false → ∀ n, v ≠ .int n) ∧
  (inR v lo hi → Q (.bl true) H) ∧ (¬ inR v lo hi → Q (.bl false) H)
theorem ok_isB {f : Addr} {fd fdW : FuncData} (F : Fun K "is_between" "is_between" sIsB f fd) (T : TxF K mg C CI fE fW fBt fWr) (GW : FnOk P w K mg base CX0 1 fW fdW ["value"] (spWhole K)) (bW : Binds K fdW ["value"] []) :
    FnOk P w K mg base CX0 2 f fd ["value", "low", "high"] (spIsB K) := by
  refine F.ok scIsB (fun vs H Q E h => by obtain ⟨v, i, b, lo, hi, rfl, _⟩ := h; rfl) (fun cdv A outer s H vs Q E hr h => ?_)
  obtain ⟨v, i, b, lo, hi, rfl, kd, h1, h0, kT, kF⟩ := h
  refine ⟨_, pss_one (ps_ret (pe_and (pe_call GW hr (by rfl) T.whole.g T.whole.k bW .nil pass0 (pa_cons (pv 0) pa_nil)) (pe_one (pe_chain op_le op_le (pv 1) (pv 0) (pv 2))))), ?_⟩
  refine ⟨_, rfl, v, i, b, rfl, kd, _, rfl, ?_⟩
  cases hib : (i && !b) with
  | false => exact iteF (kF fun ⟨n, e, _⟩ => h0 hib n e)
  | true =>
    obtain ⟨n, rfl⟩ := h1 hib
    refine iteT ⟨_, rfl, _, rfl, _, _, rfl, rfl, _, rfl, ?_⟩
    refine ite2 (fun hl => ?_) (fun hl => ?_)
    · refine ⟨_, rfl, _, _, rfl, rfl, ?_⟩
      have hl' : lo ≤ n := of_decide_eq_true hl
      by_cases hh : n ≤ hi
      · show Q (.bl (decide (n ≤ hi))) H
        rw [decide_eq_true hh]
        exact kT ⟨n, rfl, hl', hh⟩
      · show Q (.bl (decide (n ≤ hi))) H
        rw [decide_eq_false hh]
        exact kF fun ⟨m, e, _, e2⟩ => by cases e; exact hh e2
    · exact kF fun ⟨m, e, e1, _⟩ => by cases e; exact hl (decide_eq_true e1)
abbrev sBetween : Stmt := top 11
theorem scBetween : FnScope ["value", "low", "high"] ["value", "low", "high"] (defScope sBetween) := ⟨rfl, rfl, rfl, by decide +kernel, rfl, by decide +kernel, by decide +kernel⟩
theorem ok_between {f fI : Addr} {fd fdI fdE : FuncData} (F : Fun K "check_between" "check_between" sBetween f fd) (T : TxF K mg C CI fE fW fBt fWr) (aI : At K mg "is_between" fI) (GI : FnOk P w K mg base CX0 2 fI fdI ["value", "low", "high"] (spIsB K)) (bI : Binds K fdI ["value", "low", "high"] [])
    (GE : FnOk P w K mg base CX0 1 fE fdE ["self", "value"] (spEx1 CI "value")) (bE : Binds K fdE ["self", "value"] []) : FnOk P w K mg base (L2.CX P w) 3 f fd ["value", "low", "high"] (spBetween K CI) := by
  refine F.okX scBetween (fun vs H Q E h => by obtain ⟨v, i, b, lo, hi, rfl, _⟩ := h; rfl) (fun cdv A outer s H vs Q E hr h => ?_)
  obtain ⟨v, i, b, lo, hi, rfl, kd, h1, h0, kE, kQ⟩ := h
  refine ⟨_, pss_one (ps_if (pt_not (pt_val (pe_call GI hr (by rfl) aI.g aI.k bI .nil pass0 (pa_cons (pv 0) (pa_cons (pv 1) (pa_cons (pv 2) pa_nil))))))
    (pss_one (ps_raise1 T.err GE hr bE pass0 rfl (takes_of rfl rfl rfl rfl) (pv 0) (fun σ H P R h => mono_tVar σ H P R h))) pss_nil), ?_⟩
  refine ⟨_, rfl, _, rfl, _, rfl, v, i, b, lo, hi, rfl, kd, h1, h0, fun hin => ?_, fun hout => ?_⟩
  · exact ⟨_, rfl, iteF (kQ hin)⟩
  · exact ⟨_, rfl, iteT ⟨_, rfl, fun d hd => kE hout d hd⟩⟩
abbrev sWrite : Stmt := top 18
theorem scWrite : FnScope ["table", "key", "value", "old"] ["table", "key", "value"] (defScope sWrite) := ⟨rfl, rfl, rfl, by decide +kernel, rfl, by decide +kernel, by decide +kernel⟩
theorem ok_writeK {f : Addr} {fd : FuncData} (F : Fun K "write" "write" sWrite f fd) : FnOk P w K mg base CX0 1 f fd ["table", "key", "value"] spWriteK := by
  refine F.ok scWrite (fun vs H Q E h => ?_) (fun cdv A outer s H vs Q E hr h => ?_)
  · obtain ⟨d, g, x, l, rfl, _⟩ := h
    rfl
  · obtain ⟨d, g, x, l, rfl, hd, hl, k⟩ := h
    have hu := hu_of hr
    have nd := scWrite.nd
    refine ⟨_, pss_cons (ps_set (i := 3) nd rfl (Or.inl rfl) (pe_dget1 hu (pv 0) (pv 1) ⟨rfl, rfl, rfl, rfl⟩))
      (pss_cons (ps_if (pt_cmp (pc_isN (pv 2))) (pss_one (ps_expr (pe_dpop2 (pv 0) (pv 1) pe_non ⟨rfl, rfl, rfl, rfl⟩))) (pss_one (ps_dput hu (pv 0) (pv 1) (pv 2) rfl)))
      (pss_one (ps_ret (pv 3)))), ?_⟩
    refine ⟨_, rfl, d, rfl, .inl ⟨_, .inl hd⟩, _, rfl, _, DGet.k (k := Sum.inr g) hd, ?_⟩
    rw [show valV (enc cA l) (Sum.inr g : Key) = (lget l g).map V.int from enc_get cA_inj l g, ov_get]
    refine ⟨_, rfl, _, rfl, ?_⟩
    rw [ov_isN]
    cases x with
    | none =>
      refine iteT ⟨_, rfl, d, rfl, .inl ⟨_, .inl hd⟩, _, rfl, _, Sum.inr g, hd, rfl, fun v hv => ?_, fun hn => ?_⟩
      · have e : dropK (enc cA l) (Sum.inr g : Key) = enc cA (ldrop l g) := enc_drop cA_inj l g
        rw [e]
        exact ⟨_, rfl, k⟩
      · rw [show valV (enc cA l) (Sum.inr g : Key) = (lget l g).map V.int from enc_get cA_inj l g, Option.map_eq_none_iff] at hn
        rw [ldrop_none hn, upd_id hd] at k
        exact ⟨_, rfl, k⟩
    | some n =>
      refine iteF ⟨_, rfl, _, rfl, _, rfl, d, _, rfl, DPut.k (k := Sum.inr g) hd (small1000 (by unfold enc; rw [List.length_map]; exact hl)), ?_⟩
      have e : putK (enc cA l) (Sum.inr g : Key) (.int n) = enc cA (lput l g n) := enc_put cA_inj l g n
      rw [show ov (some n) = V.int n from rfl, e]
      exact ⟨_, rfl, k⟩
theorem ok_writeT {f : Addr} {fd : FuncData} (F : Fun K "write" "write" sWrite f fd) : FnOk P w K mg base CX0 1 f fd ["table", "key", "value"] spWriteT := by
  refine F.ok scWrite (fun vs H Q E h => ?_) (fun cdv A outer s H vs Q E hr h => ?_)
  · obtain ⟨d, q, g, x, l, rfl, _⟩ := h
    rfl
  · obtain ⟨d, q, g, x, l, rfl, hd, hq, hl, k⟩ := h
    have hu := hu_of hr
    have nd := scWrite.nd
    have hq' : H q = some (.tup ((cK g).map kV)) := hq
    refine ⟨_, pss_cons (ps_set (i := 3) nd rfl (Or.inl rfl) (pe_dget1 hu (pv 0) (pv 1) ⟨rfl, rfl, rfl, rfl⟩))
      (pss_cons (ps_if (pt_cmp (pc_isN (pv 2))) (pss_one (ps_expr (pe_bm PySem.F.plainAttrs_dict PySem.F.slot_dict_pop PySem.F.type_dict_pop (DX.mt_popT hu) (pv 0) (pa_cons (pv 1) (pa_cons pe_non pa_nil))))) (pss_one (ps_dput hu (pv 0) (pv 1) (pv 2) rfl)))
      (pss_one (ps_ret (pv 3)))), ?_⟩
    refine ⟨_, rfl, d, rfl, .inr ⟨_, .inl hd⟩, _, rfl, _, DGet.t (k := cK g) hd hq', ?_⟩
    rw [enc_get cK_inj l g, ov_get]
    refine ⟨_, rfl, _, rfl, ?_⟩
    rw [ov_isN]
    cases x with
    | none =>
      refine iteT ⟨_, rfl, .inr (.inr (.inl ⟨rfl, .inr ⟨_, hd⟩⟩)), _, rfl, d, _, cK g, q, _, rfl, rfl, hd, hq', fun v hv => ?_, fun hn => ?_⟩
      · rw [enc_drop cK_inj l g]
        exact ⟨_, rfl, k⟩
      · rw [enc_get cK_inj l g, Option.map_eq_none_iff] at hn
        rw [ldrop_none hn, upd_id hd] at k
        exact ⟨_, rfl, k⟩
    | some n =>
      refine iteF ⟨_, rfl, _, rfl, _, rfl, d, _, rfl, DPut.t (k := cK g) hd hq' (small1000 (by unfold enc; rw [List.length_map]; exact hl)), ?_⟩
      rw [show ov (some n) = V.int n from rfl, enc_put cK_inj l g n]
      exact ⟨_, rfl, k⟩
end
/-! ### the small methods of a font -/
theorem noneU {H : Hp} {a b : Addr} {u : HO} (e : upd H a u b = none) : H b = none := by
  by_cases h : b = a
  · rw [h, upd_same] at e
    cases e
  · rwa [upd_ne h] at e
section
variable {C : Addr} {H H' : Hp} {p : Addr} {o : Own} {st st' : FSt} {past : List (List Rec)}
theorem FontAt.keepT (F : FontAt C H p o st past) (k : KeepF p o H H') {a : Addr} {xs : List V} (h : H a = some (.tup xs)) : H' a = some (.tup xs) := by
  obtain ⟨ls, hp, _⟩ := F.dp
  exact k a _ h (ne_of h F.ob (by intro z; cases z)) (ne_of h F.da (by intro z; cases z)) (ne_of h F.dn (by intro z; cases z)) (ne_of h hp (by intro z; cases z))
theorem FontAt.keepL (F : FontAt C H p o st past) (k : KeepF p o H H') {a : Addr} {xs : List V} (h : H a = some (.lst xs)) (ha : a ≠ o.dP) : H' a = some (.lst xs) :=
  k a _ h (ne_of h F.ob (by intro z; cases z)) (ne_of h F.da (by intro z; cases z)) (ne_of h F.dn (by intro z; cases z)) ha
theorem FontAt.recd (F : FontAt C H p o st past) (k : KeepF p o H H') {t : Addr} {r : Rec} (h : RecAt H t r) : RecAt H' t r := RecAt.sm (fun _ _ e => F.keepT k e) h
theorem FontAt.recs (F : FontAt C H p o st past) (k : KeepF p o H H') {l : Addr} {rs : List Rec} (h : RecsAt H l rs) (hl : l ≠ o.dP) : RecsAt H' l rs := h.sm (fun _ e => F.keepL k e hl) fun _ _ e => F.keepT k e
theorem FontAt.put (F : FontAt C H p o st past) (k : KeepF p o H H') (ob : H' p = some (.ins C o.dx (fflds o st'.blank))) (da : H' o.dA = some (.dK (enc cA st'.adv))) (dn : H' o.dN = some (.dT (enc cK st'.krn)))
    (dp : ∀ u, H o.dP = some u → H' o.dP = some u) (sm : st'.adv.length ≤ 1000 ∧ st'.krn.length ≤ 1000) : FontAt C H' p o st' past := by
  obtain ⟨ls, h, h1, h2⟩ := F.dp
  exact ⟨ob, da, dn, ⟨ls, dp _ h, paired_mem h1 fun l hl rs r => F.recs k r (h2 l hl), h2⟩, sm.1, sm.2, F.small.2.2⟩
theorem KeepF.upA (u : HO) : KeepF p o H (upd H o.dA u) := fun a v e _ h _ _ => by rw [upd_ne h]; exact e
theorem KeepF.upN (u : HO) : KeepF p o H (upd H o.dN u) := fun a v e _ _ h _ => by rw [upd_ne h]; exact e
theorem KeepF.upP (u : HO) : KeepF p o H (upd H o.dP u) := fun a v e _ _ _ h => by rw [upd_ne h]; exact e
theorem KeepF.upO (u : HO) : KeepF p o H (upd H p u) := fun a v e h _ _ _ => by rw [upd_ne h]; exact e
end
def setA (st : FSt) (g : Str) (x : Option Int) : FSt := { st with adv := match x with | none => ldrop st.adv g | some n => lput st.adv g n }
def setK (st : FSt) (g : Str × Str) (x : Option Int) : FSt := { st with krn := match x with | none => ldrop st.krn g | some n => lput st.krn g n }
def setB (st : FSt) (n : Int) : FSt := { st with blank := n }
def remember (past : List (List Rec)) (rs : List Rec) : List (List Rec) := if past.length + 1 > 50 then (past ++ [rs]).drop 1 else past ++ [rs]
def spWrA (C : Addr) : Sp := fun vs H Q _ => ∃ (p : Addr) (g : Str) (x : Option Int) (o : Own) (st : FSt) (past : List (List Rec)), vs = [.ref p, .str g, ov x] ∧ FontAt C H p o st past ∧ (setA st g x).adv.length ≤ 1000 ∧
  ∀ H' t, H t = none → KeepF p o H H' → FontAt C H' p o (setA st g x) past → RecAt H' t (.adv g (lget st.adv g)) → Q (.ref t) H'
def spWrK (C : Addr) : Sp := fun vs H Q _ => ∃ (p q : Addr) (g : Str × Str) (x : Option Int) (o : Own) (st : FSt) (past : List (List Rec)), vs = [.ref p, .ref q, ov x] ∧ FontAt C H p o st past ∧ H q = some (.tup [.str g.1, .str g.2]) ∧ (setK st g x).krn.length ≤ 1000 ∧
  ∀ H' t, H t = none → KeepF p o H H' → FontAt C H' p o (setK st g x) past → RecAt H' t (.krn g.1 g.2 (lget st.krn g)) → Q (.ref t) H'
def spPutB (K : PySem.W.Frag) (C CI : Addr) : Sp := fun vs H Q E => ∃ (p : Addr) (v : V) (i b : Bool) (o : Own) (st : FSt) (past : List (List Rec)), vs = [.ref p, v] ∧ FontAt C H p o st past ∧ Kd K H v i b ∧ ((i && !b) = true → ∃ n, v = .int n) ∧ ((i && !b) = false → ∀ n, v ≠ .int n) ∧
  (¬ inR v 0 1000000 → ∀ d, H d = none → E (.ref CI) (some d) (upd H d (.xd [("value", v)]))) ∧
  (∀ n, v = .int n → 0 ≤ n → n ≤ 1000000 → ∀ H' l, H l = none → KeepF p o H H' → FontAt C H' p o (setB st n) past → RecsAt H' l [.blank st.blank] → Q (.ref l) H')
def spRemember (C : Addr) : Sp := fun vs H Q _ => ∃ (p l : Addr) (o : Own) (st : FSt) (past : List (List Rec)) (rs : List Rec), vs = [.ref p, .ref l] ∧ FontAt C H p o st past ∧ RecsAt H l rs ∧ l ≠ o.dP ∧
  ∀ H', KeepF p o H H' → FontAt C H' p o st (remember past rs) → Q .non H'
def spSetB (K : PySem.W.Frag) (C CI : Addr) : Sp := fun vs H Q E => ∃ (p : Addr) (v : V) (i b : Bool) (o : Own) (st : FSt) (past : List (List Rec)), vs = [.ref p, v] ∧ FontAt C H p o st past ∧ Kd K H v i b ∧ ((i && !b) = true → ∃ n, v = .int n) ∧ ((i && !b) = false → ∀ n, v ≠ .int n) ∧
  (¬ inR v 0 1000000 → ∀ d, H d = none → E (.ref CI) (some d) (upd H d (.xd [("value", v)]))) ∧
  (∀ n, v = .int n → 0 ≤ n → n ≤ 1000000 → ∀ H', KeepF p o H H' → FontAt C H' p o (setB st n) (remember past [.blank st.blank]) → Q .non H')
section
variable {P : Program} {w : World} {K : PySem.W.Frag} {mg : Str → Option Value} {base : Heap} {C CI fE fW fBt fWr : Addr}
abbrev sWrA : Stmt := inClass (top 14) 40
theorem scWrA : FnScope ["self", "glyph", "advance"] ["self", "glyph", "advance"] (defScope sWrA) := ⟨rfl, rfl, rfl, by decide +kernel, rfl, by decide +kernel, by decide +kernel⟩
theorem ok_wrA {f : Addr} {fd fdWr : FuncData} (F : Fun K "_write_advance" "Font._write_advance" sWrA f fd) (T : TxF K mg C CI fE fW fBt fWr) (GW : FnOk P w K mg base CX0 1 fWr fdWr ["table", "key", "value"] spWriteK) (bW : Binds K fdWr ["table", "key", "value"] []) :
    FnOk P w K mg base CX0 2 f fd ["self", "glyph", "advance"] (spWrA C) := by
  refine F.ok scWrA (fun vs H Q E h => ?_) (fun cdv A outer s H vs Q E hr h => ?_)
  · obtain ⟨p, g, x, o, st, past, rfl, _⟩ := h
    rfl
  · obtain ⟨p, g, x, o, st, past, rfl, FA, hl, k⟩ := h
    refine ⟨_, pss_one (ps_ret (pe_tup (pa_cons pe_str (pa_cons (pv 1) (pa_cons (pe_call GW hr (by rfl) T.wr.g T.wr.k bW .nil pass0 (pa_cons (pe_fld (pv 0) rfl) (pa_cons (pv 1) (pa_cons (pv 2) pa_nil)))) pa_nil))))), ?_⟩
    refine ⟨_, rfl, _, rfl, p, C, _, _, _, rfl, FA.ob, T.cl, T.nA, fflds_adv _ _, _, rfl, _, rfl, o.dA, g, x, st.adv, rfl, FA.da, FA.small.1, ?_⟩
    refine ⟨by show 3 ≤ sizeLine; decide, fun t ht => ?_⟩
    obtain ⟨k1, k2, k3, k4, k5, k6⟩ := FA.kinds
    have F1 : FontAt C (upd H o.dA (.dK (enc cA (setA st g x).adv))) p o (setA st g x) past :=
      FA.put (KeepF.upA _) ((upd_ne k1).trans FA.ob) upd_same ((upd_ne (Ne.symm k4)).trans FA.dn) (fun u e => (upd_ne (Ne.symm k5)).trans e) ⟨hl, FA.small.2.1⟩
    exact k _ t (noneU ht) ((KeepF.upA _).trans (KeepF.same (same_upd ht))) (F1.sm (same_upd ht)) upd_same
abbrev sWrK : Stmt := inClass (top 14) 41
theorem scWrK : FnScope ["self", "pair", "kern"] ["self", "pair", "kern"] (defScope sWrK) := ⟨rfl, rfl, rfl, by decide +kernel, rfl, by decide +kernel, by decide +kernel⟩
theorem ok_wrK {f : Addr} {fd fdWr : FuncData} (F : Fun K "_write_kern" "Font._write_kern" sWrK f fd) (T : TxF K mg C CI fE fW fBt fWr) (GW : FnOk P w K mg base CX0 1 fWr fdWr ["table", "key", "value"] spWriteT) (bW : Binds K fdWr ["table", "key", "value"] []) :
    FnOk P w K mg base CX0 2 f fd ["self", "pair", "kern"] (spWrK C) := by
  refine F.ok scWrK (fun vs H Q E h => ?_) (fun cdv A outer s H vs Q E hr h => ?_)
  · obtain ⟨p, q, g, x, o, st, past, rfl, _⟩ := h
    rfl
  · obtain ⟨p, q, g, x, o, st, past, rfl, FA, hq, hl, k⟩ := h
    refine ⟨_, pss_one (ps_ret (pe_tup (pa_cons pe_str (pa_cons (pv 1) (pa_cons (pe_call GW hr (by rfl) T.wr.g T.wr.k bW .nil pass0 (pa_cons (pe_fld (pv 0) rfl) (pa_cons (pv 1) (pa_cons (pv 2) pa_nil)))) pa_nil))))), ?_⟩
    refine ⟨_, rfl, _, rfl, p, C, _, _, _, rfl, FA.ob, T.cl, T.nN, fflds_krn _ _, _, rfl, _, rfl, o.dN, q, g, x, st.krn, rfl, FA.dn, hq, FA.small.2.1, ?_⟩
    refine ⟨by show 3 ≤ sizeLine; decide, fun t ht => ?_⟩
    obtain ⟨k1, k2, k3, k4, k5, k6⟩ := FA.kinds
    have F1 : FontAt C (upd H o.dN (.dT (enc cK (setK st g x).krn))) p o (setK st g x) past :=
      FA.put (KeepF.upN _) ((upd_ne k2).trans FA.ob) ((upd_ne k4).trans FA.da) upd_same (fun u e => (upd_ne (Ne.symm k6)).trans e) ⟨FA.small.1, hl⟩
    exact k _ t (noneU ht) ((KeepF.upN _).trans (KeepF.same (same_upd ht))) (F1.sm (same_upd ht)) ⟨q, upd_same, (same_upd ht) _ _ (FA.keepT (KeepF.upN _) hq)⟩
abbrev sPutB : Stmt := inClass (top 14) 34
theorem scPutB : FnScope ["self", "advance", "record"] ["self", "advance"] (defScope sPutB) := ⟨rfl, rfl, rfl, by decide +kernel, rfl, by decide +kernel, by decide +kernel⟩
theorem ok_putB {f : Addr} {fd fdB : FuncData} (F : Fun K "_put_blank" "Font._put_blank" sPutB f fd) (T : TxF K mg C CI fE fW fBt fWr) (GB : FnOk P w K mg base (L2.CX P w) 3 fBt fdB ["value", "low", "high"] (spBetween K CI)) (bB : Binds K fdB ["value", "low", "high"] []) :
    FnOk P w K mg base (L2.CX P w) 4 f fd ["self", "advance"] (spPutB K C CI) := by
  obtain ⟨u1, hC⟩ := T.adv
  refine F.okX scPutB (fun vs H Q E h => ?_) (fun cdv A outer s H vs Q E hr h => ?_)
  · obtain ⟨p, v, i, b, o, st, past, rfl, _⟩ := h
    rfl
  · obtain ⟨p, v, i, b, o, st, past, rfl, FA, kd, h1, h0, kE, k⟩ := h
    have nd := scPutB.nd
    refine ⟨_, pss_cons (ps_expr (pe_call GB hr (by rfl) T.btw.g T.btw.k bB .nil (passes_call (takes_of rfl rfl rfl rfl) (fun _ _ _ _ h => h)) (pa_cons (pv 1) (pa_cons pe_int (pa_cons (pe_con (pv 0) rfl) pa_nil)))))
      (pss_cons (ps_set (i := 2) nd rfl (Or.inl rfl) (pe_tup (pa_cons pe_str (pa_cons pe_str (pa_cons (pe_fld (pv 0) rfl) pa_nil)))))
      (pss_cons (ps_fld (pv 0) (pv 1) rfl) (pss_one (ps_ret (pe_lst (pa_cons (pv 2) pa_nil)))))), ?_⟩
    refine ⟨_, rfl, _, rfl, p, C, _, _, _, _, rfl, FA.ob, T.cl, hC, fflds_no _ _ (by decide +kernel) (by decide +kernel) (by decide +kernel) (by decide +kernel), v, i, b, 0, 1000000, rfl, kd, h1, h0, kE, fun ⟨n, e, n0, n1⟩ => ?_⟩
    subst e
    refine ⟨_, rfl, p, C, _, _, _, rfl, FA.ob, T.cl, T.nB, fflds_blank _ _, by show 3 ≤ sizeLine; decide, fun t ht => ?_⟩
    refine ⟨_, rfl, _, rfl, p, C, _, _, rfl, (same_upd ht) _ _ FA.ob, T.cl, T.nB, (by show 4 < 1000; decide), ?_⟩
    rw [fflds_put]
    refine ⟨_, rfl, by show 1 ≤ sizeLine; decide, fun l hl => ?_⟩
    have F1 := FA.sm (same_upd (o := .tup [.str "blank", .str "", .int st.blank]) ht)
    obtain ⟨k1, k2, k3, k4, k5, k6⟩ := FA.kinds
    have F2 : FontAt C (upd (upd H t (.tup [.str "blank", .str "", .int st.blank])) p (.ins C o.dx (fflds o n))) p o (setB st n) past :=
      F1.put (KeepF.upO _) upd_same ((upd_ne (Ne.symm k1)).trans F1.da) ((upd_ne (Ne.symm k2)).trans F1.dn) (fun u e => (upd_ne (Ne.symm k3)).trans e) ⟨FA.small.1, FA.small.2.1⟩
    refine k n rfl n0 n1 _ l (noneU (noneU hl)) (((KeepF.same (same_upd ht)).trans (KeepF.upO _)).trans (KeepF.same (same_upd hl))) (F2.sm (same_upd hl)) ⟨[t], upd_same, .cons ?_ .nil⟩
    exact (same_upd hl) _ _ (F1.keepT (KeepF.upO _) upd_same)
end
/-! ### a class's own containers -/
section
variable {X : Cx} {C f : Addr} {n : Nat} {fd : FuncData} {ps : List Str} {sp : Sp}
theorem run_in1 {pins : List (Addr × Obj)} {σ : L2.St} {H : Hp} {s : Shared} {Q : VK} {us : List Value} {vs : List V} (F : FnOk X.prog X.w X.K X.mg X.base CX0 n f fd ps sp) (hr : Room (n + 1) X.A) (hb : Binds X.K fd ps []) (I : Inv X pins σ H s) (r : Vals vs us) (h : sp vs H Q E0) {E' : Value → Shared → Prop} :
    wpAny (model X.prog X.w) X.A.in1 (call (.ref f) us) (EP X pins σ Q) E' s := by
  have e0 : Env0 X.prog X.w X.K X.mg X.base X.A.in1 X.stack s H := by
    have e := I.env0
    exact ⟨e.frames, e.mod, e.bs, e.bsz, e.funs, e.frf, e.hok, e.bare⟩
  have hl : us.length = ps.length := by rw [← r.length]; exact F.len _ _ _ _ h
  have b := hb s us I.kIn (by rw [List.append_nil]; exact hl)
  rw [List.append_nil] at b
  refine wpAny_call (codeAny_mono (F.run X.A.in1 X.stack s H ⟨us, []⟩ us vs Q E0 hr.in1 e0 b r h) fun r s' hq => ?_)
  cases r with
  | error e => exact hq.elim
  | ok fl =>
    cases fl with
    | ret w => exact I.after hq
    | next => exact False.elim hq
    | brk => exact False.elim hq
    | cont => exact False.elim hq
/-- len(o) -/
theorem call_lenO (hs : PySem.W.findIn X.K (.ref C) "__len__" = some (some (.ref f))) (hf : PySem.W.isFn X.K (.ref f) = true) (F : FnOk X.prog X.w X.K X.mg X.base CX0 n f fd ps sp) (hb : Binds X.K fd ps []) (hr : Room (n + 1) X.A) :
    CallR X (.builtin "len") (fun xs H Q => ∃ (a dx : Addr) (fs : List (Str × V)), xs = [.ref a] ∧ H a = some (.ins C dx fs) ∧ sp [.ref a] H (fun z H' => ∃ k : Int, z = .int k ∧ 0 ≤ k ∧ k < 2 ^ 63 ∧ Q (.int k) H') E0) := by
  intro pins s σ H xs us Q I r hq
  obtain ⟨a, dx, fs, rfl, ha, hsp⟩ := hq
  cases r with
  | cons rx rr =>
    cases rr
    cases rx
    obtain ⟨mA, OA, _⟩ := ins_get I.hok ha
    obtain ⟨od, J, _⟩ := OA.look
    obtain ⟨m, hF⟩ := I.fr
    refine PySem.W.len_K hF I.ok.mod.kin J hs hf (thn (run_in1 F hr hb I (.cons (show RelV (V.ref a) (Value.ref a) from rfl) .nil) hsp) fun r s' hv => ?_)
    obtain ⟨z, H', I', rz, k, rfl, k0, k1, q⟩ := hv
    obtain ⟨t, rfl⟩ := rz
    exact ⟨⟨k0, k1⟩, .int k, H', I'.tok _, ⟨_, rfl⟩, q⟩
/-- x in o, x not in o -/
theorem op_inO (hs : PySem.W.findIn X.K (.ref C) "__contains__" = some (some (.ref f))) (hf : PySem.W.isFn X.K (.ref f) = true) (F : FnOk X.prog X.w X.K X.mg X.base CX0 n f fd ps sp) (hb : Binds X.K fd ps []) (hr : Room n X.A) :
    OpR X (compareOp .In) (fun x y H Q => ∃ (a dx : Addr) (fs : List (Str × V)), y = .ref a ∧ H a = some (.ins C dx fs) ∧ sp [.ref a, x] H (fun z H' => ∃ b, z = .bl b ∧ Q (.bl b) H') E0) := by
  intro pins s σ H x y v u Q I rx ry hq
  obtain ⟨a, dx, fs, rfl, ha, hsp⟩ := hq
  cases ry
  obtain ⟨mA, OA, _⟩ := ins_get I.hok ha
  obtain ⟨od, J, _⟩ := OA.look
  obtain ⟨m, hF⟩ := I.fr
  refine PySem.W.in_K hF I.ok.mod.kin J hs hf (thn (run_fn (us := [Value.ref a, v]) (vs := [V.ref a, x]) F hr hb .nil pass0 I (.cons (show RelV (V.ref a) (Value.ref a) from rfl) (.cons rx .nil)) hsp) fun r s' hv => ?_)
  obtain ⟨z, H', I', rz, b, rfl, q⟩ := hv
  cases rz
  exact wpAny_truthy_bool ⟨.bl b, H', I', rfl, q⟩
theorem op_notinO (hs : PySem.W.findIn X.K (.ref C) "__contains__" = some (some (.ref f))) (hf : PySem.W.isFn X.K (.ref f) = true) (F : FnOk X.prog X.w X.K X.mg X.base CX0 n f fd ps sp) (hb : Binds X.K fd ps []) (hr : Room n X.A) :
    OpR X (compareOp .NotIn) (fun x y H Q => ∃ (a dx : Addr) (fs : List (Str × V)), y = .ref a ∧ H a = some (.ins C dx fs) ∧ sp [.ref a, x] H (fun z H' => ∃ b, z = .bl b ∧ Q (.bl (!b)) H') E0) := by
  intro pins s σ H x y v u Q I rx ry hq
  obtain ⟨a, dx, fs, rfl, ha, hsp⟩ := hq
  cases ry
  obtain ⟨mA, OA, _⟩ := ins_get I.hok ha
  obtain ⟨od, J, _⟩ := OA.look
  obtain ⟨m, hF⟩ := I.fr
  refine PySem.W.notIn_K hF I.ok.mod.kin J hs hf (thn (run_fn (us := [Value.ref a, v]) (vs := [V.ref a, x]) F hr hb .nil pass0 I (.cons (show RelV (V.ref a) (Value.ref a) from rfl) (.cons rx .nil)) hsp) fun r s' hv => ?_)
  obtain ⟨z, H', I', rz, b, rfl, q⟩ := hv
  cases rz
  exact wpAny_truthy_bool ⟨.bl (!b), H', I', rfl, q⟩
end
/-! ### two helps -/
theorem paired_snoc {α β : Type} {R : α → β → Prop} : ∀ {as : List α} {bs : List β} {a : α} {b : β}, Paired R as bs → R a b → Paired R (as ++ [a]) (bs ++ [b])
  | _, _, _, _, .nil, h => .cons h .nil
  | _, _, _, _, .cons r t, h => .cons r (paired_snoc t h)
theorem foldl_take {α β : Type} (f : β → α → β) (b : β) {l : List α} {i : Nat} {a : α} (h : l[i]? = some a) : (l.take (i + 1)).foldl f b = f ((l.take i).foldl f b) a := by
  rw [List.take_add_one, h, List.foldl_append]
  rfl
/-! ### what a font tells -/
/-- v is a text: t -/
def Ks (K : PySem.W.Frag) (H : Hp) (v : V) (t : Bool) : Prop := ∃ T : String, TyX K H v (.type T) ∧ kitB T "str" = some t
theorem Ks.str {K : PySem.W.Frag} {H : Hp} {z : Str} : Ks K H (.str z) true := ⟨"str", .base (.str z), by decide +kernel⟩
theorem Ks.int {K : PySem.W.Frag} {H : Hp} {n : Int} : Ks K H (.int n) false := ⟨"int", .base (.int n), by decide +kernel⟩
theorem Ks.bl {K : PySem.W.Frag} {H : Hp} {n : Bool} : Ks K H (.bl n) false := ⟨"bool", .base (.bl n), by decide +kernel⟩
theorem Ks.non {K : PySem.W.Frag} {H : Hp} : Ks K H .non false := ⟨"NoneType", .base .non, by decide +kernel⟩
theorem Ks.tup {K : PySem.W.Frag} {H : Hp} {a : Addr} {xs : List V} (e : H a = some (.tup xs)) : Ks K H (.ref a) false := ⟨"tuple", .base (.tup e), by decide +kernel⟩
theorem Ks.lst {K : PySem.W.Frag} {H : Hp} {a : Addr} {xs : List V} (e : H a = some (.lst xs)) : Ks K H (.ref a) false := ⟨"list", .base (.lst e), by decide +kernel⟩
theorem Ks.sm {K : PySem.W.Frag} {H H' : Hp} {v : V} {t : Bool} (s : Same H H') : Ks K H v t → Ks K H' v t := fun ⟨T, ty, k⟩ => ⟨T, TyX.sm s ty, k⟩
/-- v is a glyph of the font -/
def knownV (st : FSt) : V → Bool
  | .str g => (lget st.adv g).isSome
  | _ => false
def IsS (v : V) (t : Bool) : Prop := (t = true → ∃ g, v = .str g) ∧ (t = false → ∀ g, v ≠ .str g)
theorem IsS.str {g : Str} : IsS (.str g) true := ⟨fun _ => ⟨g, rfl⟩, fun h => by cases h⟩
theorem knownV_no {st : FSt} {v : V} (h : ∀ g, v ≠ .str g) : knownV st v = false := by
  cases v <;> first | rfl | exact absurd rfl (h _)
def spHas (K : PySem.W.Frag) (C : Addr) : Sp := fun vs H Q _ => ∃ (p : Addr) (v : V) (t : Bool) (o : Own) (st : FSt) (past : List (List Rec)), vs = [.ref p, v] ∧ FontAt C H p o st past ∧ Ks K H v t ∧ IsS v t ∧ Q (.bl (knownV st v)) H
def spLen (C : Addr) : Sp := fun vs H Q _ => ∃ (p : Addr) (o : Own) (st : FSt) (past : List (List Rec)), vs = [.ref p] ∧ FontAt C H p o st past ∧ Q (.int st.adv.length) H
def spKnown (K : PySem.W.Frag) (C CU : Addr) : Sp := fun vs H Q E => ∃ (p : Addr) (v : V) (t : Bool) (o : Own) (st : FSt) (past : List (List Rec)), vs = [.ref p, v] ∧ FontAt C H p o st past ∧ Ks K H v t ∧ IsS v t ∧
  (knownV st v = false → ∀ d, H d = none → E (.ref CU) (some d) (upd H d (.xd [("glyph", v)]))) ∧ (knownV st v = true → Q .non H)
def spAdvOf (K : PySem.W.Frag) (C CU : Addr) : Sp := fun vs H Q E => ∃ (p : Addr) (v : V) (t : Bool) (o : Own) (st : FSt) (past : List (List Rec)), vs = [.ref p, v] ∧ FontAt C H p o st past ∧ Ks K H v t ∧ IsS v t ∧
  (knownV st v = false → ∀ d, H d = none → E (.ref CU) (some d) (upd H d (.xd [("glyph", v)]))) ∧ (∀ g n, v = .str g → lget st.adv g = some n → Q (.int n) H)
def spGlyphs (C : Addr) : Sp := fun vs H Q _ => ∃ (p : Addr) (o : Own) (st : FSt) (past : List (List Rec)), vs = [.ref p] ∧ FontAt C H p o st past ∧ (∀ e ∈ st.adv, e.1.length ≤ 1000) ∧
  ∀ H' l, Same H H' → H l = none → H' l = some (.lst (((st.adv.map (·.1)).mergeSort (PySem.W.dataLe false kRank)).map V.str)) → Q (.ref l) H'
/-- what the text around a font's readings is -/
structure TxH (K : PySem.W.Frag) (mg : Str → Option Value) (C fHas fLen CU fEU fPl : Addr) : Prop where
  hHas : PySem.W.findIn K (.ref C) "__contains__" = some (some (.ref fHas))
  iHas : PySem.W.isFn K (.ref fHas) = true
  hLen : PySem.W.findIn K (.ref C) "__len__" = some (some (.ref fLen))
  iLen : PySem.W.isFn K (.ref fLen) = true
  eU : ErrC K mg "UnknownGlyph" CU fEU
  mIs : mg "isinstance" = none
  mStr : mg "str" = none
  mList : mg "list" = none
  mSorted : mg "sorted" = none
  pl : mg "font_place" = some (.ref fPl)
section
variable {P : Program} {w : World} {K : PySem.W.Frag} {mg : Str → Option Value} {base : Heap} {C CI fE fW fBt fWr fHas fLen CU fEU fPl : Addr}
abbrev sHas : Stmt := inClass (top 14) 8
theorem scHas : FnScope ["self", "x"] ["self", "x"] (defScope sHas) := ⟨rfl, rfl, rfl, by decide +kernel, rfl, by decide +kernel, by decide +kernel⟩
theorem ok_has {f : Addr} {fd : FuncData} (F : Fun K "__contains__" "Font.__contains__" sHas f fd) (T : TxF K mg C CI fE fW fBt fWr) (U : TxH K mg C fHas fLen CU fEU fPl) : FnOk P w K mg base CX0 1 f fd ["self", "x"] (spHas K C) := by
  refine F.ok scHas (fun vs H Q E h => ?_) (fun cdv A outer s H vs Q E hr h => ?_)
  · obtain ⟨p, v, t, o, st, past, rfl, _⟩ := h
    rfl
  · obtain ⟨p, v, t, o, st, past, rfl, FA, ⟨TT, ty, k1⟩, ⟨s1, s0⟩, k⟩ := h
    have hu := hu_of hr
    refine ⟨_, pss_one (ps_ret (pe_and (pe_callB call_isi (by rfl) U.mIs (by decide +kernel) (pa_cons (pv 1) (pa_cons (pe_bltn (v := .ty "str") (by rfl) U.mStr (by decide +kernel) rfl) pa_nil)))
      (pe_one (pe_cmp (pc_din hu (pv 1) (pe_fld (pv 0) rfl)) rfl)))), ?_⟩
    refine ⟨_, rfl, _, _, _, _, t, rfl, .ty "str", ty, kit_ty k1, t, rfl, ?_⟩
    cases t with
    | false =>
      refine iteF ?_
      rw [knownV_no (s0 rfl)] at k
      exact k
    | true =>
      obtain ⟨g, rfl⟩ := s1 rfl
      refine iteT ⟨_, rfl, _, rfl, p, C, _, _, _, rfl, FA.ob, T.cl, T.nA, fflds_adv _ _, o.dA, _, rfl, DGet.k (k := Sum.inr g) FA.da, ?_⟩
      rw [show valV (enc cA st.adv) (Sum.inr g : Key) = (lget st.adv g).map V.int from enc_get cA_inj st.adv g, Option.isSome_map]
      exact k
abbrev sLen : Stmt := inClass (top 14) 9
theorem scLen : FnScope ["self"] ["self"] (defScope sLen) := ⟨rfl, rfl, rfl, by decide +kernel, rfl, by decide +kernel, by decide +kernel⟩
theorem ok_len {f : Addr} {fd : FuncData} (F : Fun K "__len__" "Font.__len__" sLen f fd) (T : TxF K mg C CI fE fW fBt fWr) : FnOk P w K mg base CX0 1 f fd ["self"] (spLen C) := by
  refine F.ok scLen (fun vs H Q E h => ?_) (fun cdv A outer s H vs Q E hr h => ?_)
  · obtain ⟨p, o, st, past, rfl, _⟩ := h
    rfl
  · obtain ⟨p, o, st, past, rfl, FA, k⟩ := h
    refine ⟨_, pss_one (ps_ret (pe_callB call_lenD (by rfl) T.len PySem.boot_len (pa_cons (pe_fld (pv 0) rfl) pa_nil))), ?_⟩
    refine ⟨_, rfl, p, C, _, _, _, rfl, FA.ob, T.cl, T.nA, fflds_adv _ _, o.dA, _, rfl, FA.da, ?_⟩
    unfold enc
    rw [List.length_map]
    exact k
abbrev sKnown : Stmt := inClass (top 14) 35
theorem scKnown : FnScope ["self", "glyph"] ["self", "glyph"] (defScope sKnown) := ⟨rfl, rfl, rfl, by decide +kernel, rfl, by decide +kernel, by decide +kernel⟩
theorem ok_known {f : Addr} {fd fdH fdE : FuncData} (F : Fun K "_check_known" "Font._check_known" sKnown f fd) (T : TxF K mg C CI fE fW fBt fWr) (U : TxH K mg C fHas fLen CU fEU fPl) (GH : FnOk P w K mg base CX0 1 fHas fdH ["self", "x"] (spHas K C)) (bH : Binds K fdH ["self", "x"] [])
    (GE : FnOk P w K mg base CX0 1 fEU fdE ["self", "glyph"] (spEx1 CU "glyph")) (bE : Binds K fdE ["self", "glyph"] []) : FnOk P w K mg base (L2.CX P w) 3 f fd ["self", "glyph"] (spKnown K C CU) := by
  refine F.okX scKnown (fun vs H Q E h => ?_) (fun cdv A outer s H vs Q E hr h => ?_)
  · obtain ⟨p, v, t, o, st, past, rfl, _⟩ := h
    rfl
  · obtain ⟨p, v, t, o, st, past, rfl, FA, ks, is, kE, kQ⟩ := h
    refine ⟨_, pss_one (ps_if (pt_cmpR (op_notinO U.hHas U.iHas GH bH (hr.mono (by decide))) (pv 1) (pv 0) (by rfl)) (pss_one (ps_raise1 U.eU GE hr bE pass0 rfl (takes_of rfl rfl rfl rfl) (pv 1) (fun σ H P R h => mono_tVar σ H P R h))) pss_nil), ?_⟩
    refine ⟨_, rfl, _, rfl, p, _, _, rfl, FA.ob, p, v, t, o, st, past, rfl, FA, ks, is, _, rfl, _, rfl, ?_⟩
    cases hk : knownV st v with
    | false => exact iteT ⟨_, rfl, fun d hd => kE hk d hd⟩
    | true => exact iteF (kQ hk)
abbrev sAdvOf : Stmt := inClass (top 14) 15
theorem scAdvOf : FnScope ["self", "glyph"] ["self", "glyph"] (defScope sAdvOf) := ⟨rfl, rfl, rfl, by decide +kernel, rfl, by decide +kernel, by decide +kernel⟩
theorem ok_advOf {f fK : Addr} {fd fdK : FuncData} (F : Fun K "advance_of" "Font.advance_of" sAdvOf f fd) (T : TxF K mg C CI fE fW fBt fWr) (GK : FnOk P w K mg base (L2.CX P w) 3 fK fdK ["self", "glyph"] (spKnown K C CU)) (bK : Binds K fdK ["self", "glyph"] []) (mK : Meth K C "_check_known" fK) :
    FnOk P w K mg base (L2.CX P w) 4 f fd ["self", "glyph"] (spAdvOf K C CU) := by
  refine F.okX scAdvOf (fun vs H Q E h => ?_) (fun cdv A outer s H vs Q E hr h => ?_)
  · obtain ⟨p, v, t, o, st, past, rfl, _⟩ := h
    rfl
  · obtain ⟨p, v, t, o, st, past, rfl, FA, ks, is, kE, kQ⟩ := h
    have hu := hu_of hr
    refine ⟨_, pss_cons (ps_expr (pe_meth (pv 0) T.cl mK GK hr bK .nil (passes_call (takes_of rfl rfl rfl rfl) (fun _ _ _ _ h => h)) (pa_cons (pv 1) pa_nil))) (pss_one (ps_ret (pe_dget hu (pe_fld (pv 0) rfl) (pv 1) (fun _ _ => rfl)))), ?_⟩
    refine ⟨_, rfl, p, _, _, rfl, FA.ob, fflds_no _ _ (by decide +kernel) (by decide +kernel) (by decide +kernel) (by decide +kernel), _, rfl, p, v, t, o, st, past, rfl, FA, ks, is, kE, fun hk => ?_⟩
    obtain ⟨g, rfl⟩ : ∃ g, v = .str g := by
      cases v <;> first | exact ⟨_, rfl⟩ | cases hk
    obtain ⟨n, hn⟩ := Option.isSome_iff_exists.mp (show (lget st.adv g).isSome = true from hk)
    refine ⟨_, rfl, p, C, _, _, _, rfl, FA.ob, T.cl, T.nA, fflds_adv _ _, _, rfl, o.dA, .int n, rfl, ?_, kQ g n rfl hn⟩
    have e : valV (enc cA st.adv) (Sum.inr g : Key) = some (.int n) := by
      rw [show valV (enc cA st.adv) (Sum.inr g : Key) = (lget st.adv g).map V.int from enc_get cA_inj st.adv g, hn]
      rfl
    rw [← e]
    exact DGet.k (k := Sum.inr g) FA.da
abbrev sGlyphs : Stmt := inClass (top 14) 13
theorem scGlyphs : FnScope ["self"] ["self"] (defScope sGlyphs) := ⟨rfl, rfl, rfl, by decide +kernel, rfl, by decide +kernel, by decide +kernel⟩
theorem ok_glyphs {f : Addr} {fd : FuncData} (F : Fun K "glyphs" "Font.glyphs" sGlyphs f fd) (T : TxF K mg C CI fE fW fBt fWr) (U : TxH K mg C fHas fLen CU fEU fPl) (GP : KeyStr P w K mg base fPl kRank) : FnOk P w K mg base CX0 2 f fd ["self"] (spGlyphs C) := by
  refine F.ok scGlyphs (fun vs H Q E h => ?_) (fun cdv A outer s H vs Q E hr h => ?_)
  · obtain ⟨p, o, st, past, rfl, _⟩ := h
    rfl
  · obtain ⟨p, o, st, past, rfl, FA, hl, k⟩ := h
    refine ⟨_, pss_one (ps_ret (pe_callBK (cr_sortedK (f := fPl) (val := V.str) (ok := fun _ _ x => x.length ≤ 1000) (k := kRank) rfl hr) (by rfl) U.mSorted (by decide +kernel) (pa_cons (pe_callTy (call_list_dK rfl) (by rfl) U.mList (by decide +kernel) (pa_cons (pe_fld (pv 0) rfl) pa_nil)) pa_nil)
      (pk_cons (pe_glob (v := .ref fPl) (by rfl) U.pl rfl) pk_nil))), ?_⟩
    refine ⟨_, rfl, p, C, _, _, _, rfl, FA.ob, T.cl, T.nA, fflds_adv _ _, o.dA, _, rfl, FA.da, fun q hq => ?_⟩
    refine ⟨q, st.adv.map (·.1), rfl, rfl, ?_, keyFn_str GP (fun x hx => ?_), fun l hl2 => ?_⟩
    · refine SqL.of (upd_same.trans ?_)
      unfold enc
      rw [List.map_map, List.map_map]
      rfl
    · obtain ⟨e, he, rfl⟩ := List.mem_map.mp hx
      exact hl e he
    · refine k _ l ((same_upd hq).trans (same_upd hl2)) (noneU hl2) upd_same
end
/-! ### pairs of texts, sorted -/
def kPr (g : Str × Str) : PyData := .tuple [.str g.1, .str g.2]
def sortP (gs : List (Str × Str)) : List (Str × Str) := gs.mergeSort (PySem.W.dataLe false kPr)
section
open PySem.W PyProof.Rows
theorem cr_sortedPS {X : Cx} (hr : Room 1 X.A) : CallR X (.builtin "sorted") (fun vs H Q => ∃ (a : Addr) (xs : List (Addr × (Str × Str))), vs = [.ref a] ∧ SqL X.K H a (xs.map fun x => V.ref x.1) ∧ (∀ x ∈ xs, H x.1 = some (.tup [.str x.2.1, .str x.2.2])) ∧
    ∀ p, H p = none → Q (.ref p) (upd H p (.lst ((xs.mergeSort (dataLe false fun x => kPr x.2)).map fun x => V.ref x.1)))) := by
  intro pins s σ H vs us Q I rv hq
  obtain ⟨a, xs, rfl, hS, hx, q⟩ := hq
  obtain ⟨u1, rfl, r1⟩ := vals1 rv
  cases r1
  obtain ⟨its, rits, pl, hz⟩ := I.list hS
  have hl : xs.length ≤ sizeLine := by rw [List.length_map] at hz; exact hz
  have hun := hr.un
  have go : ∀ {us : List Value} {xs : List (Addr × (Str × Str))}, (∀ x ∈ xs, H x.1 = some (.tup [.str x.2.1, .str x.2.2])) → Vals (xs.map fun x => V.ref x.1) us → EachIs (fun u x => RelV (V.ref x.1) u) us xs ∧ EachIs (fun v x => ∃ as, Reads s.heap v (kPr x.2) as) us xs := by
    intro us xs
    induction xs generalizing us with
    | nil => intro _ r; cases r; exact ⟨.nil, .nil⟩
    | cons x xs ih =>
      intro hx r
      cases r with
      | cons r1 r2 =>
        obtain ⟨e1, e2⟩ := ih (fun y hy => hx y (List.mem_cons_of_mem _ hy)) r2
        refine ⟨.cons r1 e1, .cons ?_ e2⟩
        cases r1
        obtain ⟨ts, rts, ⟨o, ho, hc, n, hd⟩, _⟩ := I.tuple (SqT.of (K := X.K) (hx x List.mem_cons_self))
        refine ⟨[], .tuple ho hc hd ?_⟩
        cases rts with
        | cons a1 rr =>
          cases rr with
          | cons a2 rr =>
            cases rr
            obtain ⟨t1, rfl⟩ := a1
            obtain ⟨t2, rfl⟩ := a2
            exact .cons (.str _ _) (.cons (.str _ _) .nil)
  obtain ⟨e, er⟩ := go hx rits
  refine sorted_data (enc := fun x : Addr × (Str × Str) => kPr x.2) pl.isList e er (AllAlike.of fun _ _ => by simp [alike, alikeAll, kPr]) (Sortable.tuples fun _ => ⟨_, _, rfl⟩) hl (fun x _ => ?_) fun out ho eo => ?_
  · have : (kPr x.2).depth ≤ 8 := by simp [kPr, PyData.depth, PyData.depthAll]
    omega
  · obtain ⟨c, hc⟩ := sortedAll_at s.heap its out.toArray
    have hf : H (s.heap.objs.size + 1) = none := I.hok.fresh (Nat.le_succ _)
    refine ⟨.ref (s.heap.objs.size + 1), upd H (s.heap.objs.size + 1) (.lst ((xs.mergeSort (dataLe false fun x => kPr x.2)).map fun x => V.ref x.1)), I.laid (t' := s.toks) (fun _ _ => sortedAll_old) (Nat.le_succ _) ?_, rfl, q _ hf⟩
    refine ⟨?_, out, c, ?_, hc⟩
    · rw [List.length_map, List.length_mergeSort]
      exact hl
    · have go2 : ∀ {us : List Value} {xs : List (Addr × (Str × Str))}, EachIs (fun u x => RelV (V.ref x.1) u) us xs → Vals (xs.map fun x => V.ref x.1) us := by
        intro us xs h
        induction h with
        | nil => exact .nil
        | cons r _ ih => exact .cons r ih
      exact go2 eo
/-- the pairs alone, sorted -/
theorem sort_snd (xs : List (Addr × (Str × Str))) : (xs.mergeSort (dataLe false fun x => kPr x.2)).map (·.2) = sortP (xs.map (·.2)) := by
  unfold sortP
  exact List.map_mergeSort fun a _ b _ => rfl
end
theorem keys_pairs {H : Hp} : ∀ {l : KrnL} {bs : List Addr}, IsKeys H (enc cK l) bs → ∃ xs : List (Addr × (Str × Str)), bs.map V.ref = xs.map (fun x => V.ref x.1) ∧ xs.map (·.2) = l.map (·.1) ∧ ∀ x ∈ xs, H x.1 = some (.tup [.str x.2.1, .str x.2.2])
  | [], _, .nil => ⟨[], rfl, rfl, fun x hx => by cases hx⟩
  | (g, n) :: l, b :: bs, .cons h t => by
    obtain ⟨xs, e1, e2, e3⟩ := keys_pairs (l := l) t
    refine ⟨(b, g) :: xs, ?_, ?_, ?_⟩
    · rw [List.map_cons, List.map_cons, e1]
    · rw [List.map_cons, List.map_cons, e2]
    · intro x hx
      rcases List.mem_cons.mp hx with e | hx
      · rw [e]
        exact h
      · exact e3 x hx
def kernOf (l : KrnL) (g : Str × Str) : Int := (lget l g).getD 0
def spKerns (C : Addr) : Sp := fun vs H Q _ => ∃ (p : Addr) (o : Own) (st : FSt) (past : List (List Rec)), vs = [.ref p] ∧ FontAt C H p o st past ∧
  ∀ H' l (ts : List Addr), Same H H' → H l = none → H' l = some (.lst (ts.map V.ref)) → Paired (fun t g => H' t = some (.tup [.str g.1, .str g.2, .int (kernOf st.krn g)])) ts (sortP (st.krn.map (·.1))) → Q (.ref l) H'
theorem mem_sortP {gs : List (Str × Str)} {g : Str × Str} : g ∈ sortP gs ↔ g ∈ gs := by
  unfold sortP
  exact List.mem_mergeSort
theorem lget_of_mem {κ : Type} [DecidableEq κ] {l : List (κ × Int)} {k : κ} (h : k ∈ l.map (·.1)) : ∃ n, lget l k = some n := by
  obtain ⟨p, hp, rfl⟩ := List.mem_map.mp h
  unfold lget
  cases e : l.find? fun q => decide (q.1 = p.1) with
  | none =>
    rw [List.find?_eq_none] at e
    exact absurd (decide_eq_true rfl) (e p hp)
  | some q => exact ⟨q.2, rfl⟩
theorem paired_take {α β : Type} {R : α → β → Prop} : ∀ {as : List α} {bs : List β} (n : Nat), Paired R as bs → Paired R (as.take n) (bs.take n)
  | _, _, 0, _ => by rw [List.take_zero, List.take_zero]; exact .nil
  | _, _, _ + 1, .nil => .nil
  | _, _, n + 1, .cons r t => .cons r (paired_take n t)
section
variable {P : Program} {w : World} {K : PySem.W.Frag} {mg : Str → Option Value} {base : Heap} {C CI fE fW fBt fWr fHas fLen CU fEU fPl : Addr}
abbrev sKerns : Stmt := inClass (top 14) 14
theorem scKerns : FnScope ["self", "left", "right"] ["self"] (defScope sKerns) := ⟨rfl, rfl, rfl, by decide +kernel, rfl, by decide +kernel, by decide +kernel⟩
theorem ok_kerns {f : Addr} {fd : FuncData} (F : Fun K "kerns" "Font.kerns" sKerns f fd) (T : TxF K mg C CI fE fW fBt fWr) (U : TxH K mg C fHas fLen CU fEU fPl) : FnOk P w K mg base CX0 2 f fd ["self"] (spKerns C) := by
  refine F.ok scKerns (fun vs H Q E h => ?_) (fun cdv A outer s H vs Q E hr h => ?_)
  · obtain ⟨p, o, st, past, rfl, _⟩ := h
    rfl
  · obtain ⟨p, o, st, past, rfl, FA, k⟩ := h
    have hu := hu_of hr
    have nd := scKerns.nd
    refine ⟨_, pss_one (ps_ret (pe_lc (own := [("left", 1), ("right", 2)]) (g := gTup K 2 (gCons (gName 1) (gCons (gName 2) gNil))) (tt := tYes) (te := tTup (tCons (tVar 1) (tCons (tVar 2) (tCons (tDGet (tFld K (tVar 0) "_kerns") (tTup (tCons (tVar 1) (tCons (tVar 2) tNil)))) tNil)))) rfl nd (pi_list (pe_callB (cr_sortedPS hr) (by rfl) U.mSorted (by decide +kernel) (pa_cons (pe_callTy (call_list_dT rfl) (by rfl) U.mList (by decide +kernel) (pa_cons (pe_fld (pv 0) rfl) pa_nil)) pa_nil)))
      (blkOk_by (N := ["self", "left", "right"]) (sc := defScope sKerns) (by decide +kernel))
      (fun _ _ _ _ _ => pg_tup rfl (pgs_cons (pg_name (i := 1) nd rfl (Or.inl rfl)) (pgs_cons (pg_name (i := 2) nd rfl (Or.inl rfl)) pgs_nil)))
      (fun _ _ _ _ _ => pts_nil)
      (fun _ _ _ _ _ => pe_tup (pa_cons (pv 1) (pa_cons (pv 2) (pa_cons (pe_dget hu (pe_fld (pv 0) rfl) (pe_tup (pa_cons (pv 1) (pa_cons (pv 2) pa_nil))) (fun _ _ => rfl)) pa_nil)))))), ?_⟩
    refine ⟨_, rfl, p, C, _, _, _, rfl, FA.ob, T.cl, T.nN, fflds_krn _ _, o.dN, _, rfl, .inl FA.dn, fun q bs hq hk => ?_⟩
    obtain ⟨xs, e1, e2, e3⟩ := keys_pairs hk
    rw [e1]
    refine ⟨q, xs, rfl, SqL.of upd_same, fun x hx => (same_upd hq) _ _ (e3 x hx), fun q2 hq2 => ⟨q2, rfl, ⟨_, SqL.of upd_same⟩, fun D hD => ?_⟩⟩
    have hss := sort_snd xs
    rw [e2] at hss
    generalize hys : xs.mergeSort (PySem.W.dataLe false fun x => kPr x.2) = ys at hss hD ⊢
    have hyx : ∀ y ∈ ys, y ∈ xs := fun y hy => by rw [← hys] at hy; exact List.mem_mergeSort.mp hy
    obtain ⟨H1, eH1⟩ : ∃ H1, H1 = upd (upd H q (.lst (xs.map fun x => V.ref x.1))) q2 (.lst (ys.map fun x => V.ref x.1)) := ⟨_, rfl⟩
    rw [← eH1] at hD ⊢
    have s01 : Same H H1 := by
      rw [eH1]
      exact (same_upd hq).trans (same_upd hq2)
    have hq2' : H1 q2 = some (.lst (ys.map fun x => V.ref x.1)) := by rw [eH1]; exact upd_same
    have hDH : H D = none := by
      rw [eH1] at hD
      exact noneU (noneU hD)
    refine lc_list (K := K) (a := q2) (xs := ys.map fun x => V.ref x.1) (fun i H' => Same H1 H' ∧ ∃ ts : List Addr, ts.length = i ∧ H' D = some (.lst (ts.map V.ref)) ∧ Paired (fun t g => H' t = some (.tup [.str g.1, .str g.2, .int (kernOf st.krn g)])) ts ((ys.map (·.2)).take i))
      ⟨same_upd hD, [], rfl, upd_same, .nil⟩ (fun i H' _ ⟨s1, _⟩ => SqL.of (s1 _ _ hq2')) ?_ ?_
    · rintro i x H' hx ⟨s1, ts, hlen, hD', pr⟩
      rw [List.getElem?_map, Option.map_eq_some_iff] at hx
      obtain ⟨y, hy, rfl⟩ := hx
      have hym : y ∈ ys := List.mem_of_getElem? hy
      have sH := s01.trans s1
      have hy1 : H' y.1 = some (.tup [.str y.2.1, .str y.2.2]) := sH _ _ (by
        have := e3 y (hyx y hym)
        exact this)
      obtain ⟨n, hn⟩ := lget_of_mem (l := st.krn) (k := y.2) (by rw [← e2]; exact List.mem_map.mpr ⟨y, hyx y hym, rfl⟩)
      have F1 := FA.sm sH
      refine ⟨y.1, _, rfl, SqT.of hy1, rfl, _, _, rfl, _, _, rfl, rfl, rfl, ?_⟩
      refine ⟨_, rfl, _, rfl, _, rfl, p, C, _, _, _, rfl, F1.ob, T.cl, T.nN, fflds_krn _ _, _, rfl, _, rfl, (by show 2 ≤ sizeLine; decide), fun z hz => ?_⟩
      have F2 := F1.sm (same_upd (o := .tup [.str y.2.1, .str y.2.2]) hz)
      refine ⟨o.dN, .int n, rfl, ?_, (by show 3 ≤ sizeLine; decide), fun t ht => ?_⟩
      · have e : valV (enc cK st.krn) (cK y.2) = some (.int n) := by
          rw [enc_get cK_inj st.krn y.2, hn]
          rfl
        rw [← e]
        exact DGet.t (k := cK y.2) F2.dn upd_same
      · have sz : Same H' (upd (upd H' z (.tup [.str y.2.1, .str y.2.2])) t (.tup [.str y.2.1, .str y.2.2, .int n])) := (same_upd hz).trans (same_upd ht)
        have hD2 := sz _ _ hD'
        refine ⟨_, hD2, ?_, ?_⟩
        · rw [List.length_map, hlen]
          have h1 : i < ys.length := (List.getElem?_eq_some_iff.mp hy).1
          have h2 : ys.length = st.krn.length := by
            have := congrArg List.length e2
            rw [List.length_map, List.length_map] at this
            rw [← hys, List.length_mergeSort, this]
          have h3 := FA.small.2.1
          have h4 : (sizeLine : Nat) = 16777216 := sizeLine_eq
          omega
        · have hnD : ∀ b, b ≠ D → upd (upd (upd H' z (.tup [.str y.2.1, .str y.2.2])) t (.tup [.str y.2.1, .str y.2.2, .int n])) D (.lst (ts.map V.ref ++ [V.ref t])) b = upd (upd H' z (.tup [.str y.2.1, .str y.2.2])) t (.tup [.str y.2.1, .str y.2.2, .int n]) b := fun b hb => upd_ne hb
          have tup_ne : ∀ {b : Addr} {vs : List V}, upd (upd H' z (.tup [.str y.2.1, .str y.2.2])) t (.tup [.str y.2.1, .str y.2.2, .int n]) b = some (.tup vs) → b ≠ D := fun hb => ne_of hb hD2 (by intro z; cases z)
          refine ⟨fun b u e => ?_, ts ++ [t], by rw [List.length_append, hlen]; rfl, ?_, ?_⟩
          · rw [hnD b (fun z => by rw [z, hD] at e; cases e)]
            exact sz _ _ (s1 _ _ e)
          · rw [upd_same, List.map_append]
            rfl
          · have et : (ys.map (·.2)).take (i + 1) = (ys.map (·.2)).take i ++ [y.2] := by
              rw [List.take_add_one, List.getElem?_map, hy]
              rfl
            rw [et]
            refine paired_snoc (paired_mono (fun t' g h => ?_) pr) ?_
            · have := sz _ _ h
              rw [hnD t' (tup_ne this)]
              exact this
            · have h0 : upd (upd H' z (.tup [.str y.2.1, .str y.2.2])) t (.tup [.str y.2.1, .str y.2.2, .int n]) t = some (.tup [.str y.2.1, .str y.2.2, .int n]) := upd_same
              rw [hnD t (tup_ne h0), h0]
              show _ = some (HO.tup [V.str y.2.1, V.str y.2.2, V.int (kernOf st.krn y.2)])
              unfold kernOf
              rw [hn]
              rfl
    · rintro H' ⟨s1, ts, hlen, hD', pr⟩
      refine k H' D ts (s01.trans s1) hDH hD' ?_
      rw [← hss]
      rw [List.take_of_length_le (by rw [List.length_map, List.length_map]; exact Nat.le_refl _)] at pr
      exact pr
end
/-! ### names, letters, ligatures -/
def nameB (g : Str) : Bool := decide (g.length ≤ 6) && (Txt.isascii g && (Txt.isalpha g && Txt.islower g))
def nameV : V → Bool
  | .str g => nameB g
  | _ => false
theorem nameV_no {v : V} (h : ∀ g, v ≠ .str g) : nameV v = false := by
  cases v <;> first | rfl | exact absurd rfl (h _)
def spName (K : PySem.W.Frag) : Sp := fun vs H Q _ => ∃ (v : V) (t : Bool), vs = [v] ∧ Ks K H v t ∧ IsS v t ∧ (∀ g, v = .str g → g.length ≤ sizeLine) ∧ Q (.bl (nameV v)) H
def glyphsOf (st : FSt) : List Str := (st.adv.map (·.1)).mergeSort (PySem.W.dataLe false kRank)
def spLigs (C : Addr) : Sp := fun vs H Q _ => ∃ (p : Addr) (o : Own) (st : FSt) (past : List (List Rec)), vs = [.ref p] ∧ FontAt C H p o st past ∧ (∀ e ∈ st.adv, e.1.length ≤ 1000) ∧
  ∀ H' l, Same H H' → H l = none → H' l = some (.lst (((glyphsOf st).filter fun g => decide ((1 : Int) < (g.length : Int))).map V.str)) → Q (.ref l) H'
theorem take_filter {α : Type} (f : α → Bool) {l : List α} {i : Nat} {a : α} (h : l[i]? = some a) : (l.take (i + 1)).filter f = (l.take i).filter f ++ (if f a = true then [a] else []) := by
  rw [List.take_add_one, h, List.filter_append]
  congr 1
  show [a].filter f = _
  rw [List.filter_cons]
  rfl
section
variable {P : Program} {w : World} {K : PySem.W.Frag} {mg : Str → Option Value} {base : Heap} {C CI fE fW fBt fWr fHas fLen CU fEU fPl : Addr}
abbrev sName : Stmt := top 17
theorem scName : FnScope ["value"] ["value"] (defScope sName) := ⟨rfl, rfl, rfl, by decide +kernel, rfl, by decide +kernel, by decide +kernel⟩
/-- what the text says of Font as a value -/
structure FontC (K : PySem.W.Frag) (mg : Str → Option Value) (C : Addr) (mc : Value) : Prop where
  g : mg "Font" = some (.ref C)
  rd : ClX.CRead K C mc
  six : ∃ u, ClX.CVal K C mc "MOST_LETTERS" (.int 6) u
theorem ok_name {f : Addr} {fd : FuncData} {mc : Value} (F : Fun K "is_glyph_name" "is_glyph_name" sName f fd) (FC : FontC K mg C mc) (mIs : mg "isinstance" = none) (mS : mg "str" = none) (mL : mg "len" = none) : FnOk P w K mg base CX0 1 f fd ["value"] (spName K) := by
  obtain ⟨u6, h6⟩ := FC.six
  refine F.ok scName (fun vs H Q E h => ?_) (fun cdv A outer s H vs Q E hr h => ?_)
  · obtain ⟨v, t, rfl, _⟩ := h
    rfl
  · obtain ⟨v, t, rfl, ⟨T, ty, k1⟩, ⟨s1, s0⟩, hz, k⟩ := h
    refine ⟨_, pss_cons (ps_if (PW.pt (pw_or (pt_not (pt_val (pe_callB call_isi (by rfl) mIs (by decide +kernel) (pa_cons (pv 0) (pa_cons (pe_bltn (v := .ty "str") (by rfl) mS (by decide +kernel) rfl) pa_nil)))))
        (pw_or1 (pt_cmpR op_gt (pe_callB call_len_str (by rfl) mL PySem.boot_len (pa_cons (pv 0) pa_nil)) (ClX.pe_cval (pe_glob (v := .ref C) (by rfl) FC.g rfl)) (nomark _))))) (pss_one (ps_ret pe_bl)) pss_nil)
      (pss_one (ps_ret (pe_and (pe_bm0 PySem.F.plainAttrs_str PySem.F.slot_str_isascii PySem.F.type_str_isascii mt_isascii (pv 0))
        (pe_and (pe_bm0 PySem.F.plainAttrs_str PySem.F.slot_str_isalpha PySem.F.type_str_isalpha mt_isalpha (pv 0)) (pe_one (pe_bm0 PySem.F.plainAttrs_str PySem.F.slot_str_islower PySem.F.type_str_islower mt_islower (pv 0))))))), ?_⟩
    refine ⟨_, rfl, _, _, _, _, t, rfl, .ty "str", ty, kit_ty k1, t, rfl, ?_⟩
    cases t with
    | false =>
      rw [nameV_no (s0 rfl)] at k
      exact iteT (iteT k)
    | true =>
      obtain ⟨g, rfl⟩ := s1 rfl
      refine iteF ⟨_, rfl, g, rfl, hz g rfl, C, mc, .int 6, u6, rfl, FC.rd, h6, _, _, rfl, rfl, _, rfl, ?_⟩
      refine ite2 (fun hl => ?_) (fun hl => ?_)
      · have hl' : (6 : Int) < (g.length : Int) := of_decide_eq_true hl
        have e : nameV (.str g) = false := by
          show (decide (g.length ≤ 6) && _) = false
          rw [decide_eq_false (by omega)]
          rfl
        rw [e] at k
        exact k
      · have hl' : ¬ (6 : Int) < (g.length : Int) := fun z => hl (decide_eq_true z)
        have e : nameV (.str g) = (Txt.isascii g && (Txt.isalpha g && Txt.islower g)) := by
          show (decide (g.length ≤ 6) && _) = _
          rw [decide_eq_true (by omega)]
          rfl
        rw [e] at k
        refine ⟨_, rfl, rfl, g, rfl, rfl, trivial, _, rfl, ?_⟩
        cases ha : Txt.isascii g with
        | false => rw [ha] at k; exact iteF k
        | true =>
          rw [ha] at k
          refine iteT ⟨_, rfl, rfl, g, rfl, rfl, trivial, _, rfl, ?_⟩
          cases hb : Txt.isalpha g with
          | false => rw [hb] at k; exact iteF k
          | true =>
            rw [hb] at k
            exact iteT ⟨_, rfl, rfl, g, rfl, rfl, trivial, k⟩
abbrev sLigs : Stmt := inClass (top 14) 18
theorem scLigs : FnScope ["self", "glyph"] ["self"] (defScope sLigs) := ⟨rfl, rfl, rfl, by decide +kernel, rfl, by decide +kernel, by decide +kernel⟩
theorem ok_ligs {f fG : Addr} {fd fdG : FuncData} (F : Fun K "ligatures" "Font.ligatures" sLigs f fd) (T : TxF K mg C CI fE fW fBt fWr) (GG : FnOk P w K mg base CX0 2 fG fdG ["self"] (spGlyphs C)) (bG : Binds K fdG ["self"] []) (mG : Meth K C "glyphs" fG) : FnOk P w K mg base CX0 3 f fd ["self"] (spLigs C) := by
  refine F.ok scLigs (fun vs H Q E h => ?_) (fun cdv A outer s H vs Q E hr h => ?_)
  · obtain ⟨p, o, st, past, rfl, _⟩ := h
    rfl
  · obtain ⟨p, o, st, past, rfl, FA, hl, k⟩ := h
    have nd := scLigs.nd
    refine ⟨_, pss_one (ps_ret (pe_lc (own := [("glyph", 1)]) (g := gName 1) (tt := tTest (tOp (rI0 fun i j => .bl (decide (j < i))) (tCB (fun xs H Q => ∃ z, xs = [.str z] ∧ z.length ≤ sizeLine ∧ Q (.int z.length) H) (tCons (tVar 1) tNil)) (tC (.int 1)))) (te := tVar 1) rfl nd (pi_list (pe_meth0 (pv 0) T.cl mG GG hr bG .nil pass0))
      (blkOk_by (N := ["self", "glyph"]) (sc := defScope sLigs) (by decide +kernel))
      (fun _ _ _ _ _ => pg_name (i := 1) nd rfl (Or.inl rfl))
      (fun _ _ _ _ _ => pts_one (pt_cmpR op_gt (pe_callB call_len_str (by rfl) T.len PySem.boot_len (pa_cons (pv 1) pa_nil)) pe_int (nomark _)))
      (fun _ _ _ _ _ => pv 1))), ?_⟩
    refine ⟨_, rfl, p, _, _, rfl, FA.ob, fflds_no _ _ (by decide +kernel) (by decide +kernel) (by decide +kernel) (by decide +kernel), p, o, st, past, rfl, FA, hl, fun H1 q s01 hq hq1 => ⟨q, rfl, ⟨_, SqL.of hq1⟩, fun D hD => ?_⟩⟩
    have hDH : H D = none := by
      cases e : H D with
      | none => rfl
      | some u => rw [s01 _ _ e] at hD; cases hD
    have hlen : (glyphsOf st).length ≤ 1000 := by
      unfold glyphsOf
      rw [List.length_mergeSort, List.length_map]
      exact FA.small.1
    have hmem : ∀ g ∈ glyphsOf st, g.length ≤ 1000 := fun g hg => by
      obtain ⟨e, he, rfl⟩ := List.mem_map.mp (List.mem_mergeSort.mp hg)
      exact hl e he
    have h4 : (sizeLine : Nat) = 16777216 := sizeLine_eq
    refine lc_list (K := K) (a := q) (xs := (glyphsOf st).map V.str) (fun i H' => (∀ b u, b ≠ D → H1 b = some u → H' b = some u) ∧ H' D = some (.lst ((((glyphsOf st).take i).filter fun g => decide ((1 : Int) < (g.length : Int))).map V.str)))
      ⟨fun b u hb e => (upd_ne hb).trans e, upd_same⟩ (fun i H' _ ⟨s1, _⟩ => SqL.of (s1 _ _ (fun z => by rw [z, hD] at hq1; cases hq1) hq1)) ?_ ?_
    · rintro i x H' hx ⟨s1, hD'⟩
      rw [List.getElem?_map, Option.map_eq_some_iff] at hx
      obtain ⟨g, hg, rfl⟩ := hx
      have hgl := hmem g (List.mem_of_getElem? hg)
      refine ⟨rfl, _, rfl, g, rfl, by omega, _, _, rfl, rfl, _, rfl, ?_⟩
      rw [take_filter _ hg]
      refine ite2 (fun hb => ?_) (fun hb => ?_)
      · rw [if_pos hb]
        refine ⟨_, rfl, _, hD', ?_, fun b u hb' e => (upd_ne hb').trans (s1 b u hb' e), ?_⟩
        · rw [List.length_map]
          have h1 := List.length_filter_le (fun g : Str => decide ((1 : Int) < (g.length : Int))) ((glyphsOf st).take i)
          have h2 : ((glyphsOf st).take i).length ≤ (glyphsOf st).length := by rw [List.length_take]; exact Nat.min_le_right _ _
          omega
        · rw [upd_same, List.map_append]
          rfl
      · rw [if_neg hb, List.append_nil]
        exact ⟨s1, hD'⟩
    · rintro H' ⟨s1, hD'⟩
      refine k H' D (fun b u e => s1 b u (fun z => by rw [z, hDH] at e; cases e) (s01 b u e)) hDH ?_
      rw [List.take_of_length_le (by rw [List.length_map]; exact Nat.le_refl _)] at hD'
      exact hD'
end
/-! ### the checks of an advance -/
theorem pss_no {X : Cx} {body : List Stmt} : PSs X body (fun _ _ _ => False) := ⟨fun _ _ _ _ _ _ h => h.elim⟩
def chars (g : Str) : List Str := g.cps.toList.map fun c => ⟨#[c]⟩
/-- the first letter of the glyph that the font does not have -/
def missing (st : FSt) (g : Str) : Option Str := (chars g).find? fun c => !(lget st.adv c).isSome
def ligsOf (st : FSt) : List Str := (glyphsOf st).filter fun g => decide ((1 : Int) < (g.length : Int))
def spLetters (C CU : Addr) : Sp := fun vs H Q E => ∃ (p : Addr) (g : Str) (o : Own) (st : FSt) (past : List (List Rec)), vs = [.ref p, .str g] ∧ FontAt C H p o st past ∧ g.length ≤ 1000 ∧
  (1 < g.length → ∀ c, missing st g = some c → ∀ d, H d = none → E (.ref CU) (some d) (upd H d (.xd [("glyph", .str c)]))) ∧ (g.length ≤ 1 ∨ missing st g = none → Q .non H)
def roomless (st : FSt) (g : Str) : Bool := decide (1 < g.length) && (!(lget st.adv g).isSome && decide (40 ≤ (ligsOf st).length))
def spRoom (C CT : Addr) : Sp := fun vs H Q E => ∃ (p : Addr) (g : Str) (o : Own) (st : FSt) (past : List (List Rec)), vs = [.ref p, .str g] ∧ FontAt C H p o st past ∧ g.length ≤ 1000 ∧ (∀ e ∈ st.adv, e.1.length ≤ 1000) ∧
  (roomless st g = true → ∀ H' d, Same H H' → H' d = none → E (.ref CT) (some d) (upd H' d (.xd [("limit", .int 40)]))) ∧ (roomless st g = false → ∀ H', Same H H' → Q .non H')
/-- no kern of the glyph is too much for the advance -/
def Wide (st : FSt) (g : Str) (n : Int) : Prop := ∀ e ∈ st.krn, (e.1.1 = g ∨ e.1.2 = g) → 0 ≤ n + kernOf st.krn e.1
def spKernsOk (C : Addr) : Sp := fun vs H Q _ => ∃ (p : Addr) (g : Str) (n : Int) (o : Own) (st : FSt) (past : List (List Rec)), vs = [.ref p, .str g, .int n] ∧ FontAt C H p o st past ∧ Wide st g n ∧ ∀ H', Same H H' → Q .non H'
theorem chars_at {g : Str} {i c : Nat} (h : g.cps[i]? = some c) : (chars g)[i]? = some ⟨#[c]⟩ := by
  unfold chars
  rw [List.getElem?_map, Array.getElem?_toList, h]
  rfl
theorem find_take {α : Type} (f : α → Bool) {l : List α} {i : Nat} {a : α} (h : l[i]? = some a) (hn : ∀ x ∈ l.take i, f x = false) : (f a = true → l.find? f = some a) ∧ (f a = false → ∀ x ∈ l.take (i + 1), f x = false) := by
  refine ⟨fun ha => ?_, fun ha x hx => ?_⟩
  · have e : l = l.take i ++ a :: l.drop (i + 1) := by
      have h1 := List.getElem?_eq_some_iff.mp h
      obtain ⟨hi, ha'⟩ := h1
      rw [← ha', ← List.drop_eq_getElem_cons hi, List.take_append_drop]
    rw [e, List.find?_append]
    have : (l.take i).find? f = none := List.find?_eq_none.mpr fun x hx => by rw [hn x hx]; exact Bool.false_ne_true
    rw [this]
    show (a :: _).find? f = some a
    rw [List.find?_cons_of_pos ha]
  · rw [List.take_add_one, h] at hx
    rcases List.mem_append.mp hx with hx | hx
    · exact hn x hx
    · rw [List.mem_singleton.mp hx]
      exact ha
section
variable {P : Program} {w : World} {K : PySem.W.Frag} {mg : Str → Option Value} {base : Heap} {C CI fE fW fBt fWr fHas fLen CU fEU fPl CT fET : Addr}
abbrev sLetters : Stmt := inClass (top 14) 36
theorem scLetters : FnScope ["self", "glyph", "letter"] ["self", "glyph"] (defScope sLetters) := ⟨rfl, rfl, rfl, by decide +kernel, rfl, by decide +kernel, by decide +kernel⟩
theorem ok_letters {f fK : Addr} {fd fdK : FuncData} (F : Fun K "_check_letters" "Font._check_letters" sLetters f fd) (T : TxF K mg C CI fE fW fBt fWr) (GK : FnOk P w K mg base (L2.CX P w) 3 fK fdK ["self", "glyph"] (spKnown K C CU)) (bK : Binds K fdK ["self", "glyph"] []) (mK : Meth K C "_check_known" fK) :
    FnOk P w K mg base (L2.CX P w) 4 f fd ["self", "glyph"] (spLetters C CU) := by
  refine F.okX scLetters (fun vs H Q E h => ?_) (fun cdv A outer s H vs Q E hr h => ?_)
  · obtain ⟨p, g, o, st, past, rfl, _⟩ := h
    rfl
  · obtain ⟨p, g, o, st, past, rfl, FA, hl, kE, kQ⟩ := h
    have nd := scLetters.nd
    refine ⟨_, pss_one (ps_if (pt_cmpR op_gt (pe_callB call_len_str (by rfl) T.len PySem.boot_len (pa_cons (pv 1) pa_nil)) pe_int (nomark _))
      (pss_one (ps_for (passes_of rfl) rfl (pi_str (pv 1)) (pg_name (i := 2) nd rfl (Or.inl rfl)) (pss_one (ps_expr (pe_meth (pv 0) T.cl mK GK hr bK .nil (passes_call (takes_of rfl rfl rfl rfl) (fun _ _ _ _ h => h)) (pa_cons (pv 2) pa_nil)))))) pss_nil), ?_⟩
    have h4 : (sizeLine : Nat) = 16777216 := sizeLine_eq
    refine ⟨_, rfl, g, rfl, by omega, _, _, rfl, rfl, _, rfl, ?_⟩
    refine ite2 (fun hb => ?_) (fun hb => ?_)
    · have hb' : (1 : Int) < (g.length : Int) := of_decide_eq_true hb
      have hg1 : 1 < g.length := by omega
      refine ⟨_, rfl, g, rfl, ?_⟩
      refine for_it walk_str (fun i σ H' => H' = H ∧ (∃ u : Option V, σ = [some (.ref p), some (.str g), u]) ∧ ∀ x ∈ (chars g).take i, (!(lget st.adv x).isSome) = false) ⟨rfl, ⟨none, rfl⟩, fun x hx => by cases hx⟩ (fun _ _ _ _ _ => trivial) ?_ ?_
      · rintro i x σ H' H'' hi ⟨rfl, ⟨u, rfl⟩, hn⟩ ⟨rfl, c, hc, rfl⟩
        have hch := chars_at hc
        obtain ⟨f1, f2⟩ := find_take (fun x => !(lget st.adv x).isSome) hch hn
        refine ⟨_, rfl, p, _, _, rfl, FA.ob, fflds_no _ _ (by decide +kernel) (by decide +kernel) (by decide +kernel) (by decide +kernel), _, rfl, p, .str ⟨#[c]⟩, true, o, st, past, rfl, FA, Ks.str, IsS.str, fun hk d hd => ?_, fun hk => ?_⟩
        · exact kE hg1 _ (f1 (by rw [show (lget st.adv ⟨#[c]⟩).isSome = false from hk]; rfl)) d hd
        · exact ⟨rfl, ⟨_, rfl⟩, f2 (by rw [show (lget st.adv ⟨#[c]⟩).isSome = true from hk]; rfl)⟩
      · rintro σ H' ⟨rfl, _, hn⟩
        refine kQ (.inr ?_)
        unfold missing
        rw [List.take_of_length_le (by unfold chars; rw [List.length_map, Array.length_toList]; exact Nat.le_refl _)] at hn
        exact List.find?_eq_none.mpr fun x hx => by rw [hn x hx]; exact Bool.false_ne_true
    · have hb' : ¬ (1 : Int) < (g.length : Int) := fun z => hb (decide_eq_true z)
      exact kQ (.inl (by omega))
abbrev sRoom : Stmt := inClass (top 14) 37
theorem scRoom : FnScope ["self", "glyph"] ["self", "glyph"] (defScope sRoom) := ⟨rfl, rfl, rfl, by decide +kernel, rfl, by decide +kernel, by decide +kernel⟩
theorem ok_room {f fH fL pL : Addr} {fd fdH fdL fdE : FuncData} (F : Fun K "_check_room" "Font._check_room" sRoom f fd) (T : TxF K mg C CI fE fW fBt fWr) (U : TxH K mg C fHas fLen CU fEU fPl) (hM : ∃ u, Con K C "MOST_LIGATURES" (.int 40) u) (eT : ErrC K mg "TooMany" CT fET)
    (GH : FnOk P w K mg base CX0 1 fHas fdH ["self", "x"] (spHas K C)) (bH : Binds K fdH ["self", "x"] []) (hp : PropOf K C "ligatures" pL fL) (GL : FnOk P w K mg base CX0 3 fL fdL ["self"] (spLigs C)) (bL : Binds K fdL ["self"] [])
    (GE : FnOk P w K mg base CX0 1 fET fdE ["self", "limit"] (spEx1 CT "limit")) (bE : Binds K fdE ["self", "limit"] []) : FnOk P w K mg base (L2.CX P w) 5 f fd ["self", "glyph"] (spRoom C CT) := by
  obtain ⟨u4, hC⟩ := hM
  refine F.okX scRoom (fun vs H Q E h => ?_) (fun cdv A outer s H vs Q E hr h => ?_)
  · obtain ⟨p, g, o, st, past, rfl, _⟩ := h
    rfl
  · obtain ⟨p, g, o, st, past, rfl, FA, hl, hls, kE, kQ⟩ := h
    refine ⟨_, pss_one (ps_if (PW.pt (pw_and (pt_cmpR op_gt (pe_callB call_len_str (by rfl) T.len PySem.boot_len (pa_cons (pv 1) pa_nil)) pe_int (nomark _))
      (pw_and (pt_cmpR (op_notinO U.hHas U.iHas GH bH (hr.mono (by decide))) (pv 1) (pv 0) (by rfl))
        (pw_and1 (pt_cmpR op_ge (pe_callB call_len_seq (by rfl) T.len PySem.boot_len (pa_cons (pe_prop (pv 0) T.cl hp GL hr bL .nil pass0 rfl) pa_nil)) (pe_con (pv 0) rfl) (nomark _))))))
      (pss_one (ps_raise1 eT GE (hr.mono (by decide)) bE pass0 rfl (takes_of rfl rfl rfl rfl) (pe_con (pv 0) rfl) (fun σ H P R h hh => by
        obtain ⟨v, e, a, C', dx, fs, v', u, q1, q2, q3, q4, q5, q6⟩ := hh
        exact ⟨v, e, a, C', dx, fs, v', u, q1, q2, q3, q4, q5, h _ _ q6⟩))) pss_nil), ?_⟩
    have h4 : (sizeLine : Nat) = 16777216 := sizeLine_eq
    refine ⟨_, rfl, g, rfl, by omega, _, _, rfl, rfl, _, rfl, ?_⟩
    refine ite2 (fun hb => ?_) (fun hb => ?_)
    · have hb' : (1 : Int) < (g.length : Int) := of_decide_eq_true hb
      have e1 : roomless st g = (!(lget st.adv g).isSome && decide (40 ≤ (ligsOf st).length)) := by
        unfold roomless
        rw [decide_eq_true (by omega : 1 < g.length), Bool.true_and]
      rw [e1] at kE kQ
      refine ⟨_, rfl, _, rfl, p, _, _, rfl, FA.ob, p, .str g, true, o, st, past, rfl, FA, Ks.str, IsS.str, _, rfl, _, rfl, ?_⟩
      show if (!(lget st.adv g).isSome) = true then _ else _
      cases hk : (lget st.adv g).isSome with
      | true =>
        rw [hk] at kQ
        exact iteF (kQ rfl H (Same.refl H))
      | false =>
        rw [hk] at kE kQ
        refine iteT ⟨_, rfl, p, _, _, rfl, FA.ob, p, o, st, past, rfl, FA, hls, fun H' l s1 hl1 hl2 => ?_⟩
        have F1 := FA.sm s1
        refine ⟨l, _, rfl, .inl (SqL.of hl2), _, rfl, p, C, _, _, _, _, rfl, F1.ob, T.cl, hC, fflds_no _ _ (by decide +kernel) (by decide +kernel) (by decide +kernel) (by decide +kernel), _, _, rfl, rfl, _, rfl, ?_⟩
        rw [List.length_map]
        refine ite2 (fun hb => ?_) (fun hb => ?_)
        · have hb2 : (40 : Int) ≤ ((ligsOf st).length : Int) := of_decide_eq_true hb
          refine ⟨_, rfl, p, C, _, _, _, _, rfl, F1.ob, T.cl, hC, fflds_no _ _ (by decide +kernel) (by decide +kernel) (by decide +kernel) (by decide +kernel), fun d hd => kE ?_ H' d s1 hd⟩
          rw [decide_eq_true (by omega : 40 ≤ (ligsOf st).length)]
          rfl
        · have hb2 : ¬ (40 : Int) ≤ ((ligsOf st).length : Int) := fun z => hb (decide_eq_true z)
          refine kQ ?_ H' s1
          rw [decide_eq_false (by omega : ¬ 40 ≤ (ligsOf st).length)]
          rfl
    · have hb' : ¬ (1 : Int) < (g.length : Int) := fun z => hb (decide_eq_true z)
      refine kQ ?_ H (Same.refl H)
      unfold roomless
      rw [decide_eq_false (by omega : ¬ 1 < g.length), Bool.false_and]
abbrev sKOk : Stmt := inClass (top 14) 38
theorem scKOk : FnScope ["self", "glyph", "advance", "narrow", "left", "right", "pair"] ["self", "glyph", "advance"] (defScope sKOk) := ⟨rfl, rfl, rfl, by decide +kernel, rfl, by decide +kernel, by decide +kernel⟩
theorem ok_kok {f : Addr} {fd : FuncData} (F : Fun K "_check_kerns" "Font._check_kerns" sKOk f fd) (T : TxF K mg C CI fE fW fBt fWr) : FnOk P w K mg base (L2.CX P w) 1 f fd ["self", "glyph", "advance"] (spKernsOk C) := by
  refine F.okX scKOk (fun vs H Q E h => ?_) (fun cdv A outer s H vs Q E hr h => ?_)
  · obtain ⟨p, g, n, o, st, past, rfl, _⟩ := h
    rfl
  · obtain ⟨p, g, n, o, st, past, rfl, FA, hw, kQ⟩ := h
    have nd := scKOk.nd
    have hu := hu_of hr
    refine ⟨_, pss_cons (ps_lock (ps_setLc (i := 3) (own := [("pair", 6)]) (g := gName 6) (te := tVar 6)
        (tt := tAnd (tTest (tOp (rIn K false) (tVar 1) (tVar 6))) (tTest (tOp (rI0 fun i j => .bl (decide (i < j))) (tOp (rI0 fun i j => .int (i + j)) (tVar 2) (tDGet (tFld K (tVar 0) "_kerns") (tVar 6))) (tC (.int 0)))))
        rfl nd rfl rfl (sw_true rfl rfl rfl (by decide +kernel)) (pi_keys (pe_fld (pv 0) rfl))
        (blkOk_by (N := ["self", "glyph", "advance", "narrow", "left", "right", "pair"]) (sc := defScope sKOk) (by decide +kernel))
        (fun _ _ _ _ _ => pg_name (i := 6) nd rfl (Or.inl rfl))
        (fun _ _ _ _ _ => pts_one (PW.pt (pw_and (pt_cmpR op_in_seq (pv 1) (pv 6) (by rfl)) (pw_and1 (pt_cmpR op_lt (pe_op op_add (pv 2) (pe_dget hu (pe_fld (pv 0) rfl) (pv 6) (fun _ _ => rfl))) pe_int (nomark _))))))
        (fun _ _ _ _ _ => pv 6)))
      (pss_one (ps_if (pt_cmpR op_gt (pe_callB call_len_seq (by rfl) T.len PySem.boot_len (pa_cons (pv 3) pa_nil)) pe_int (nomark _)) pss_no pss_nil)), ?_⟩
    obtain ⟨k1, k2, k3, k4, k5, k6⟩ := FA.kinds
    refine ⟨o.dN, _, FA.dn, trivial, fun od => ?_⟩
    have hob : (upd H o.dN (.frz od (.dT (enc cK st.krn)))) p = some (.ins C o.dx (fflds o st.blank)) := (upd_ne k2).trans FA.ob
    refine ⟨_, rfl, p, C, _, _, _, rfl, hob, T.cl, T.nN, fflds_krn _ _, o.dN, od, rfl, .inr ⟨_, upd_same, fun D hD => ?_⟩⟩
    have hDn : D ≠ o.dN := fun z => by rw [z, upd_same] at hD; cases hD
    have hDH : H D = none := by rwa [upd_ne hDn] at hD
    refine lc_it walk_keysT (fun i H' => H' = upd (upd H o.dN (.frz od (.dT (enc cK st.krn)))) D (.lst [])) rfl (fun i H' _ e => by rw [e, upd_ne (Ne.symm hDn), upd_same]) ?_ ?_
    · rintro i x H' H'' hi rfl ⟨rfl, kk, v, q, hkv, rfl, hq⟩
      unfold enc at hkv
      rw [List.getElem?_map, Option.map_eq_some_iff] at hkv
      obtain ⟨e, he, e2⟩ := hkv
      obtain ⟨rfl, rfl⟩ := Prod.mk.inj e2
      have hem : e ∈ st.krn := List.mem_of_getElem? he
      obtain ⟨m, hm⟩ := lget_of_mem (l := st.krn) (k := e.1) (List.mem_map.mpr ⟨e, hem, rfl⟩)
      have hpD : p ≠ D := fun z => by rw [← z, FA.ob] at hDH; cases hDH
      refine ⟨rfl, _, rfl, _, rfl, q, _, rfl, .inr (SqT.of hq), rfl, rfl, _, rfl, ?_⟩
      cases hin : inV (.str g) ((cK e.1).map kV) with
      | false =>
        show if (false = true) then _ else _
        refine iteF ?_
        exact iteF rfl
      | true =>
        refine iteT ⟨_, rfl, _, rfl, p, C, _, _, _, rfl, (upd_ne hpD).trans hob, T.cl, T.nN, fflds_krn _ _, _, rfl, o.dN, .int m, rfl, ?_, _, _, rfl, rfl, _, _, rfl, rfl, _, rfl, ?_⟩
        · refine .inr ⟨_, cK e.1, q, .inr ⟨od, (upd_ne (Ne.symm hDn)).trans upd_same⟩, rfl, hq, ?_⟩
          rw [enc_get cK_inj st.krn e.1, hm]
          rfl
        · have hge : 0 ≤ n + m := by
            have h1 := hw e hem (by
              have : (V.str e.1.1 = V.str g ∨ V.str e.1.2 = V.str g) := by
                have h2 : (eqV (.str e.1.1) (.str g) || (eqV (.str e.1.2) (.str g) || false)) = true := hin
                rw [Bool.or_false, Bool.or_eq_true] at h2
                rcases h2 with h2 | h2
                · exact .inl (congrArg V.str (beq_iff_eq.mp h2))
                · exact .inr (congrArg V.str (beq_iff_eq.mp h2))
              rcases this with h | h
              · exact .inl (V.str.inj h)
              · exact .inr (V.str.inj h))
            unfold kernOf at h1
            rw [hm] at h1
            exact h1
          rw [decide_eq_false (by omega : ¬ n + m < 0)]
          exact iteF rfl
    · rintro H' rfl
      refine ⟨(upd_ne (Ne.symm hDn)).trans upd_same, ?_⟩
      have hfin : upd (upd (upd H o.dN (.frz od (.dT (enc cK st.krn)))) D (.lst [])) o.dN (.dT (enc cK st.krn)) = upd H D (.lst []) := by
        funext b
        by_cases h1 : b = o.dN
        · rw [h1, upd_same, upd_ne (Ne.symm hDn), FA.dn]
        · rw [upd_ne h1]
          by_cases h2 : b = D
          · rw [h2, upd_same, upd_same]
          · rw [upd_ne h2, upd_ne h2, upd_ne h1]
      rw [hfin]
      refine ⟨_, rfl, D, [], rfl, .inl (SqL.of upd_same), _, _, rfl, rfl, _, rfl, ?_⟩
      exact iteF (kQ _ (same_upd hDH))
end
/-! ### an own error with two fields -/
theorem upd_exc2 {H : Hp} {a dx : Addr} {u1 u2 u3 u4 o : HO} (ha : H a = none) (hd : dx ≠ a) : upd (del (upd (upd (upd (upd H a u1) dx u2) a u3) dx u4) a) dx o = upd H dx o := by
  funext b
  by_cases h1 : b = dx
  · rw [h1, upd_same, upd_same]
  · rw [upd_ne h1, upd_ne h1]
    by_cases h2 : b = a
    · rw [h2, del_same, ha]
    · rw [del_ne h2, upd_ne h1, upd_ne h2, upd_ne h1, upd_ne h2]
def spEx2 (C : Addr) (f g : Str) : Sp := fun vs H Q _ => ∃ (a : Addr) (x y : V), vs = [.ref a, x, y] ∧ H a = some (exo a C none) ∧ ∀ dx, H dx = none → dx ≠ a → Q .non (upd (upd (upd H dx (exd dx [(f, x)])) a (exo a C (some dx))) dx (exd dx [(g, y), (f, x)]))
theorem mkO2 {C : Addr} {f g : Str} {ta : TA} {σ : St} {H : Hp} {Q : XK} (h : ta σ H fun vs H1 => ∃ x y, vs = [x, y] ∧ ∀ d, H1 d = none → Q (.ref C) (some d) (upd H1 d (.xd [(g, y), (f, x)]))) (hm : ∀ (P R : List V → Hp → Prop), (∀ vs H, P vs H → R vs H) → ta σ H P → ta σ H R) : tMkO C (spEx2 C f g) [] ta σ H Q := by
  refine hm _ _ (fun vs H1 ⟨x, y, ev, k⟩ => ?_) h
  subst ev
  refine ⟨by show 2 ≤ 1000; decide, fun a na => ⟨a, x, y, rfl, upd_same, fun dx hdx nda => ⟨rfl, dx, [(g, y), (f, x)], ?_, upd_same, ?_, ?_⟩⟩⟩
  · rw [upd_ne (Ne.symm nda), upd_same]
  · rw [upd_ne nda] at hdx
    exact hdx
  · rw [upd_exc2 na nda]
    rw [upd_ne nda] at hdx
    exact k dx hdx
/-- raise C(a, b) -/
def tRaise2 (C : Addr) (f g : Str) (W : WX) (te tu : TE) : TS := fun _ σ H => te σ H fun x H1 => tu σ H1 fun y H2 => ∀ d, H2 d = none → W (.ref C) (some d) σ (upd H2 d (.xd [(g, y), (f, x)]))
section
variable {X : Cx}
theorem ps_raise2 {CX : CXT} {x f g : Str} {C fI : Addr} {k : Nat} {fd : FuncData} {te tu : TE} {W : WX} {a b : Expr} {p pos pos2 : Pos} (R : ErrC X.K X.mg x C fI) (F1 : FnOk X.prog X.w X.K X.mg X.base CX k fI fd ["self", f, g] (spEx2 C f g)) (hr : Room (k + 1) X.A) (hb : Binds X.K fd ["self", f, g] [])
    (hx : Passes CX X (fun _ _ _ => False)) (hc : X.calm = true) (tk : Takes X W) (ha : PE X a te) (hb2 : PE X b tu) (hm : ∀ σ H (P R : V → Hp → Prop), (∀ v H, P v H → R v H) → te σ H P → te σ H R) (hm2 : ∀ σ H (P R : V → Hp → Prop), (∀ v H, P v H → R v H) → tu σ H P → tu σ H R) (hg : Gl X x := by rfl) (hdb : (x == ("__debug__" : Str)) = false := by decide)
    (he : starEach [a, b] X.env = (false, eval a X.env) :: starEach [b] X.env := by rfl) (he2 : starEach [b] X.env = (false, eval b X.env) :: starEach [] X.env := by rfl) (hpl : (backTo pos (starEach [b] X.env)).any (·.1) = false := by rfl) :
    PS X (.Raise (some (.Call (.Name x p) [a, b] [] pos)) none pos2) (tRaise2 C f g W te tu) := by
  have q := ps_raise hc tk (pmk_oex (p := p) (e := a) (es := [b]) R.T R.iC R.tI F1 hr hb .nil hx hg R.g (pa_cons ha (pa_cons hb2 pa_nil he2) he) hdb he hpl) (pos := pos2)
  refine ⟨fun pins s σ H D I h => q.run pins s σ H D I ?_⟩
  refine mkO2 (f := f) (g := g) ?_ (fun P R hpr h => ?_)
  · exact hm σ H _ _ (fun u H1 k => hm2 σ H1 _ _ (fun v H2 k2 => ⟨u, v, rfl, k2⟩) k) h
  · exact hm σ H _ _ (fun u H1 k => hm2 σ H1 _ _ (fun v H2 k2 => hpr _ _ k2) k) h
end
/-! ### _put_advance, _put_kern -/
def spPutA (K : PySem.W.Frag) (C CI CU CT CG : Addr) : Sp := fun vs H Q E => ∃ (p : Addr) (v a : V) (t i b : Bool) (o : Own) (st : FSt) (past : List (List Rec)), vs = [.ref p, v, a] ∧ FontAt C H p o st past ∧ Ks K H v t ∧ IsS v t ∧ (∀ g, v = .str g → g.length ≤ 1000) ∧ Kd K H a i b ∧ ((i && !b) = true → ∃ n, a = .int n) ∧ ((i && !b) = false → ∀ n, a ≠ .int n) ∧ (∀ e ∈ st.adv, e.1.length ≤ 1000) ∧
  (nameV v = false → ∀ d, H d = none → E (.ref CG) (some d) (upd H d (.xd [("glyph", v)]))) ∧
  (nameV v = true → ¬ inR a 0 1000000 → ∀ d, H d = none → E (.ref CI) (some d) (upd H d (.xd [("value", a)]))) ∧
  (∀ g n, v = .str g → nameB g = true → a = .int n → 0 ≤ n → n ≤ 1000000 →
    (1 < g.length → ∀ c, missing st g = some c → ∀ d, H d = none → E (.ref CU) (some d) (upd H d (.xd [("glyph", .str c)]))) ∧
    (g.length ≤ 1 ∨ missing st g = none → (roomless st g = true → ∀ H' d, Same H H' → H' d = none → E (.ref CT) (some d) (upd H' d (.xd [("limit", .int 40)]))) ∧
      (roomless st g = false → Wide st g n ∧ (setA st g (some n)).adv.length ≤ 1000 ∧ ∀ H' l, H l = none → KeepF p o H H' → FontAt C H' p o (setA st g (some n)) past → RecsAt H' l [.adv g (lget st.adv g)] → Q (.ref l) H')))
def kx (n : Int) : Option Int := if n = 0 then none else some n
def spPutK (K : PySem.W.Frag) (C CI CU CO : Addr) : Sp := fun vs H Q E => ∃ (p : Addr) (v u a : V) (t t' i b : Bool) (o : Own) (st : FSt) (past : List (List Rec)), vs = [.ref p, v, u, a] ∧ FontAt C H p o st past ∧ Ks K H v t ∧ IsS v t ∧ Ks K H u t' ∧ IsS u t' ∧ Kd K H a i b ∧ ((i && !b) = true → ∃ n, a = .int n) ∧ ((i && !b) = false → ∀ n, a ≠ .int n) ∧
  (knownV st v = false → ∀ d, H d = none → E (.ref CU) (some d) (upd H d (.xd [("glyph", v)]))) ∧
  (knownV st v = true → knownV st u = false → ∀ d, H d = none → E (.ref CU) (some d) (upd H d (.xd [("glyph", u)]))) ∧
  (knownV st v = true → knownV st u = true → ¬ inR a (-1000000) 1000000 → ∀ d, H d = none → E (.ref CI) (some d) (upd H d (.xd [("value", a)]))) ∧
  (∀ l r n x y, v = .str l → u = .str r → a = .int n → -1000000 ≤ n → n ≤ 1000000 → lget st.adv l = some x → lget st.adv r = some y →
    ((x + n < 0 ∨ y + n < 0) → ∀ d, H d = none → E (.ref CO) (some d) (upd H d (.xd [("right", .str r), ("left", .str l)]))) ∧
    (0 ≤ x + n → 0 ≤ y + n → (setK st (l, r) (kx n)).krn.length ≤ 1000 ∧ ∀ H' q, H q = none → KeepF p o H H' → FontAt C H' p o (setK st (l, r) (kx n)) past → RecsAt H' q [.krn l r (lget st.krn (l, r))] → Q (.ref q) H'))
section
variable {P : Program} {w : World} {K : PySem.W.Frag} {mg : Str → Option Value} {base : Heap} {C CI fE fW fBt fWr CU CT CG CO fEG fNm fEO : Addr}
abbrev sPutA : Stmt := inClass (top 14) 31
theorem scPutA : FnScope ["self", "glyph", "advance"] ["self", "glyph", "advance"] (defScope sPutA) := ⟨rfl, rfl, rfl, by decide +kernel, rfl, by decide +kernel, by decide +kernel⟩
theorem ok_putA {f fL fR fK fWA : Addr} {fd fdN fdE fdB fdL fdR fdK fdW : FuncData} (F : Fun K "_put_advance" "Font._put_advance" sPutA f fd) (T : TxF K mg C CI fE fW fBt fWr) (nm : At K mg "is_glyph_name" fNm) (GN : FnOk P w K mg base CX0 1 fNm fdN ["value"] (spName K)) (bN : Binds K fdN ["value"] [])
    (eG : ErrC K mg "InvalidGlyph" CG fEG) (GE : FnOk P w K mg base CX0 1 fEG fdE ["self", "glyph"] (spEx1 CG "glyph")) (bE : Binds K fdE ["self", "glyph"] []) (GB : FnOk P w K mg base (L2.CX P w) 3 fBt fdB ["value", "low", "high"] (spBetween K CI)) (bB : Binds K fdB ["value", "low", "high"] [])
    (GL : FnOk P w K mg base (L2.CX P w) 4 fL fdL ["self", "glyph"] (spLetters C CU)) (bL : Binds K fdL ["self", "glyph"] []) (mL : Meth K C "_check_letters" fL) (GR : FnOk P w K mg base (L2.CX P w) 5 fR fdR ["self", "glyph"] (spRoom C CT)) (bR : Binds K fdR ["self", "glyph"] []) (mR : Meth K C "_check_room" fR)
    (GK : FnOk P w K mg base (L2.CX P w) 1 fK fdK ["self", "glyph", "advance"] (spKernsOk C)) (bK : Binds K fdK ["self", "glyph", "advance"] []) (mK : Meth K C "_check_kerns" fK) (GW : FnOk P w K mg base CX0 2 fWA fdW ["self", "glyph", "advance"] (spWrA C)) (bW : Binds K fdW ["self", "glyph", "advance"] []) (mW : Meth K C "_write_advance" fWA) :
    FnOk P w K mg base (L2.CX P w) 6 f fd ["self", "glyph", "advance"] (spPutA K C CI CU CT CG) := by
  obtain ⟨u1, hC⟩ := T.adv
  refine F.okX scPutA (fun vs H Q E h => ?_) (fun cdv A outer s H vs Q E hr h => ?_)
  · obtain ⟨p, v, a, t, i, b, o, st, past, rfl, _⟩ := h
    rfl
  · obtain ⟨p, v, a, t, i, b, o, st, past, rfl, FA, ks, is, hvl, kd, h1, h0, hls, eN, eI, k⟩ := h
    have h4 : (sizeLine : Nat) = 16777216 := sizeLine_eq
    refine ⟨_, pss_cons (ps_if (pt_not (pt_val (pe_call GN (hr.mono (by decide)) (by rfl) nm.g nm.k bN .nil pass0 (pa_cons (pv 1) pa_nil)))) (pss_one (ps_raise1 eG GE (hr.mono (by decide)) bE pass0 rfl (takes_of rfl rfl rfl rfl) (pv 1) (fun σ H P R h => mono_tVar σ H P R h))) pss_nil)
      (pss_cons (ps_expr (pe_call GB (hr.mono (by decide)) (by rfl) T.btw.g T.btw.k bB .nil (passes_call (takes_of rfl rfl rfl rfl) (fun _ _ _ _ h => h)) (pa_cons (pv 2) (pa_cons pe_int (pa_cons (pe_con (pv 0) rfl) pa_nil)))))
      (pss_cons (ps_expr (pe_meth (pv 0) T.cl mL GL (hr.mono (by decide)) bL .nil (passes_call (takes_of rfl rfl rfl rfl) (fun _ _ _ _ h => h)) (pa_cons (pv 1) pa_nil)))
      (pss_cons (ps_expr (pe_meth (pv 0) T.cl mR GR hr bR .nil (passes_call (takes_of rfl rfl rfl rfl) (fun _ _ _ _ h => h)) (pa_cons (pv 1) pa_nil)))
      (pss_cons (ps_expr (pe_meth (pv 0) T.cl mK GK (hr.mono (by decide)) bK .nil (passes_call (takes_of rfl rfl rfl rfl) (fun _ _ _ _ h => h)) (pa_cons (pv 1) (pa_cons (pv 2) pa_nil))))
      (pss_one (ps_ret (pe_lst (pa_cons (pe_meth (pv 0) T.cl mW GW (hr.mono (by decide)) bW .nil pass0 (pa_cons (pv 1) (pa_cons (pv 2) pa_nil))) pa_nil)))))))), ?_⟩
    have nf : ∀ {st' : FSt} {m : Str}, (m == ("_advances" : Str)) = false → (m == ("_kerns" : Str)) = false → (m == ("_blank" : Str)) = false → (m == ("_past" : Str)) = false → (fflds o st'.blank).lookup m = none := fun a b c d => fflds_no _ _ a b c d
    refine ⟨_, rfl, v, t, rfl, ks, is, fun g e => by have := hvl g e; omega, _, rfl, ?_⟩
    cases hn : nameV v with
    | false => exact iteT ⟨_, rfl, fun d hd => eN hn d hd⟩
    | true =>
      obtain ⟨g, rfl⟩ : ∃ g, v = .str g := by
        cases v <;> first | exact ⟨_, rfl⟩ | cases hn
      have hgl := hvl g rfl
      refine iteF ⟨_, rfl, _, rfl, p, C, _, _, _, _, rfl, FA.ob, T.cl, hC, nf (by decide +kernel) (by decide +kernel) (by decide +kernel) (by decide +kernel), a, i, b, 0, 1000000, rfl, kd, h1, h0, eI hn, fun ⟨n, e, n0, n1⟩ => ?_⟩
      subst e
      obtain ⟨q1, q2⟩ := k g n rfl hn rfl n0 n1
      refine ⟨_, rfl, p, _, _, rfl, FA.ob, nf (by decide +kernel) (by decide +kernel) (by decide +kernel) (by decide +kernel), _, rfl, p, g, o, st, past, rfl, FA, hgl, q1, fun hm => ?_⟩
      obtain ⟨q3, q4⟩ := q2 hm
      refine ⟨_, rfl, p, _, _, rfl, FA.ob, nf (by decide +kernel) (by decide +kernel) (by decide +kernel) (by decide +kernel), _, rfl, p, g, o, st, past, rfl, FA, hgl, hls, q3, fun hro H1 s1 => ?_⟩
      obtain ⟨hw, hlen, kQ⟩ := q4 hro
      have F1 := FA.sm s1
      refine ⟨_, rfl, p, _, _, rfl, F1.ob, nf (by decide +kernel) (by decide +kernel) (by decide +kernel) (by decide +kernel), _, rfl, _, rfl, p, g, n, o, st, past, rfl, F1, hw, fun H2 s2 => ?_⟩
      have F2 := F1.sm s2
      refine ⟨_, rfl, p, _, _, rfl, F2.ob, nf (by decide +kernel) (by decide +kernel) (by decide +kernel) (by decide +kernel), _, rfl, _, rfl, p, g, some n, o, st, past, rfl, F2, hlen, fun H3 t3 ht3 kf F3 hrec => ?_⟩
      refine ⟨by show 1 ≤ sizeLine; decide, fun l hl => ?_⟩
      have kf' : KeepF p o H H3 := ((KeepF.same s1).trans (KeepF.same s2)).trans kf
      have hlH : H l = none := by
        cases e : H l with
        | none => rfl
        | some u =>
          have e2 := s2 _ _ (s1 _ _ e)
          obtain ⟨ls, hp, _⟩ := F3.dp
          by_cases c1 : l = p
          · rw [c1, F3.ob] at hl; cases hl
          · by_cases c2 : l = o.dA
            · rw [c2, F3.da] at hl; cases hl
            · by_cases c3 : l = o.dN
              · rw [c3, F3.dn] at hl; cases hl
              · by_cases c4 : l = o.dP
                · rw [c4, hp] at hl; cases hl
                · rw [kf _ _ e2 c1 c2 c3 c4] at hl; cases hl
      exact kQ _ l hlH (kf'.trans (KeepF.same (same_upd hl))) (F3.sm (same_upd hl)) ⟨[t3], upd_same, .cons (RecAt.sm (fun _ _ => same_upd hl _ _) hrec) .nil⟩
abbrev sPutK : Stmt := inClass (top 14) 32
theorem scPutK : FnScope ["self", "left", "right", "kern"] ["self", "left", "right", "kern"] (defScope sPutK) := ⟨rfl, rfl, rfl, by decide +kernel, rfl, by decide +kernel, by decide +kernel⟩
theorem ok_putK {f fK fWK : Addr} {fd fdE fdB fdK fdW : FuncData} (F : Fun K "_put_kern" "Font._put_kern" sPutK f fd) (T : TxF K mg C CI fE fW fBt fWr) (eO : ErrC K mg "Overlap" CO fEO) (GE : FnOk P w K mg base CX0 1 fEO fdE ["self", "left", "right"] (spEx2 CO "left" "right")) (bE : Binds K fdE ["self", "left", "right"] [])
    (GB : FnOk P w K mg base (L2.CX P w) 3 fBt fdB ["value", "low", "high"] (spBetween K CI)) (bB : Binds K fdB ["value", "low", "high"] []) (GK : FnOk P w K mg base (L2.CX P w) 3 fK fdK ["self", "glyph"] (spKnown K C CU)) (bK : Binds K fdK ["self", "glyph"] []) (mK : Meth K C "_check_known" fK)
    (GW : FnOk P w K mg base CX0 2 fWK fdW ["self", "pair", "kern"] (spWrK C)) (bW : Binds K fdW ["self", "pair", "kern"] []) (mW : Meth K C "_write_kern" fWK) : FnOk P w K mg base (L2.CX P w) 4 f fd ["self", "left", "right", "kern"] (spPutK K C CI CU CO) := by
  obtain ⟨u1, hC⟩ := T.adv
  refine F.okX scPutK (fun vs H Q E h => ?_) (fun cdv A outer s H vs Q E hr h => ?_)
  · obtain ⟨p, v, u, a, t, t', i, b, o, st, past, rfl, _⟩ := h
    rfl
  · obtain ⟨p, v, u, a, t, t', i, b, o, st, past, rfl, FA, ks, is, ks', is', kd, h1, h0, e1, e2, e3, k⟩ := h
    have hu := hu_of hr
    refine ⟨_, pss_cons (ps_expr (pe_meth (pv 0) T.cl mK GK hr bK .nil (passes_call (takes_of rfl rfl rfl rfl) (fun _ _ _ _ h => h)) (pa_cons (pv 1) pa_nil)))
      (pss_cons (ps_expr (pe_meth (pv 0) T.cl mK GK hr bK .nil (passes_call (takes_of rfl rfl rfl rfl) (fun _ _ _ _ h => h)) (pa_cons (pv 2) pa_nil)))
      (pss_cons (ps_expr (pe_call GB hr (by rfl) T.btw.g T.btw.k bB .nil (passes_call (takes_of rfl rfl rfl rfl) (fun _ _ _ _ h => h)) (pa_cons (pv 3) (pa_cons (pe_un un_neg (pe_con (pv 0) rfl)) (pa_cons (pe_con (pv 0) rfl) pa_nil)))))
      (pss_cons (ps_if (PW.pt (pw_or (pt_cmpR op_lt (pe_op op_add (pe_dget hu (pe_fld (pv 0) rfl) (pv 1) (fun _ _ => rfl)) (pv 3)) pe_int (nomark _)) (pw_or1 (pt_cmpR op_lt (pe_op op_add (pe_dget hu (pe_fld (pv 0) rfl) (pv 2) (fun _ _ => rfl)) (pv 3)) pe_int (nomark _)))))
        (pss_one (ps_raise2 eO GE (hr.mono (by decide)) bE pass0 rfl (takes_of rfl rfl rfl rfl) (pv 1) (pv 2) (fun σ H P R h => mono_tVar σ H P R h) (fun σ H P R h => mono_tVar σ H P R h))) pss_nil)
      (pss_one (ps_ret (pe_lst (pa_cons (pe_meth (pv 0) T.cl mW GW (hr.mono (by decide)) bW .nil pass0 (pa_cons (pe_tup (pa_cons (pv 1) (pa_cons (pv 2) pa_nil))) (pa_cons (pe_ifExp (pt_cmpR op_eq (pv 3) pe_int (nomark _)) pe_non (pv 3)) pa_nil))) pa_nil))))))), ?_⟩
    have nf : ∀ {m : Str}, (m == ("_advances" : Str)) = false → (m == ("_kerns" : Str)) = false → (m == ("_blank" : Str)) = false → (m == ("_past" : Str)) = false → (fflds o st.blank).lookup m = none := fun a b c d => fflds_no _ _ a b c d
    refine ⟨_, rfl, p, _, _, rfl, FA.ob, nf (by decide +kernel) (by decide +kernel) (by decide +kernel) (by decide +kernel), _, rfl, p, v, t, o, st, past, rfl, FA, ks, is, e1, fun hv => ?_⟩
    refine ⟨_, rfl, p, _, _, rfl, FA.ob, nf (by decide +kernel) (by decide +kernel) (by decide +kernel) (by decide +kernel), _, rfl, p, u, t', o, st, past, rfl, FA, ks', is', e2 hv, fun hu' => ?_⟩
    refine ⟨_, rfl, _, rfl, p, C, _, _, _, _, rfl, FA.ob, T.cl, hC, nf (by decide +kernel) (by decide +kernel) (by decide +kernel) (by decide +kernel), _, rfl, _, rfl, p, C, _, _, _, _, rfl, FA.ob, T.cl, hC, nf (by decide +kernel) (by decide +kernel) (by decide +kernel) (by decide +kernel), a, i, b, -1000000, 1000000, rfl, kd, h1, h0, e3 hv hu', fun ⟨n, e, n0, n1⟩ => ?_⟩
    subst e
    obtain ⟨l, rfl⟩ : ∃ g, v = .str g := by
      cases v <;> first | exact ⟨_, rfl⟩ | cases hv
    obtain ⟨r, rfl⟩ : ∃ g, u = .str g := by
      cases u <;> first | exact ⟨_, rfl⟩ | cases hu'
    obtain ⟨x, hx⟩ := Option.isSome_iff_exists.mp (show (lget st.adv l).isSome = true from hv)
    obtain ⟨y, hy⟩ := Option.isSome_iff_exists.mp (show (lget st.adv r).isSome = true from hu')
    obtain ⟨q1, q2⟩ := k l r n x y rfl rfl rfl n0 n1 hx hy
    have gl : ∀ {g : Str} {m : Int}, lget st.adv g = some m → DGet H o.dA (.str g) (some (.int m)) := fun {g m} hm => by
      have e : valV (enc cA st.adv) (Sum.inr g : Key) = some (.int m) := by
        rw [show valV (enc cA st.adv) (Sum.inr g : Key) = (lget st.adv g).map V.int from enc_get cA_inj st.adv g, hm]
        rfl
      rw [← e]
      exact DGet.k (k := Sum.inr g) FA.da
    refine ⟨_, rfl, p, C, _, _, _, rfl, FA.ob, T.cl, T.nA, fflds_adv _ _, _, rfl, o.dA, .int x, rfl, gl hx, _, rfl, _, _, rfl, rfl, _, _, rfl, rfl, _, rfl, ?_⟩
    refine ite2 (fun hb => ?_) (fun hb => ?_)
    · have hb' := of_decide_eq_true hb
      exact iteT ⟨_, rfl, _, rfl, fun d hd => q1 (.inl hb') d hd⟩
    · have hb' : ¬ x + n < 0 := fun z => hb (decide_eq_true z)
      refine ⟨_, rfl, p, C, _, _, _, rfl, FA.ob, T.cl, T.nA, fflds_adv _ _, _, rfl, o.dA, .int y, rfl, gl hy, _, rfl, _, _, rfl, rfl, _, _, rfl, rfl, _, rfl, ?_⟩
      refine ite2 (fun hc => ?_) (fun hc => ?_)
      · have hc' := of_decide_eq_true hc
        exact ⟨_, rfl, _, rfl, fun d hd => q1 (.inr hc') d hd⟩
      · have hc' : ¬ y + n < 0 := fun z => hc (decide_eq_true z)
        obtain ⟨hlen, kQ⟩ := q2 (by omega) (by omega)
        refine ⟨_, rfl, p, _, _, rfl, FA.ob, nf (by decide +kernel) (by decide +kernel) (by decide +kernel) (by decide +kernel), _, rfl, _, rfl, by show 2 ≤ sizeLine; decide, fun q hq => ?_⟩
        have s1 : Same H (upd H q (.tup [.str l, .str r])) := same_upd hq
        have F1 := FA.sm s1
        refine ⟨_, rfl, rfl, _, rfl, ?_⟩
        rw [dec_int]
        have fin : ∀ (z : V), z = ov (kx n) → spWrK C ([.ref p, .ref q, z] ++ []) (upd H q (.tup [.str l, .str r])) (fun x H1 => [x].length ≤ sizeLine ∧ ∀ l, H1 l = none → Q (.ref l) (upd H1 l (.lst [x]))) E0 := fun z hz => by
          refine ⟨p, q, (l, r), kx n, o, st, past, by rw [hz]; rfl, F1, upd_same, hlen, fun H3 t3 ht3 kf F3 hrec => ⟨by show 1 ≤ sizeLine; decide, fun l3 hl3 => ?_⟩⟩
          have kf' : KeepF p o H H3 := (KeepF.same s1).trans kf
          have hlH : H l3 = none := by
            cases e : H l3 with
            | none => rfl
            | some u =>
              have e2 := s1 _ _ e
              obtain ⟨ls, hp, _⟩ := F3.dp
              by_cases c1 : l3 = p
              · rw [c1, F3.ob] at hl3; cases hl3
              · by_cases c2 : l3 = o.dA
                · rw [c2, F3.da] at hl3; cases hl3
                · by_cases c3 : l3 = o.dN
                  · rw [c3, F3.dn] at hl3; cases hl3
                  · by_cases c4 : l3 = o.dP
                    · rw [c4, hp] at hl3; cases hl3
                    · rw [kf _ _ e2 c1 c2 c3 c4] at hl3; cases hl3
          exact kQ _ l3 hlH (kf'.trans (KeepF.same (same_upd hl3))) (F3.sm (same_upd hl3)) ⟨[t3], upd_same, .cons (RecAt.sm (fun _ _ => same_upd hl3 _ _) hrec) .nil⟩
        by_cases n00 : n = 0
        · rw [show (n == 0) = true from beq_iff_eq.mpr n00]
          exact iteT (fin .non (by unfold kx; rw [if_pos n00]; rfl))
        · rw [show (n == 0) = false from beq_eq_false_iff_ne.mpr n00]
          exact iteF ⟨_, rfl, fin (.int n) (by unfold kx; rw [if_neg n00]; rfl)⟩
end
/-! ### Font.__init__, every step accepted -/
def advOf (fa : AdvL) (g : Str) : Int := (lget fa g).getD 0
def keysA (fa : AdvL) : List Str := (fa.map (·.1)).mergeSort (PySem.W.dataLe false kRank)
def keysK (fk : KrnL) : List (Str × Str) := (fk.map (·.1)).mergeSort (PySem.W.dataLe false kPlace)
def stA (fa : AdvL) (b : Int) (i : Nat) : FSt := ((keysA fa).take i).foldl (fun st g => setA st g (some (advOf fa g))) ⟨[], [], b⟩
def stK (fk : KrnL) (st : FSt) (i : Nat) : FSt := ((keysK fk).take i).foldl (fun st g => setK st g (kx (kernOf fk g))) st
def StepA (st : FSt) (g : Str) (n : Int) : Prop := nameB g = true ∧ 0 ≤ n ∧ n ≤ 1000000 ∧ (g.length ≤ 1 ∨ missing st g = none) ∧ roomless st g = false ∧ Wide st g n ∧ (setA st g (some n)).adv.length ≤ 1000 ∧ (∀ e ∈ st.adv, e.1.length ≤ 1000)
def StepK (st : FSt) (g : Str × Str) (n : Int) : Prop := -1000000 ≤ n ∧ n ≤ 1000000 ∧ ∃ x y, lget st.adv g.1 = some x ∧ lget st.adv g.2 = some y ∧ 0 ≤ x + n ∧ 0 ≤ y + n ∧ (setK st g (kx n)).krn.length ≤ 1000
/-- a face that the constructor accepts, and the font's state then -/
structure Face (fa : AdvL) (fk : KrnL) (b : Int) : Prop where
  b0 : 0 ≤ b
  b1 : b ≤ 1000000
  la : fa.length ≤ 1000
  lk : fk.length ≤ 1000
  ln : ∀ e ∈ fa, e.1.length ≤ 1000
  sa : ∀ i g, (keysA fa)[i]? = some g → StepA (stA fa b i) g (advOf fa g)
  sk : ∀ i g, (keysK fk)[i]? = some g → StepK (stK fk (stA fa b fa.length) i) g (kernOf fk g)
def endSt (fa : AdvL) (fk : KrnL) (b : Int) : FSt := stK fk (stA fa b fa.length) fk.length
def KrnArg (H : Hp) (v : V) (fk : KrnL) : Prop := (∃ k, v = .ref k ∧ H k = some (.dT (enc cK fk))) ∨ (v = .non ∧ fk = [])
def spFont (C : Addr) : Sp := fun vs H Q _ => ∃ (p dx a : Addr) (kv : V) (fa : AdvL) (fk : KrnL) (b : Int), vs = [.ref p, .ref a, kv, .int b] ∧ H p = some (.ins C dx []) ∧ H a = some (.dK (enc cA fa)) ∧ KrnArg H kv fk ∧ Face fa fk b ∧
  ∀ H' (o : Own), o.dx = dx → (∀ c u, H c = some u → c ≠ p → H' c = some u) → H o.dA = none → H o.dN = none → H o.dP = none → FontAt C H' p o (endSt fa fk b) [] → Q .non H'
theorem sort_place (xs : List (Addr × (Str × Str))) : (xs.mergeSort (PySem.W.dataLe false fun x => kPlace x.2)).map (·.2) = (xs.map (·.2)).mergeSort (PySem.W.dataLe false kPlace) := List.map_mergeSort fun a _ b _ => rfl
section
variable {P : Program} {w : World} {K : PySem.W.Frag} {mg : Str → Option Value} {base : Heap} {C CI fE fW fBt fWr fHas fLen CU fEU fPl fPP CT CG CO : Addr}
abbrev sInit : Stmt := inClass (top 14) 4
theorem scInit : FnScope ["self", "advances", "kerns", "blank", "glyph", "pairs", "left", "right"] ["self", "advances", "kerns", "blank"] (defScope sInit) := ⟨rfl, rfl, rfl, by decide +kernel, rfl, by decide +kernel, by decide +kernel⟩
theorem ok_font {f fB fA fK : Addr} {fd fdB fdA fdK : FuncData} {t0 : Tok} (F : FunD K "__init__" "Font.__init__" (defArgs sInit) (defBody sInit) (defScope sInit) [.non] [("blank", .int 250)] f fd) (T : TxF K mg C CI fE fW fBt fWr) (U : TxH K mg C fHas fLen CU fEU fPl)
    (mB : mg "BLANK" = some (.int 250 t0)) (pp : mg "pair_place" = some (.ref fPP)) (GP : KeyStr P w K mg base fPl kRank) (GQ : KeyPair P w K mg base fPP kPlace)
    (GB : FnOk P w K mg base (L2.CX P w) 4 fB fdB ["self", "advance"] (spPutB K C CI)) (bB : Binds K fdB ["self", "advance"] []) (eB : Meth K C "_put_blank" fB)
    (GA : FnOk P w K mg base (L2.CX P w) 6 fA fdA ["self", "glyph", "advance"] (spPutA K C CI CU CT CG)) (bA : Binds K fdA ["self", "glyph", "advance"] []) (eA : Meth K C "_put_advance" fA)
    (GK : FnOk P w K mg base (L2.CX P w) 4 fK fdK ["self", "left", "right", "kern"] (spPutK K C CI CU CO)) (bK : Binds K fdK ["self", "left", "right", "kern"] []) (eK : Meth K C "_put_kern" fK) : FnOk P w K mg base (L2.CX P w) 7 f fd ["self", "advances", "kerns", "blank"] (spFont C) := by
  refine F.ok scInit (fun vs H Q E h => ?_) (fun cdv A outer s H vs Q E hr h => ?_)
  · obtain ⟨p, dx, a, kv, fa, fk, b, rfl, _⟩ := h
    rfl
  · obtain ⟨p, dx, a, kv, fa, fk, b, rfl, hp, ha, hk, FC, kQ⟩ := h
    have nd := scInit.nd
    have hu := hu_of hr
    refine ⟨_, pss_cons (ps_fld (pv 0) pe_dnewK rfl) (pss_cons (ps_fld (pv 0) pe_dnewT rfl) (pss_cons (ps_fld (pv 0) (pe_glob (v := .int 250) (by rfl) mB ⟨_, rfl⟩) rfl) (pss_cons (ps_fld (pv 0) (pe_lst pa_nil) rfl)
      (pss_cons (ps_expr (pe_meth (pv 0) T.cl eB GB (hr.mono (by decide)) bB .nil (passes_call (takes_of rfl rfl rfl rfl) (fun _ _ _ _ h => h)) (pa_cons (pv 3) pa_nil)))
      (pss_cons (ps_for (passes_of rfl) rfl (pi_list (pe_callBK (cr_sortedK (f := fPl) (val := V.str) (ok := fun _ _ x => x.length ≤ 1000) (k := kRank) rfl (hr.mono (by decide))) (by rfl) U.mSorted (by decide +kernel) (pa_cons (pe_callTy (call_list_dK rfl) (by rfl) U.mList (by decide +kernel) (pa_cons (pv 1) pa_nil)) pa_nil) (pk_cons (pe_glob (v := .ref fPl) (by rfl) U.pl rfl) pk_nil)))
        (pg_name (i := 4) nd rfl (Or.inl rfl)) (pss_one (ps_expr (pe_meth (pv 0) T.cl eA GA hr bA .nil (passes_call (takes_of rfl rfl rfl rfl) (fun _ _ _ _ h => h)) (pa_cons (pv 4) (pa_cons (pe_dget hu (pv 1) (pv 4) (fun _ _ => rfl)) pa_nil))))))
      (C8.pss_cut (ps_set (i := 5) nd rfl (Or.inl rfl) (pe_ifExp (pt_cmp (pc_isN (pv 2))) pe_dnewT (pv 2)))
      (pss_one (ps_for (passes_of rfl) rfl (pi_list (pe_callBK (cr_sortedK (f := fPP) (val := fun x => V.ref x.1) (ok := fun hp _ x => ∃ t1 t2, PyProof.Rows.IsTup hp x.1 #[.str x.2.1 t1, .str x.2.2 t2]) (k := fun x : Addr × (Str × Str) => kPlace x.2) rfl (hr.mono (by decide))) (by rfl) U.mSorted (by decide +kernel) (pa_cons (pe_callTy (call_list_dT rfl) (by rfl) U.mList (by decide +kernel) (pa_cons (pv 5) pa_nil)) pa_nil) (pk_cons (pe_glob (v := .ref fPP) (by rfl) pp rfl) pk_nil)))
        (pg_tup rfl (pgs_cons (pg_name (i := 6) nd rfl (Or.inl rfl)) (pgs_cons (pg_name (i := 7) nd rfl (Or.inl rfl)) pgs_nil)))
        (pss_one (ps_expr (pe_meth (pv 0) T.cl eK GK (hr.mono (by decide)) bK .nil (passes_call (takes_of rfl rfl rfl rfl) (fun _ _ _ _ h => h)) (pa_cons (pv 6) (pa_cons (pv 7) (pa_cons (pe_dget hu (pv 5) (pe_tup (pa_cons (pv 6) (pa_cons (pv 7) pa_nil))) (fun _ _ => rfl)) pa_nil)))))))))))))), ?_⟩
    have h1000 : (4 : Nat) < 1000 := by decide
    refine fun dA hA => ⟨_, rfl, p, C, dx, [], rfl, (upd_ne (fresh_of hA hp)).trans hp, T.cl, T.nA, (by show 0 < 1000; decide), ?_⟩
    obtain ⟨H1, e1⟩ : ∃ H1, H1 = upd (upd H dA (.dK [])) p (.ins C dx (putF "_advances" (.ref dA) [])) := ⟨_, rfl⟩
    rw [← e1]
    refine fun dN hN => ?_
    have p1 : H1 p = some (.ins C dx (putF "_advances" (.ref dA) [])) := by rw [e1]; exact upd_same
    refine ⟨_, rfl, p, C, dx, _, rfl, (upd_ne (fresh_of hN p1)).trans p1, T.cl, T.nN, (by show 1 < 1000; decide), ?_⟩
    obtain ⟨H2, e2⟩ : ∃ H2, H2 = upd (upd H1 dN (.dT [])) p (.ins C dx (putF "_kerns" (.ref dN) (putF "_advances" (.ref dA) []))) := ⟨_, rfl⟩
    rw [← e2]
    have p2 : H2 p = some (.ins C dx (putF "_kerns" (.ref dN) (putF "_advances" (.ref dA) []))) := by rw [e2]; exact upd_same
    refine ⟨_, rfl, p, C, dx, _, rfl, p2, T.cl, T.nB, (by show 2 < 1000; decide), ?_⟩
    obtain ⟨H3, e3⟩ : ∃ H3, H3 = upd H2 p (.ins C dx (putF "_blank" (.int 250) (putF "_kerns" (.ref dN) (putF "_advances" (.ref dA) [])))) := ⟨_, rfl⟩
    rw [← e3]
    have p3 : H3 p = some (.ins C dx (putF "_blank" (.int 250) (putF "_kerns" (.ref dN) (putF "_advances" (.ref dA) [])))) := by rw [e3]; exact upd_same
    refine ⟨by show 0 ≤ sizeLine; decide, fun dP hP => ?_⟩
    refine ⟨_, rfl, p, C, dx, _, rfl, (upd_ne (fresh_of hP p3)).trans p3, T.cl, T.nP, (by show 3 < 1000; decide), ?_⟩
    obtain ⟨o, eo⟩ : ∃ o : Own, o = ⟨dx, dA, dN, dP⟩ := ⟨_, rfl⟩
    have eff : putF "_past" (.ref dP) (putF "_blank" (.int 250) (putF "_kerns" (.ref dN) (putF "_advances" (.ref dA) []))) = fflds o 250 := by
      rw [eo]
      exact fflds_make ⟨dx, dA, dN, dP⟩ 250
    rw [eff]
    obtain ⟨H4, e4⟩ : ∃ H4, H4 = upd (upd H3 dP (.lst [])) p (.ins C dx (fflds o 250)) := ⟨_, rfl⟩
    rw [← e4]
    have pA : p ≠ dA := fresh_of hA hp
    have pN : p ≠ dN := fresh_of hN p1
    have pP : p ≠ dP := fresh_of hP p3
    have A1 : H1 dA = some (.dK []) := by rw [e1, upd_ne (Ne.symm pA), upd_same]
    have AN : dA ≠ dN := fresh_of hN A1
    have A2 : H2 dA = some (.dK []) := by rw [e2, upd_ne (Ne.symm pA), upd_ne AN, A1]
    have A3 : H3 dA = some (.dK []) := by rw [e3, upd_ne (Ne.symm pA), A2]
    have AP : dA ≠ dP := fresh_of hP A3
    have N2 : H2 dN = some (.dT []) := by rw [e2, upd_ne (Ne.symm pN), upd_same]
    have N3 : H3 dN = some (.dT []) := by rw [e3, upd_ne (Ne.symm pN), N2]
    have NP : dN ≠ dP := fresh_of hP N3
    have A4 : H4 dA = some (.dK []) := by rw [e4, upd_ne (Ne.symm pA), upd_ne AP, A3]
    have N4 : H4 dN = some (.dT []) := by rw [e4, upd_ne (Ne.symm pN), upd_ne NP, N3]
    have P4 : H4 dP = some (.lst []) := by rw [e4, upd_ne (Ne.symm pP), upd_same]
    have F4 : FontAt C H4 p o ⟨[], [], 250⟩ [] := by
      subst eo
      exact ⟨by rw [e4]; exact upd_same, A4, N4, ⟨[], P4, .nil, fun x hx => by cases hx⟩, Nat.zero_le _, Nat.zero_le _, Nat.zero_le _⟩
    have HN : H dN = none := by
      rw [e1] at hN
      exact noneU (noneU hN)
    have HP : H dP = none := by
      rw [e3, e2, e1] at hP
      exact noneU (noneU (noneU (noneU (noneU hP))))
    have st4 : ∀ c u, H c = some u → c ≠ p → H4 c = some u := fun c u e hc => by
      rw [e4, upd_ne hc, upd_ne (fresh_of HP e), e3, upd_ne hc, e2, upd_ne hc, upd_ne (fresh_of HN e), e1, upd_ne hc, upd_ne (fresh_of hA e), e]
    refine ⟨_, rfl, p, _, _, rfl, F4.ob, fflds_no _ _ (by decide +kernel) (by decide +kernel) (by decide +kernel) (by decide +kernel), _, rfl, ?_⟩
    refine ⟨p, .int b, true, false, o, ⟨[], [], 250⟩, [], rfl, F4, Kd.int, fun _ => ⟨b, rfl⟩, fun h => (by cases h), fun hn => absurd ⟨b, rfl, FC.b0, FC.b1⟩ hn, fun n en _ _ H5 l hl5 kf5 F5 _ => ?_⟩
    have en' : n = b := (V.int.inj en).symm
    subst en'
    have oA : o.dA = dA := by rw [eo]
    have oN : o.dN = dN := by rw [eo]
    have oP : o.dP = dP := by rw [eo]
    have keepH : ∀ c u, H c = some u → c ≠ p → c ≠ o.dA ∧ c ≠ o.dN ∧ c ≠ o.dP := fun c u e _ => by
      rw [oA, oN, oP]
      exact ⟨fresh_of hA e, fresh_of HN e, fresh_of HP e⟩
    have ap : a ≠ p := fun z => by rw [z, hp] at ha; cases ha
    obtain ⟨aA, aN, aP⟩ := keepH a _ ha ap
    have a5 : H5 a = some (.dK (enc cA fa)) := kf5 _ _ (st4 _ _ ha ap) ap aA aN aP
    refine ⟨_, rfl, a, _, rfl, a5, fun q hq => ?_⟩
    have kmap : (enc cA fa).map (fun kv => kV kv.1) = (fa.map (·.1)).map V.str := by
      unfold enc
      rw [List.map_map, List.map_map]
      rfl
    rw [kmap]
    refine ⟨q, fa.map (·.1), rfl, rfl, SqL.of upd_same, keyFn_str GP (fun x hx => ?_), fun L hL => ⟨L, rfl, ⟨_, SqL.of upd_same⟩, ?_⟩⟩
    · obtain ⟨e, he, rfl⟩ := List.mem_map.mp hx
      exact FC.ln e he
    obtain ⟨HL, eL⟩ : ∃ HL, HL = upd (upd H5 q (.lst ((fa.map (·.1)).map V.str))) L (.lst ((keysA fa).map V.str)) := ⟨_, rfl⟩
    show ∃ W : Nat → Nat → St → Hp → Prop, (∃ m, W 0 m _ (upd (upd H5 q (.lst ((fa.map (·.1)).map V.str))) L (.lst ((keysA fa).map V.str)))) ∧ _
    rw [← eL]
    have s5L : Same H5 HL := by
      rw [eL]
      exact (same_upd hq).trans (same_upd hL)
    have FL := F5.sm s5L
    have LL : HL L = some (.lst ((keysA fa).map V.str)) := by rw [eL]; exact upd_same
    have L5 : H5 L = none := noneU hL
    have LP : L ≠ o.dP := fun z => by
      obtain ⟨ls, hp5, _⟩ := F5.dp
      rw [z, hp5] at L5
      cases L5
    have aL : HL a = some (.dK (enc cA fa)) := s5L _ _ a5
    refine for_list (K := K) (a := L) (xs := (keysA fa).map V.str) (fun i σ H' => (∃ u w x y : Option V, σ = [some (.ref p), some (.ref a), some kv, some (.int n), u, w, x, y]) ∧ KeepF p o HL H' ∧ FontAt C H' p o (stA fa n i) [])
      ⟨⟨none, none, none, none, rfl⟩, KeepF.refl, FL⟩ (fun i σ H' _ ⟨_, kf, _⟩ => SqL.of (FL.keepL kf LL LP)) ?_ ?_
    · rintro i x σ H' hx ⟨⟨u, w', x', y', rfl⟩, kf, F'⟩
      rw [List.getElem?_map, Option.map_eq_some_iff] at hx
      obtain ⟨g, hg, rfl⟩ := hx
      obtain ⟨c1, c2, c3, c4, c5, c6, c7, c8⟩ := FC.sa i g hg
      have hgm : g ∈ fa.map (·.1) := List.mem_mergeSort.mp (List.mem_of_getElem? hg)
      obtain ⟨m, hm⟩ := lget_of_mem hgm
      have em : advOf fa g = m := by
        unfold advOf
        rw [hm]
        rfl
      have hgl : g.length ≤ 1000 := by
        obtain ⟨e, he, rfl⟩ := List.mem_map.mp hgm
        exact FC.ln e he
      rw [em] at c2 c3 c6 c7
      have hst : stA fa n (i + 1) = setA (stA fa n i) g (some m) := by
        unfold stA
        rw [foldl_take _ _ hg, em]
      refine ⟨_, rfl, p, _, _, rfl, F'.ob, fflds_no _ _ (by decide +kernel) (by decide +kernel) (by decide +kernel) (by decide +kernel), _, rfl, _, rfl, _, rfl, a, .int m, rfl, ?_, ?_⟩
      · have e : valV (enc cA fa) (Sum.inr g : Key) = some (.int m) := by
          rw [show valV (enc cA fa) (Sum.inr g : Key) = (lget fa g).map V.int from enc_get cA_inj fa g, hm]
          rfl
        rw [← e]
        exact DGet.k (k := Sum.inr g) (kf _ _ aL ap aA aN aP)
      · refine ⟨p, .str g, .int m, true, true, false, o, stA fa n i, [], rfl, F', Ks.str, IsS.str, fun g' e => (by cases e; exact hgl), Kd.int, fun _ => ⟨m, rfl⟩, fun h => (by cases h), c8, fun hn => (by rw [show nameV (.str g) = true from c1] at hn; cases hn), fun _ hn => absurd ⟨m, rfl, c2, c3⟩ hn, ?_⟩
        rintro g' m' eg _ em' _ _
        cases eg
        cases em'
        refine ⟨fun hl1 c hc => ?_, fun _ => ⟨fun hro => (by rw [c5] at hro; cases hro), fun _ => ⟨c6, c7, fun H2 l2 hl2 kf2 F2 _ => ⟨⟨_, _, _, _, rfl⟩, kf.trans kf2, ?_⟩⟩⟩⟩
        · rcases c4 with c4 | c4
          · omega
          · rw [c4] at hc; cases hc
        · rw [hst]
          exact F2
    · rintro σ H6 ⟨⟨u, w', x', y', rfl⟩, kf6, F6⟩
      have hkl : (keysA fa).length = fa.length := by
        unfold keysA
        rw [List.length_mergeSort, List.length_map]
      rw [List.length_map, hkl] at F6
      have st6 : ∀ c u, H c = some u → c ≠ p → H6 c = some u := fun c u e hc => by
        obtain ⟨cA', cN', cP'⟩ := keepH c u e hc
        exact kf6 _ _ (s5L _ _ (kf5 _ _ (st4 _ _ e hc) hc cA' cN' cP')) hc cA' cN' cP'
      refine ⟨fun σ' H' => ∃ (k : Addr) (u x' y' : Option V), σ' = [some (.ref p), some (.ref a), some kv, some (.int n), u, some (.ref k), x', y'] ∧ k ≠ p ∧ k ≠ o.dA ∧ k ≠ o.dN ∧ k ≠ o.dP ∧ H' k = some (.dT (enc cK fk)) ∧ FontAt C H' p o (stA fa n fa.length) [] ∧ (∀ c u, H c = some u → c ≠ p → H' c = some u), ?_, ?_⟩
      · refine ⟨_, rfl, _, rfl, ?_⟩
        rcases hk with ⟨k, rfl, hk⟩ | ⟨rfl, rfl⟩
        · have kp : k ≠ p := fun z => by rw [z, hp] at hk; cases hk
          obtain ⟨kA, kN, kP⟩ := keepH k _ hk kp
          refine iteF ⟨_, rfl, k, _, _, _, rfl, kp, kA, kN, kP, st6 _ _ hk kp, F6, st6⟩
        · refine iteT (fun d hd => ?_)
          have ob6 := F6.ob
          have da6 := F6.da
          have dn6 := F6.dn
          obtain ⟨ls6, dp6, _⟩ := F6.dp
          refine ⟨d, _, _, _, rfl, fun z => ?_, fun z => ?_, fun z => ?_, fun z => ?_, upd_same, F6.sm (same_upd hd), fun c u e hc => same_upd hd _ _ (st6 c u e hc)⟩
          · rw [z, ob6] at hd; cases hd
          · rw [z, da6] at hd; cases hd
          · rw [z, dn6] at hd; cases hd
          · rw [z, dp6] at hd; cases hd
      rintro σ' H6 ⟨k, u, x', y', rfl, kp, kA, kN, kP, k6, F6, st6⟩
      refine ⟨_, rfl, k, _, rfl, .inl k6, fun q2 bs hq2 hk2 => ?_⟩
      obtain ⟨xs, e1', e2', e3'⟩ := keys_pairs hk2
      rw [e1']
      refine ⟨q2, xs, rfl, rfl, SqL.of upd_same, keyFn_pair GQ (fun x hx => (same_upd hq2) _ _ (e3' x hx)), fun L2 hL2 => ⟨L2, rfl, ⟨_, SqL.of upd_same⟩, ?_⟩⟩
      have hss := sort_place xs
      rw [e2'] at hss
      generalize hys : xs.mergeSort (PySem.W.dataLe false fun x => kPlace x.2) = ys at hss hL2 ⊢
      have hyx : ∀ y ∈ ys, y ∈ xs := fun y hy => by rw [← hys] at hy; exact List.mem_mergeSort.mp hy
      obtain ⟨H7, e7⟩ : ∃ H7, H7 = upd (upd H6 q2 (.lst (xs.map fun x => V.ref x.1))) L2 (.lst (ys.map fun x => V.ref x.1)) := ⟨_, rfl⟩
      show ∃ W : Nat → Nat → St → Hp → Prop, (∃ m, W 0 m _ (upd (upd H6 q2 (.lst (xs.map fun x => V.ref x.1))) L2 (.lst (ys.map fun x => V.ref x.1)))) ∧ _
      rw [← e7]
      have s67 : Same H6 H7 := by
        rw [e7]
        exact (same_upd hq2).trans (same_upd hL2)
      have F7 := F6.sm s67
      have LL2 : H7 L2 = some (.lst (ys.map fun x => V.ref x.1)) := by rw [e7]; exact upd_same
      have L26 : H6 L2 = none := noneU hL2
      have LP2 : L2 ≠ o.dP := fun z => by
        obtain ⟨ls, hp6, _⟩ := F6.dp
        rw [z, hp6] at L26
        cases L26
      have k7 : H7 k = some (.dT (enc cK fk)) := s67 _ _ k6
      refine for_list (K := K) (a := L2) (xs := ys.map fun x => V.ref x.1) (fun i σ H' => (∃ u x y : Option V, σ = [some (.ref p), some (.ref a), some kv, some (.int n), u, some (.ref k), x, y]) ∧ KeepF p o H7 H' ∧ FontAt C H' p o (stK fk (stA fa n fa.length) i) [])
        ⟨⟨_, _, _, rfl⟩, KeepF.refl, F7⟩ (fun i σ H' _ ⟨_, kf, _⟩ => SqL.of (F7.keepL kf LL2 LP2)) ?_ ?_
      · rintro i x σ H' hx ⟨⟨u, x', y', rfl⟩, kf, F'⟩
        rw [List.getElem?_map, Option.map_eq_some_iff] at hx
        obtain ⟨y, hy, rfl⟩ := hx
        have hym : y ∈ ys := List.mem_of_getElem? hy
        have hky : (keysK fk)[i]? = some y.2 := by
          unfold keysK
          rw [← hss, List.getElem?_map, hy]
          rfl
        obtain ⟨c2, c3, vx, vy, hx1, hy1, n1, n2, hlen⟩ := FC.sk i y.2 hky
        have hgm : y.2 ∈ fk.map (·.1) := by rw [← e2']; exact List.mem_map.mpr ⟨y, hyx y hym, rfl⟩
        obtain ⟨m, hm⟩ := lget_of_mem hgm
        have em : kernOf fk y.2 = m := by
          unfold kernOf
          rw [hm]
          rfl
        rw [em] at c2 c3 n1 n2 hlen
        have hst : stK fk (stA fa n fa.length) (i + 1) = setK (stK fk (stA fa n fa.length) i) y.2 (kx m) := by
          unfold stK
          rw [foldl_take _ _ hky, em]
        have hy7 : H7 y.1 = some (.tup [.str y.2.1, .str y.2.2]) := s67 _ _ (e3' y (hyx y hym))
        have hyt : H' y.1 = some (.tup [.str y.2.1, .str y.2.2]) := F7.keepT kf hy7
        refine ⟨y.1, _, rfl, SqT.of hyt, rfl, _, _, rfl, _, _, rfl, rfl, ?_⟩
        refine ⟨_, rfl, p, _, _, rfl, F'.ob, fflds_no _ _ (by decide +kernel) (by decide +kernel) (by decide +kernel) (by decide +kernel), _, rfl, _, rfl, _, rfl, _, rfl, _, rfl, by show 2 ≤ sizeLine; decide, fun z hz => ?_⟩
        have kz : KeepF p o H' (upd H' z (.tup [.str y.2.1, .str y.2.2])) := KeepF.same (same_upd hz)
        have Fz := F'.sm (same_upd (o := .tup [.str y.2.1, .str y.2.2]) hz)
        have kk7 : upd H' z (.tup [.str y.2.1, .str y.2.2]) k = some (.dT (enc cK fk)) := kz _ _ (kf _ _ k7 kp kA kN kP) kp kA kN kP
        refine ⟨k, .int m, rfl, ?_, ?_⟩
        · have e : valV (enc cK fk) (cK y.2) = some (.int m) := by
            rw [enc_get cK_inj fk y.2, hm]
            rfl
          rw [← e]
          exact DGet.t (k := cK y.2) kk7 upd_same
        · refine ⟨p, .str y.2.1, .str y.2.2, .int m, true, true, true, false, o, stK fk (stA fa n fa.length) i, [], rfl, Fz, Ks.str, IsS.str, Ks.str, IsS.str, Kd.int, fun _ => ⟨m, rfl⟩, fun h => (by cases h), fun hn => ?_, fun _ hn => ?_, fun _ _ hn => absurd ⟨m, rfl, c2, c3⟩ hn, ?_⟩
          · rw [show knownV (stK fk (stA fa n fa.length) i) (.str y.2.1) = true from by show (lget _ y.2.1).isSome = true; rw [hx1]; rfl] at hn
            cases hn
          · rw [show knownV (stK fk (stA fa n fa.length) i) (.str y.2.2) = true from by show (lget _ y.2.2).isSome = true; rw [hy1]; rfl] at hn
            cases hn
          · rintro l' r' m' vx' vy' el er em' _ _ hx' hy'
            cases el
            cases er
            cases em'
            rw [hx1] at hx'
            rw [hy1] at hy'
            cases hx'
            cases hy'
            refine ⟨fun hb => (by omega), fun _ _ => ⟨hlen, fun H8 q8 hq8 kf8 F8 _ => ⟨⟨_, _, _, rfl⟩, (kf.trans kz).trans kf8, ?_⟩⟩⟩
            rw [hst]
            exact F8
      · rintro σ H8 ⟨_, kf8, F8⟩
        have hkl2 : ys.length = fk.length := by
          have := congrArg List.length e2'
          rw [List.length_map, List.length_map] at this
          rw [← hys, List.length_mergeSort, this]
        rw [List.length_map, hkl2] at F8
        refine kQ H8 o (by rw [eo]) (fun c u e hc => ?_) (by rw [oA]; exact hA) (by rw [oN]; exact HN) (by rw [oP]; exact HP) F8
        obtain ⟨cA', cN', cP'⟩ := keepH c u e hc
        exact kf8 _ _ (s67 _ _ (st6 _ _ e hc)) hc cA' cN' cP'
end
/-! ### columns -/
section
open PySem.W PyProof.Rows PySem.Calls Builtin
set_option maxRecDepth 100000
theorem KXf.ret_text'' {M : Model} {A : Around} {E : Value → Shared → Prop} {s : Shared} {X T : Str} (Y : Str) {Q : PySem.Fin → Shared → Prop} (e : X = Y) (e2 : Y = T) (hL : T.length ≤ sizeLine) (h : ∀ t k, Q (.done (.ret (.str T t))) { s with toks := k }) : wpAny M A (retStr X) Q E s := by
  subst e
  subst e2
  exact PySem.W.KXf.ret_text rfl hL h
abbrev fS6 : PySem.Builtin.Float.FormatSpec := { fill := 32, align := 60, width := some 6 }
theorem field6 (l : List Nat) (hl : l.length ≤ 6) : Builtin.Str.strField (SX.S l) fS6 "str" = .ok (if l.length = 6 then none else some (SX.S (l ++ List.replicate (6 - l.length) 32))) := by
  unfold Builtin.Str.strField
  simp only [bind, Except.bind, pure, Except.pure]
  show (if (decide (6 ≤ (SX.S l).length) && true) = true then Except.ok none else Except.ok (some (Builtin.Str.padded (Builtin.Str.strSub (SX.S l) 0 (SX.S l).length) 0 (6 - (Builtin.Str.strSub (SX.S l) 0 (SX.S l).length).length - 0) 32))) = _
  have e : Builtin.Str.strSub (SX.S l) 0 (SX.S l).length = SX.S l := by
    unfold Builtin.Str.strSub
    refine congrArg Str.mk ?_
    show (SX.S l).cps.extract 0 (SX.S l).cps.size = _
    exact Array.extract_size
  rw [e, SX.S_len]
  by_cases h6 : l.length = 6
  · rw [if_pos h6, if_pos (by rw [h6]; rfl)]
  · rw [if_neg h6, if_neg (by rw [decide_eq_false (by omega)]; exact Bool.false_ne_true)]
    refine congrArg (fun x => Except.ok (some x)) ?_
    refine TL.ext_tl ?_
    show (Array.replicate 0 32 ++ (SX.S l).cps ++ Array.replicate (6 - l.length - 0) 32).toList = l ++ List.replicate (6 - l.length) 32
    simp [SX.S]
theorem meetsL6 (l : List Nat) (hl : l.length ≤ 6) (t : Tok) (u : Tok) : Meets («str.__format__» ⟨[.str (SX.S l) t, .str "<6" u], []⟩) (fun _ R s => ∀ t' k, R (.ok (.ret (.str (SX.S (l ++ List.replicate (6 - l.length) 32)) t'))) { s with toks := k }) := by
  refine KPc.meets_of fun _ _ _ _ _ _ hq => ?_
  unfold Builtin.«str.__format__»
  repeat (first | kxf_if | refine wpAny_bind (wpAny_of_eq (a := some _) rfl ?_) | refine wpAny_bind (wpAny_of_eq (a := (_, _, _)) rfl ?_))
  refine wpAny_bind (KXf.cut_str ?_)
  have hp : PySem.Builtin.Float.parseFormatSpec (Str.ofString "<6").cps.toList "str" 60 = .ok fS6 := by rfl
  rw [hp]
  have hb : (fS6.type.isNone && (Str.ofString "<6").cps.back? == some 0) = false := by decide +kernel
  have ht : Builtin.Str.tooLong (fS6.width.getD 0) = false := by decide +kernel
  simp only [bind, Except.bind, hb, ht, Bool.false_eq_true, if_false, field6 l hl, pure, Except.pure]
  by_cases h6 : l.length = 6
  · rw [if_pos h6]
    dsimp only
    refine wpAny_bind (wpAny_rule ?_)
    refine PySem.W.KXf.ret_same ?_ hq
    rw [h6]
    exact congrArg SX.S (List.append_nil l).symm
  · rw [if_neg h6]
    dsimp only
    refine PySem.W.KXf.ret_text rfl ?_ hq
    have hs : sizeLine = 16777216 := sizeLine_eq
    rw [SX.S_len, List.length_append, List.length_replicate]
    omega
/-- digits in groups of three -/
def commasL (ds : List Nat) : List Nat :=
  if 6 < ds.length then ds.take (ds.length - 6) ++ 44 :: ((ds.drop (ds.length - 6)).take 3 ++ 44 :: ds.drop (ds.length - 3))
  else if 3 < ds.length then ds.take (ds.length - 3) ++ 44 :: ds.drop (ds.length - 3) else ds
abbrev fI9 : PySem.Builtin.Float.FormatSpec := { fill := 32, align := 62, width := some 9, grouping := some ',' }
theorem groups (ds : List Nat) (h0 : ds ≠ []) (h7 : ds.length ≤ 7) : groupsFromRight' 3 (',' : Char).toNat (ds.length + (0 : Int).toNat + 1) ds.reverse 0 [] = commasL ds := by
  match ds, h0, h7 with
  | [], h, _ => exact absurd rfl h
  | [a], _, _ => rfl
  | [a, b], _, _ => rfl
  | [a, b, c], _, _ => rfl
  | [a, b, c, d], _, _ => rfl
  | [a, b, c, d, e], _, _ => rfl
  | [a, b, c, d, e, f], _, _ => rfl
  | [a, b, c, d, e, f, g], _, _ => rfl
  | a :: b :: c :: d :: e :: f :: g :: i :: r, _, h => simp only [List.length_cons] at h; omega
theorem numL_len7 {n : Nat} (h : n ≤ 1000000) : (TL.numL n).length ≤ 7 := TL.numL_len (by decide) (by omega)
theorem commas_len {ds : List Nat} (h7 : ds.length ≤ 7) : (commasL ds).length ≤ 9 := by
  unfold commasL
  split
  · simp only [List.length_append, List.length_cons, List.length_take, List.length_drop]
    omega
  · split
    · simp only [List.length_append, List.length_cons, List.length_take, List.length_drop]
      omega
    · omega
theorem text9 (a : Int) (h0 : 0 ≤ a) (h1 : a ≤ 1000000) : intSpecText fI9 a = SX.S (List.replicate (9 - (commasL (TL.numL a.natAbs)).length) 32 ++ commasL (TL.numL a.natAbs)) := by
  have hl := numL_len7 (n := a.natAbs) (by omega)
  have hne := TL.numL_ne a.natAbs
  have hc := commas_len hl
  have hg := groups _ hne hl
  have hn : decide (a < 0) = false := decide_eq_false (by omega)
  unfold intSpecText intField'
  rw [hn]
  have ed : ((Nat.toDigits 10 a.natAbs).map fun c => (if (100 : Nat) == 88 then c.toUpper else c).toNat) = TL.numL a.natAbs := rfl
  rw [ed]
  generalize TL.numL a.natAbs = ds at *
  have he : ds.isEmpty = false := by cases ds with | nil => exact absurd rfl hne | cons a b => rfl
  simp only [he, Bool.false_eq_true, if_false]
  show SX.S (List.replicate ((9 : Int) - ((groupsFromRight' 3 (',' : Char).toNat (ds.length + (0 : Int).toNat + 1) ds.reverse 0 []).length : Int)).toNat 32 ++ [] ++ [] ++ List.replicate 0 32 ++ groupsFromRight' 3 (',' : Char).toNat (ds.length + (0 : Int).toNat + 1) ds.reverse 0 [] ++ [] ++ List.replicate 0 32) = _
  rw [hg]
  refine congrArg SX.S ?_
  simp only [List.append_nil, List.replicate_zero]
  congr 2
  omega
theorem meetsI9 (a : Int) (t : Tok) (u : Tok) (h0 : 0 ≤ a) (h1 : a ≤ 1000000) : Meets («int.__format__» ⟨[.int a t, .str ">9," u], []⟩) (fun _ R s => ∀ t' k, R (.ok (.ret (.str (SX.S (List.replicate (9 - (commasL (TL.numL a.natAbs)).length) 32 ++ commasL (TL.numL a.natAbs))) t'))) { s with toks := k }) := by
  refine KPc.meets_of fun _ _ _ _ _ _ hq => ?_
  unfold Builtin.«int.__format__»
  refine wpAny_bind (wpAny_of_eq (a := (_, _)) rfl (wpAny_bind (wpAny_of_eq rfl ?_)))
  repeat (first | kxf_if | refine wpAny_bind (wpAny_typeNameOf (T := "str") (typeIs_str _ _ _) (by decide) fun _ => ?_) | refine wpAny_bind (wpAny_of_eq (a := some _) rfl ?_))
  refine wpAny_bind (wpAny_typeNameOfCut_int ?_)
  have hp : PySem.Builtin.Float.parseFormatSpec (Str.ofString ">9,").cps.toList "int" 62 = .ok fI9 := by rfl
  rw [hp]
  have hs : a.natAbs.log2 < 1920 := by
    by_cases hz : a.natAbs = 0
    · rw [hz]; decide
    · rw [Nat.log2_lt hz]
      exact Nat.lt_of_le_of_lt (show a.natAbs ≤ 1000000 by omega) (by decide)
  dsimp only
  (repeat kxf_if)
  refine wpAny_bind (wpAny_of_eq (PySem.overDigitLimit_small hs) ?_)
  (repeat kxf_if)
  refine KXf.ret_text'' (intSpecText fI9 a) ?_ (text9 a h0 h1) ?_ hq
  · have hn : decide (a < 0) = false := decide_eq_false (by omega)
    unfold intSpecText intField'
    conv => lhs; whnf
    have hbk : ¬ ((Str.ofString ">9,").cps.back? = some 0) := by decide +kernel
    have hlen : (Nat.toDigits 10 a.natAbs).length ≤ 7 := by
      have := numL_len7 (n := a.natAbs) (by omega)
      unfold TL.numL at this
      rw [List.length_map] at this
      exact this
    simp [hn, hbk]
    generalize Nat.toDigits 10 a.natAbs = cs at hlen ⊢
    match cs, hlen with
    | [], _ => rfl
    | [a], _ => rfl
    | [a, b], _ => rfl
    | [a, b, c], _ => rfl
    | [a, b, c, d], _ => rfl
    | [a, b, c, d, e], _ => rfl
    | [a, b, c, d, e, f], _ => rfl
    | [a, b, c, d, e, f, g], _ => rfl
    | a :: b :: c :: d :: e :: f :: g :: i :: r, h => simp only [List.length_cons] at h; omega
  · have := commas_len (numL_len7 (n := a.natAbs) (by omega))
    rw [SX.S_len, List.length_append, List.length_replicate]
    have hs : sizeLine = 16777216 := sizeLine_eq
    omega
end
section
variable {X : Cx}
/-- {x:<6} -/
theorem pe_fmtL6 {e : Expr} {te : TE} {j : Nat} {p1 p2 pos : Pos} (he : PE X e te) : PE X (.FormattedValue e (-1) (some (.JoinedStr [.Constant (.str "<6") j p1] p2)) pos) (fun σ H Q => te σ H fun x H1 => ∃ l : List Nat, x = .str (SX.S l) ∧ l.length ≤ 6 ∧ Q (.str (SX.S (l ++ List.replicate (6 - l.length) 32))) H1) := by
  refine ⟨fun pins s σ H Q I h => ?_⟩
  refine wpAny_FormattedValue_spec (thn (he.run pins s σ H _ I h) fun v s1 ⟨x, H1, I1, r1, l, ex, h0, q⟩ => ?_)
  subst ex
  obtain ⟨t, rfl⟩ := r1
  refine thn ((pe_joined1 (pe_str (X := X) (x := "<6") (j := j) (pos := p1)) (pos := p2)).run pins s1 σ H1 (fun y H2 => y = .str "<6" ∧ H2 = H1) I1 ⟨rfl, rfl⟩) fun u s2 ⟨y, H2, I2, r2, ey, eH⟩ => ?_
  subst ey
  subst eH
  obtain ⟨t2, rfl⟩ := r2
  refine ⟨_, t2, rfl, ?_⟩
  exact PySem.W.KXf.field_str rfl rfl (by decide +kernel) (by decide +kernel) (fun u => meetsL6 l h0 t u) fun t' k => ⟨.str _, H2, I2.tok _, ⟨_, rfl⟩, q⟩
/-- {n:>9,} -/
theorem pe_fmtI9 {e : Expr} {te : TE} {j : Nat} {p1 p2 pos : Pos} (he : PE X e te) : PE X (.FormattedValue e (-1) (some (.JoinedStr [.Constant (.str ">9,") j p1] p2)) pos) (fun σ H Q => te σ H fun x H1 => ∃ n : Int, x = .int n ∧ 0 ≤ n ∧ n ≤ 1000000 ∧ Q (.str (SX.S (List.replicate (9 - (commasL (TL.numL n.natAbs)).length) 32 ++ commasL (TL.numL n.natAbs)))) H1) := by
  refine ⟨fun pins s σ H Q I h => ?_⟩
  refine wpAny_FormattedValue_spec (thn (he.run pins s σ H _ I h) fun v s1 ⟨x, H1, I1, r1, n, ex, h0, h1, q⟩ => ?_)
  subst ex
  obtain ⟨t, rfl⟩ := r1
  refine thn ((pe_joined1 (pe_str (X := X) (x := ">9,") (j := j) (pos := p1)) (pos := p2)).run pins s1 σ H1 (fun y H2 => y = .str ">9," ∧ H2 = H1) I1 ⟨rfl, rfl⟩) fun u s2 ⟨y, H2, I2, r2, ey, eH⟩ => ?_
  subst ey
  subst eH
  obtain ⟨t2, rfl⟩ := r2
  refine ⟨_, t2, rfl, ?_⟩
  exact PySem.W.KXf.field_int rfl (by decide +kernel) (by decide +kernel) (fun u => meetsI9 n t u h0 h1) fun t' k => ⟨.str _, H2, I2.tok _, ⟨_, rfl⟩, q⟩
end
/-- a line of the table -/
def lineL (g : List Nat) (n : Int) : List Nat := ((g ++ List.replicate (6 - g.length) 32) ++ [32]) ++ (List.replicate (9 - (commasL (TL.numL n.natAbs)).length) 32 ++ commasL (TL.numL n.natAbs))
def lineS (g : Str) (n : Int) : Str := SX.S (lineL g.cps.toList n)
def spTable (C : Addr) : Sp := fun vs H Q _ => ∃ (p : Addr) (o : Own) (st : FSt) (past : List (List Rec)), vs = [.ref p] ∧ FontAt C H p o st past ∧ (∀ e ∈ st.adv, e.1.length ≤ 6) ∧ (∀ g n, lget st.adv g = some n → 0 ≤ n ∧ n ≤ 1000000) ∧
  ∀ H' l, Same H H' → H l = none → H' l = some (.lst ((glyphsOf st).map fun g => V.str (lineS g ((lget st.adv g).getD 0)))) → Q (.ref l) H'
section
variable {P : Program} {w : World} {K : PySem.W.Frag} {mg : Str → Option Value} {base : Heap} {C CI fE fW fBt fWr fHas fLen CU fEU fPl : Addr}
abbrev sTable : Stmt := top 20
theorem scTable : FnScope ["font", "glyph"] ["font"] (defScope sTable) := ⟨rfl, rfl, rfl, by decide +kernel, rfl, by decide +kernel, by decide +kernel⟩
def tElem (K : PySem.W.Frag) (C CU : Addr) : TE := fun σ H Q => tJs [(fun σ H Q => tVar 1 σ H fun x H1 => ∃ l : List Nat, x = .str (SX.S l) ∧ l.length ≤ 6 ∧ Q (.str (SX.S (l ++ List.replicate (6 - l.length) 32))) H1), tC (.str " "),
    (fun σ H Q => tMeth C "advance_of" (spAdvOf K C CU) [] E0 (tVar 0) (tCons (tVar 1) tNil) σ H fun x H1 => ∃ n : Int, x = .int n ∧ 0 ≤ n ∧ n ≤ 1000000 ∧ Q (.str (SX.S (List.replicate (9 - (commasL (TL.numL n.natAbs)).length) 32 ++ commasL (TL.numL n.natAbs)))) H1)] Str.empty σ H fun out H1 => Q (.str out) H1
theorem ok_table {f fG fA : Addr} {fd fdG fdA : FuncData} (F : Fun K "width_table" "width_table" sTable f fd) (T : TxF K mg C CI fE fW fBt fWr) (GG : FnOk P w K mg base CX0 2 fG fdG ["self"] (spGlyphs C)) (bG : Binds K fdG ["self"] []) (mG : Meth K C "glyphs" fG)
    (GA : FnOk P w K mg base (L2.CX P w) 4 fA fdA ["self", "glyph"] (spAdvOf K C CU)) (bA : Binds K fdA ["self", "glyph"] []) (mA : Meth K C "advance_of" fA) : FnOk P w K mg base CX0 5 f fd ["font"] (spTable C) := by
  refine F.ok scTable (fun vs H Q E h => ?_) (fun cdv A outer s H vs Q E hr h => ?_)
  · obtain ⟨p, o, st, past, rfl, _⟩ := h
    rfl
  · obtain ⟨p, o, st, past, rfl, FA, hl, hn, k⟩ := h
    have nd := scTable.nd
    refine ⟨_, pss_one (ps_ret (pe_lc (own := [("glyph", 1)]) (g := gName 1) (tt := tYes) (te := tElem K C CU) rfl nd (pi_list (pe_meth0 (pv 0) T.cl mG GG (hr.mono (by decide)) bG .nil pass0))
      (blkOk_by (N := ["font", "glyph"]) (sc := defScope sTable) (by decide +kernel))
      (fun _ _ _ _ _ => pg_name (i := 1) nd rfl (Or.inl rfl))
      (fun _ _ _ _ _ => pts_nil)
      (fun _ _ _ _ _ => by exact pe_joined (.cons (pe_fmtL6 (pv 1)) (.cons pe_str (.cons (pe_fmtI9 (pe_meth (pv 0) T.cl mA GA hr bA .nil passL (pa_cons (pv 1) pa_nil))) .nil)))))), ?_⟩
    refine ⟨_, rfl, p, _, _, rfl, FA.ob, fflds_no _ _ (by decide +kernel) (by decide +kernel) (by decide +kernel) (by decide +kernel), p, o, st, past, rfl, FA, fun e he => Nat.le_trans (hl e he) (by decide), fun H1 q s01 hq hq1 => ⟨q, rfl, ⟨_, SqL.of hq1⟩, fun D hD => ?_⟩⟩
    have hDH : H D = none := by
      cases e : H D with
      | none => rfl
      | some u => rw [s01 _ _ e] at hD; cases hD
    have hlen : (glyphsOf st).length ≤ 1000 := by
      unfold glyphsOf
      rw [List.length_mergeSort, List.length_map]
      exact FA.small.1
    have h4 : (sizeLine : Nat) = 16777216 := sizeLine_eq
    have F1 := FA.sm s01
    refine lc_list (K := K) (a := q) (xs := (glyphsOf st).map V.str) (fun i H' => (∀ b u, b ≠ D → H1 b = some u → H' b = some u) ∧ H' D = some (.lst (((glyphsOf st).take i).map fun g => V.str (lineS g ((lget st.adv g).getD 0)))))
      ⟨fun b u hb e => (upd_ne hb).trans e, upd_same⟩ (fun i H' _ ⟨s1, _⟩ => SqL.of (s1 _ _ (fun z => by rw [z, hD] at hq1; cases hq1) hq1)) ?_ ?_
    · rintro i x H' hx ⟨s1, hD'⟩
      rw [List.getElem?_map, Option.map_eq_some_iff] at hx
      obtain ⟨g, hg, rfl⟩ := hx
      have hgm : g ∈ st.adv.map (·.1) := List.mem_mergeSort.mp (List.mem_of_getElem? hg)
      have hgl : g.length ≤ 6 := by
        obtain ⟨e, he, rfl⟩ := List.mem_map.mp hgm
        exact hl e he
      obtain ⟨n, hgn⟩ := lget_of_mem hgm
      obtain ⟨n0, n1⟩ := hn g n hgn
      have hgS : (V.str g) = V.str (SX.S g.cps.toList) := congrArg V.str (SX.S_tl g).symm
      have hgll : g.cps.toList.length ≤ 6 := by rw [Array.length_toList]; exact hgl
      have F' : FontAt C H' p o st past := by
        obtain ⟨ls, dp, dpp, dpn⟩ := F1.dp
        have nD : ∀ {b : Addr} {u : HO}, H1 b = some u → b ≠ D := fun e z => by rw [z, hD] at e; cases e
        have s1' : ∀ b u, H1 b = some u → H' b = some u := fun b u e => s1 b u (nD e) e
        exact F1.sm s1'
      have cl := commas_len (numL_len7 (n := n.natAbs) (by omega))
      refine ⟨rfl, ?_⟩
      refine ⟨_, rfl, g.cps.toList, hgS, hgll, _, rfl, ?_, _, rfl, ?_, ?_⟩
      · rw [show Str.empty = SX.S [] from rfl, SX.S_cat, SX.S_len, List.nil_append, List.length_append, List.length_replicate]
        omega
      · rw [show Str.empty = SX.S [] from rfl, SX.S_cat, show ((" " : Str)) = SX.S [32] from rfl, SX.S_cat, SX.S_len, List.nil_append, List.length_append, List.length_append, List.length_replicate]
        simp only [List.length_cons, List.length_nil]
        omega
      · refine ⟨_, rfl, p, _, _, rfl, F'.ob, fflds_no _ _ (by decide +kernel) (by decide +kernel) (by decide +kernel) (by decide +kernel), _, rfl, p, .str g, true, o, st, past, rfl, F', Ks.str, IsS.str, fun hk => ?_, fun g' n' eg hn' => ?_⟩
        · rw [show knownV st (.str g) = true from by show (lget st.adv g).isSome = true; rw [hgn]; rfl] at hk
          cases hk
        · cases eg
          rw [hgn] at hn'
          cases hn'
          refine ⟨n, rfl, n0, n1, _, rfl, ?_, ?_⟩
          · rw [show Str.empty = SX.S [] from rfl, SX.S_cat, show ((" " : Str)) = SX.S [32] from rfl, SX.S_cat, SX.S_cat, SX.S_len, List.nil_append]
            simp only [List.length_append, List.length_cons, List.length_nil, List.length_replicate]
            omega
          · have eline : ((Str.empty ++ SX.S (g.cps.toList ++ List.replicate (6 - g.cps.toList.length) 32)) ++ (" " : Str)) ++ SX.S (List.replicate (9 - (commasL (TL.numL n.natAbs)).length) 32 ++ commasL (TL.numL n.natAbs)) = lineS g n := by
              rw [show Str.empty = SX.S [] from rfl, SX.S_cat, show ((" " : Str)) = SX.S [32] from rfl, SX.S_cat, SX.S_cat, List.nil_append]
              rfl
            rw [eline]
            refine ⟨_, hD', ?_, fun b u hb' e => (upd_ne hb').trans (s1 b u hb' e), ?_⟩
            · rw [List.length_map]
              have h2 : ((glyphsOf st).take i).length ≤ (glyphsOf st).length := by rw [List.length_take]; exact Nat.min_le_right _ _
              omega
            · rw [upd_same, List.take_add_one, hg, List.map_append]
              show _ = some (HO.lst (_ ++ [V.str (lineS g ((lget st.adv g).getD 0))]))
              rw [hgn]
              rfl
    · rintro H' ⟨s1, hD'⟩
      refine k H' D (fun b u e => s1 b u (fun z => by rw [z, hDH] at e; cases e) (s01 b u e)) hDH ?_
      rw [List.take_of_length_le (by rw [List.length_map]; exact Nat.le_refl _)] at hD'
      exact hD'
end
/-! ### texts: sum, repetition -/
section
variable {X : Cx}
theorem op_addS : OpR X (binaryOp .Add) (fun x y H Q => ∃ l m : List Nat, x = .str (SX.S l) ∧ y = .str (SX.S m) ∧ l.length + m.length ≤ 100000 ∧ Q (.str (SX.S (l ++ m))) H) := by
  intro pins s σ H x y v u Q I rx ry h
  obtain ⟨l, m, rfl, rfl, hz, q⟩ := h
  refine op_add_str pins s σ H _ _ v u Q I rx ry ⟨_, _, rfl, rfl, ?_, ?_⟩
  · have hs : sizeLine = 16777216 := sizeLine_eq
    rw [SX.S_len, SX.S_len]
    omega
  · rw [SX.S_cat]
    exact q
theorem foldl_S (l : List Nat) : ∀ (m : Nat) (acc : List Nat), (List.replicate m l.toArray).foldl (· ++ ·) acc.toArray = (acc ++ (List.replicate m l).flatten).toArray
  | 0, acc => by simp
  | m + 1, acc => by
    rw [List.replicate_succ, List.foldl_cons, List.append_toArray, foldl_S l m, List.replicate_succ, List.flatten_cons, List.append_assoc]
theorem op_mulS : OpR X (binaryOp .Mult) (fun x y H Q => ∃ (l : List Nat) (k : Int), x = .str (SX.S l) ∧ y = .int k ∧ 0 ≤ k ∧ k ≤ 1000 ∧ l.length ≤ 1000 ∧ Q (.str (SX.S (List.replicate k.toNat l).flatten)) H) := by
  intro pins s σ H x y v u Q I rx ry h
  obtain ⟨l, k, rfl, rfl, h0, h1, hl, q⟩ := h
  obtain ⟨t, rfl⟩ := rx
  obtain ⟨t', rfl⟩ := ry
  have hlen : (SX.S l).length = l.length := SX.S_len l
  have hm : (SX.S l).length * k.toNat ≤ 1000000 := by
    rw [hlen]
    exact Nat.mul_le_mul hl (show k.toNat ≤ 1000 by omega)
  refine PySem.P.mul_str (by rw [decide_eq_false (by omega), decide_eq_false (by omega)]; rfl) (fun hk _ => ?_) (fun _ _ => ?_) ?_
  · rw [hlen]
    have : (1000 : Int) ≤ (2 ^ 63 - 1) / k := by
      refine (Int.le_ediv_iff_mul_le (by omega)).mpr ?_
      omega
    omega
  · have hs : sizeLine = 16777216 := sizeLine_eq
    exact decide_eq_false (by omega)
  · by_cases hk : k < 1
    · rw [if_pos hk]
      have : k = 0 := by omega
      subst this
      exact ⟨by decide, .str Str.empty, H, I.tok _, ⟨_, rfl⟩, q⟩
    · rw [if_neg hk]
      by_cases hc : (k == 1 || (SX.S l).length == 0) = true
      · rw [if_pos hc]
        refine ⟨.str (SX.S l), H, I, ⟨_, rfl⟩, ?_⟩
        have e : (List.replicate k.toNat l).flatten = l := by
          rcases Bool.or_eq_true _ _ ▸ hc with h | h
          · have : k = 1 := beq_iff_eq.mp h
            subst this
            exact List.append_nil l
          · have h2 := beq_iff_eq.mp h
            rw [hlen] at h2
            have : l = [] := List.eq_nil_of_length_eq_zero h2
            subst this
            exact List.flatten_replicate_nil
        rw [e] at q
        exact q
      · rw [if_neg hc]
        have e : (⟨(List.replicate k.toNat (SX.S l).cps).foldl (· ++ ·) #[]⟩ : Str) = SX.S (List.replicate k.toNat l).flatten := by
          have := foldl_S l k.toNat []
          rw [List.nil_append] at this
          exact congrArg Str.mk this
        rw [e]
        refine ⟨?_, .str _, H, I.tok _, ⟨_, rfl⟩, q⟩
        have hs : sizeLine = 16777216 := sizeLine_eq
        show (SX.S _).length ≤ _
        rw [SX.S_len, PyProof.Rows.lm_len_rep_flat]
        rw [hlen] at hm
        have : k.toNat * l.length = l.length * k.toNat := Nat.mul_comm _ _
        omega
end
/-! ### letters and rows -/
section
variable {X : Cx}
theorem call_strN : CallR X (.type "str") (fun xs H Q => ∃ n : Nat, xs = [.int n] ∧ n < 2 ^ 1900 ∧ Q (.str (SX.S (TL.numL n))) H) := by
  intro pins s σ H xs us Q I r h
  obtain ⟨n, rfl, hz, q⟩ := h
  refine call_str_int pins s σ H _ us Q I r ⟨n, rfl, ?_, ?_⟩
  · have e : (n : Int).natAbs = n := rfl
    rw [e]
    by_cases h0 : n = 0
    · rw [h0]; decide
    · have := (Nat.log2_lt h0 (k := 1900)).mpr hz
      omega
  · rw [show ((toString (n : Int) : String) : Str) = SX.S (TL.numL n) from SX.num_S n]
    exact q
end
def rItem : V → V → Hp → VK → Prop := fun x y H Q => ∃ z i c, x = .str z ∧ y = .int i ∧ 0 ≤ i ∧ i < 2 ^ 63 ∧ i < z.length ∧ z.cps[i.toNat]? = some c ∧ Q (.str ⟨#[c]⟩) H
def lettersC (a b m : Nat) : List Nat := (List.range m).map fun k => 97 + (a + k * (2 * b + 1)) % 26
def chV (c : Nat) : V := .str (SX.S [c])
theorem lettersC_len (a b m : Nat) : (lettersC a b m).length = m := by unfold lettersC; rw [List.length_map, List.length_range]
theorem lettersC_in {a b m c : Nat} (h : c ∈ lettersC a b m) : 97 ≤ c ∧ c ≤ 122 := by
  obtain ⟨k, _, rfl⟩ := List.mem_map.mp h
  omega
theorem lettersC_succ (a b m : Nat) : lettersC a b (m + 1) = lettersC a b m ++ [97 + (a + m * (2 * b + 1)) % 26] := by
  unfold lettersC
  rw [List.range_succ, List.map_append]
  rfl
theorem alpha_at : ∀ m : Nat, m < 26 → ("abcdefghijklmnopqrstuvwxyz" : Str).cps[m]? = some (97 + m) := by decide +kernel
def spLet : Sp := fun vs H Q _ => ∃ (b g : Addr) (m : Nat), vs = [.ref b, .int m] ∧ m ≤ 100 ∧ BagAt H b g ∧ ∀ (x y : Nat) (l : Addr) H', x < 26 → y < 6 → BagAt H' b g → Keep b H H' → H l = none → H' l = some (.lst ((lettersC x y m).map chV)) → Q (.ref l) H'
def spRow : Sp := fun vs H Q _ => ∃ (b g l : Addr) (n : Nat) (cs : List Nat), vs = [.ref b, .ref l, .int n] ∧ 2 ≤ n ∧ n ≤ 100 ∧ BagAt H b g ∧ l ≠ b ∧ H l = some (.lst (cs.map chV)) ∧ cs ≠ [] ∧ cs.length ≤ 100 ∧
  ∀ (r : List Nat) H', 2 ≤ r.length → r.length ≤ n → (∀ c ∈ r, c ∈ cs) → BagAt H' b g → Keep b H H' → Q (.str (SX.S r)) H'
def tLetE : TE := tOp rItem (tC (.str "abcdefghijklmnopqrstuvwxyz")) (tOp (rI (fun _ j => 0 < j) fun i j => .int (i % j)) (tOp (rI0 fun i j => .int (i + j)) (tVar 2) (tOp (rI CMul fun i j => .int (i * j)) (tVar 4) (tVar 3))) (tC (.int 26)))
section
variable {P : Program} {w : World} {K : PySem.W.Frag} {mg : Str → Option Value} {base : Heap}
abbrev sLet : Stmt := top 24
theorem scLet : FnScope ["_law_bag_here", "_law_many", "_law_start", "_law_step", "_law_k"] ["_law_bag_here", "_law_many"] (defScope sLet) := ⟨rfl, rfl, rfl, by decide +kernel, rfl, by decide +kernel, by decide +kernel⟩
theorem ok_let {f fT : Addr} {fd fdT : FuncData} (F : Fun K "_law_letters" "_law_letters" sLet f fd) (aT : At K mg "_law_take" fT) (mR : mg "range" = none)
    (GT : FnOk P w K mg base CX0 1 fT fdT ["_law_bag_here", "_law_size"] spTake) (bT : Binds K fdT ["_law_bag_here", "_law_size"] []) : FnOk P w K mg base CX0 2 f fd ["_law_bag_here", "_law_many"] spLet := by
  refine F.ok scLet (fun vs H Q E h => ?_) (fun cdv A outer s H vs Q E hr h => ?_)
  · obtain ⟨b, g, m, rfl, _⟩ := h
    rfl
  · obtain ⟨b, g, m, rfl, hm, B, k⟩ := h
    have nd := scLet.nd
    refine ⟨_, pss_cons (ps_set (i := 2) nd rfl (Or.inr rfl) (pe_call GT hr (by rfl) aT.g aT.k bT .nil pass0 (pa_cons (pv 0) (pa_cons pe_int pa_nil))))
      (pss_cons (ps_set (i := 3) nd rfl (Or.inr rfl) (pe_op op_add (pe_op op_mul pe_int (pe_call GT hr (by rfl) aT.g aT.k bT .nil pass0 (pa_cons (pv 0) (pa_cons pe_int pa_nil)))) pe_int))
      (pss_one (ps_ret (pe_lc (own := [("_law_k", 4)]) (g := gName 4) (tt := tYes) (te := tLetE) rfl nd (pi_range1 (by rfl) mR (pa_cons (pv 1) pa_nil))
        (blkOk_by (N := ["_law_bag_here", "_law_many", "_law_start", "_law_step", "_law_k"]) (sc := defScope sLet) (by decide +kernel))
        (fun _ _ _ _ _ => pg_name (i := 4) nd rfl (Or.inl rfl)) (fun _ _ _ _ _ => pts_nil)
        (fun _ _ _ _ _ => by exact pe_item_str pe_str (pe_op op_mod (pe_op op_add (pv 2) (pe_op op_mul (pv 4) (pv 3))) pe_int) (fun _ _ => rfl)))))), ?_⟩
    refine ⟨_, rfl, b, g, 26, rfl, by decide, by decide, B, fun d1 H1 d1a d1b B1 k1 => ?_⟩
    refine ⟨_, rfl, b, g, 6, rfl, by decide, by decide, B1, fun d2 H2 d2a d2b B2 k2 => ⟨2, d2, rfl, rfl, .inl ⟨by decide, by decide⟩, _, _, rfl, rfl, ?_⟩⟩
    obtain ⟨x, rfl⟩ : ∃ x : Nat, d1 = (x : Int) := ⟨d1.toNat, by omega⟩
    obtain ⟨y, rfl⟩ : ∃ y : Nat, d2 = (y : Int) := ⟨d2.toNat, by omega⟩
    refine ⟨_, rfl, m, rfl, by omega, by omega, fun D hD => ?_⟩
    refine lc_range (lo := 0) (n := (m : Int).toNat) (fun i H' => (∀ a o, H2 a = some o → H' a = some o) ∧ H' D = some (.lst ((lettersC x y i).map chV))) ⟨fun a o e => (upd_ne (ne_of_none e hD)).trans e, upd_same⟩ ?_ ?_
    · rintro i H' hi ⟨s1, hD'⟩
      have hz : (sizeLine : Nat) = 16777216 := sizeLine_eq
      have hi' : i < m := by omega
      refine ⟨rfl, ?_⟩
      have l26 : ("abcdefghijklmnopqrstuvwxyz" : Str).length = 26 := by decide +kernel
      refine ⟨_, rfl, _, rfl, _, rfl, 0 + (i : Int), 2 * (y : Int) + 1, rfl, rfl, .inl ⟨by omega, by omega⟩, _, _, rfl, rfl, _, _, rfl, rfl, (by show (0 : Int) < 26; decide), ?_⟩
      have em : ((x : Int) + (0 + (i : Int)) * (2 * (y : Int) + 1)) % 26 = (((x + i * (2 * y + 1)) % 26 : Nat) : Int) := by
        rw [Int.zero_add]
        push_cast
        rfl
      refine ⟨_, _, 97 + (x + i * (2 * y + 1)) % 26, rfl, congrArg V.int em, by omega, by omega, by rw [l26]; omega, alpha_at _ (by omega), ?_⟩
      refine ⟨_, hD', by rw [List.length_map, lettersC_len]; omega, fun a o e => (upd_ne (ne_of_none e hD)).trans (s1 a o e), ?_⟩
      rw [upd_same, lettersC_succ, List.map_append]
      rfl
    · rintro H' ⟨s1, hD'⟩
      have em : (m : Int).toNat = m := by omega
      rw [em] at hD'
      have hDH : H D = none := by
        cases e : H D with
        | none => rfl
        | some u =>
          by_cases hb : D = b
          · obtain ⟨ns, p, q, r, c, h1, _⟩ := B2
            rw [hb, h1] at hD
            cases hD
          · rw [k2 _ _ (k1 _ _ e hb) hb] at hD
            cases hD
      exact k x y D H' (by omega) (by omega) (B2.sm s1) (fun a o e hn => s1 _ _ (k2 _ _ (k1 _ _ e hn) hn)) hDH hD'
abbrev sRow : Stmt := top 25
theorem scRow : FnScope ["_law_bag_here", "_law_letters_here", "_law_long", "_law_row_here", "_law_k"] ["_law_bag_here", "_law_letters_here", "_law_long"] (defScope sRow) := ⟨rfl, rfl, rfl, by decide +kernel, rfl, by decide +kernel, by decide +kernel⟩
theorem ok_row {f fT : Addr} {fd fdT : FuncData} (F : Fun K "_law_row" "_law_row" sRow f fd) (aT : At K mg "_law_take" fT) (mR : mg "range" = none) (mL : mg "len" = none)
    (GT : FnOk P w K mg base CX0 1 fT fdT ["_law_bag_here", "_law_size"] spTake) (bT : Binds K fdT ["_law_bag_here", "_law_size"] []) : FnOk P w K mg base CX0 2 f fd ["_law_bag_here", "_law_letters_here", "_law_long"] spRow := by
  refine F.ok scRow (fun vs H Q E h => ?_) (fun cdv A outer s H vs Q E hr h => ?_)
  · obtain ⟨b, g, l, n, cs, rfl, _⟩ := h
    rfl
  · obtain ⟨b, g, l, n, cs, rfl, hn, hn2, B, lb, hl, hne, hcl, k⟩ := h
    have nd := scRow.nd
    refine ⟨_, pss_cons (ps_set (i := 3) nd rfl (Or.inl rfl) (pe_ix ix_list (pv 1) (pe_call GT hr (by rfl) aT.g aT.k bT .nil pass0 (pa_cons (pv 0) (pa_cons (pe_callB call_len_seq (by rfl) mL PySem.boot_len (pa_cons (pv 1) pa_nil)) pa_nil))) (fun _ _ => rfl)))
      (pss_cons (ps_for PassesOwn.never rfl (pi_range1 (by rfl) mR (pa_cons (pe_op op_add pe_int (pe_call GT hr (by rfl) aT.g aT.k bT .nil pass0 (pa_cons (pv 0) (pa_cons (pe_op op_sub (pv 2) pe_int) pa_nil)))) pa_nil)) (pg_name (i := 4) nd rfl (Or.inl rfl))
        (pss_one (ps_set (i := 3) nd rfl (Or.inl rfl) (pe_op op_addS (pv 3) (pe_ix ix_list (pv 1) (pe_call GT hr (by rfl) aT.g aT.k bT .nil pass0 (pa_cons (pv 0) (pa_cons (pe_callB call_len_seq (by rfl) mL PySem.boot_len (pa_cons (pv 1) pa_nil)) pa_nil))) (fun _ _ => rfl))))))
      (pss_one (ps_ret (pv 3)))), ?_⟩
    have hpos : 0 < cs.length := List.length_pos_iff.mpr hne
    have hlen : (cs.map chV).length = cs.length := List.length_map _
    have pick : ∀ {d : Int}, 0 ≤ d → d < ((cs.map chV).length : Int) → ∃ c, c ∈ cs ∧ atI (cs.map chV) d = some (.str (SX.S [c])) := fun h0 h1 => by
      obtain ⟨v, hv, vin⟩ := atI_in h0 h1
      obtain ⟨c, hc, rfl⟩ := List.mem_map.mp vin
      exact ⟨c, hc, hv⟩
    refine ⟨_, rfl, _, rfl, _, rfl, l, _, rfl, .inl (SqL.of hl), b, g, _, rfl, by rw [hlen]; omega, by rw [hlen]; omega, B, fun d1 H1 d1a d1b B1 k1 => ?_⟩
    obtain ⟨c1, hc1, at1⟩ := pick d1a d1b
    have l1 := k1 _ _ hl lb
    refine ⟨l, _, d1, _, rfl, rfl, SqL.of l1, at1, ?_⟩
    refine ⟨_, rfl, _, rfl, _, _, rfl, rfl, b, g, _, rfl, by omega, by omega, B1, fun d2 H2 d2a d2b B2 k2 => ⟨1, d2, rfl, rfl, ?_⟩⟩
    have l2 := k2 _ _ l1 lb
    refine ⟨1 + d2, rfl, by omega, by omega, for_range (lo := 0) (n := (1 + d2).toNat) (fun i σ H' => ∃ (r : List Nat) (u : Option V), σ = [some (.ref b), some (.ref l), some (.int n), some (.str (SX.S r)), u] ∧ r.length = i + 1 ∧ (∀ c ∈ r, c ∈ cs) ∧ BagAt H' b g ∧ Keep b H2 H') ?_ ?_ ?_⟩
    · exact ⟨[c1], none, rfl, rfl, fun c h => by rw [List.mem_singleton.mp h]; exact hc1, B2, Keep.refl⟩
    · rintro i σ H' hi ⟨r, u, rfl, hrl, hrc, B', k'⟩
      refine ⟨_, rfl, _, rfl, _, rfl, _, rfl, l, _, rfl, .inl (SqL.of (k' _ _ l2 lb)), b, g, _, rfl, by rw [hlen]; omega, by rw [hlen]; omega, B', fun d3 H3 d3a d3b B3 k3 => ?_⟩
      obtain ⟨c3, hc3, at3⟩ := pick d3a d3b
      refine ⟨l, _, d3, _, rfl, rfl, SqL.of (k3 _ _ (k' _ _ l2 lb) lb), at3, r, [c3], rfl, rfl, by rw [hrl]; show _ + 1 ≤ _; omega, ?_⟩
      refine ⟨r ++ [c3], _, rfl, by rw [List.length_append, hrl]; rfl, fun c h => ?_, B3, k'.trans k3⟩
      rcases List.mem_append.mp h with h | h
      · exact hrc c h
      · rw [List.mem_singleton.mp h]; exact hc3
    · rintro σ H' ⟨r, u, rfl, hrl, hrc, B', k'⟩
      exact ⟨_, rfl, k r H' (by omega) (by omega) hrc B' ((k1.trans k2).trans k')⟩
end
/-! ### the law's lines -/
theorem rep_flat (k : Nat) (c : Nat) : (List.replicate k [c]).flatten = List.replicate k c := by
  induction k with
  | zero => rfl
  | succ k ih => rw [List.replicate_succ, List.flatten_cons, ih, List.replicate_succ]; rfl
theorem cut_to (l : List Nat) (k : Nat) (hk : 0 < k) (h : k ≤ l.length) : cutS (SX.S l) none (some (-(k : Int))) = SX.S (l.take (l.length - k)) := by
  unfold cutS
  have e1 : HT.sIx (SX.S l).length (SX.S l).length (some (-(k : Int))) = l.length - k := by
    unfold HT.sIx
    rw [SX.S_len]
    show (if (-(k : Int)) < 0 then (-(k : Int) + (l.length : Int)).toNat else _) = _
    rw [if_pos (by omega)]
    omega
  rw [e1]
  show SX.S ((l.drop 0).take (l.length - k - 0)) = _
  rfl
theorem cut_from (l : List Nat) (k : Nat) (hk : 0 < k) (h : k ≤ l.length) : cutS (SX.S l) (some (-(k : Int))) none = SX.S (l.drop (l.length - k)) := by
  unfold cutS
  have e1 : HT.sIx (SX.S l).length 0 (some (-(k : Int))) = l.length - k := by
    unfold HT.sIx
    rw [SX.S_len]
    show (if (-(k : Int)) < 0 then (-(k : Int) + (l.length : Int)).toNat else _) = _
    rw [if_pos (by omega)]
    omega
  rw [e1, SX.S_len]
  show SX.S ((l.drop (l.length - k)).take (l.length - (l.length - k))) = _
  rw [List.take_of_length_le (by rw [List.length_drop]; omega)]
theorem cut_mid (l : List Nat) (h : 6 ≤ l.length) : cutS (SX.S l) (some (-6)) (some (-3)) = SX.S ((l.drop (l.length - 6)).take 3) := by
  unfold cutS
  have e1 : HT.sIx (SX.S l).length 0 (some (-6)) = l.length - 6 := by
    unfold HT.sIx
    rw [SX.S_len]
    show (if (-6 : Int) < 0 then (-6 + (l.length : Int)).toNat else _) = _
    rw [if_pos (by omega)]
    omega
  have e2 : HT.sIx (SX.S l).length (SX.S l).length (some (-3)) = l.length - 3 := by
    unfold HT.sIx
    rw [SX.S_len]
    show (if (-3 : Int) < 0 then (-3 + (l.length : Int)).toNat else _) = _
    rw [if_pos (by omega)]
    omega
  rw [e1, e2, show l.length - 3 - (l.length - 6) = 3 by omega]
def spCommas : Sp := fun vs H Q _ => ∃ n : Nat, vs = [.int n] ∧ n ≤ 1000000 ∧ Q (.str (SX.S (commasL (TL.numL n)))) H
def spLine : Sp := fun vs H Q _ => ∃ (g : Str) (n : Int), vs = [.str g, .int n] ∧ g.length ≤ 6 ∧ 0 ≤ n ∧ n ≤ 1000000 ∧ Q (.str (lineS g n)) H
section
variable {P : Program} {w : World} {K : PySem.W.Frag} {mg : Str → Option Value} {base : Heap}
abbrev sCommas : Stmt := top 26
theorem scCommas : FnScope ["_law_number", "_law_text"] ["_law_number"] (defScope sCommas) := ⟨rfl, rfl, rfl, by decide +kernel, rfl, by decide +kernel, by decide +kernel⟩
theorem ok_commas {f : Addr} {fd : FuncData} (F : Fun K "_law_commas" "_law_commas" sCommas f fd) (mS : mg "str" = none) (mL : mg "len" = none) : FnOk P w K mg base CX0 1 f fd ["_law_number"] spCommas := by
  refine F.ok scCommas (fun vs H Q E h => ?_) (fun cdv A outer s H vs Q E hr h => ?_)
  · obtain ⟨n, rfl, _⟩ := h
    rfl
  · obtain ⟨n, rfl, hn, k⟩ := h
    have nd := scCommas.nd
    refine ⟨_, pss_cons (ps_set (i := 1) nd rfl (Or.inl rfl) (pe_callTy call_strN (by rfl) mS (by decide +kernel) (pa_cons (pv 0) pa_nil)))
      (C8.pss_cut (ps_if (pt_cmpR op_gt (pe_callB call_len_str (by rfl) mL PySem.boot_len (pa_cons (pv 1) pa_nil)) pe_int (nomark _))
          (pss_one (ps_set (i := 1) nd rfl (Or.inl rfl) (pe_op op_addS (pe_op op_addS (pe_op op_addS (pe_op op_addS (pe_slice sl_str (pv 1) po_none (po_some (pe_un un_neg pe_int))) pe_str) (pe_slice sl_str (pv 1) (po_some (pe_un un_neg pe_int)) (po_some (pe_un un_neg pe_int)))) pe_str) (pe_slice sl_str (pv 1) (po_some (pe_un un_neg pe_int)) po_none))))
          (pss_one (ps_if (pt_cmpR op_gt (pe_callB call_len_str (by rfl) mL PySem.boot_len (pa_cons (pv 1) pa_nil)) pe_int (nomark _))
            (pss_one (ps_set (i := 1) nd rfl (Or.inl rfl) (pe_op op_addS (pe_op op_addS (pe_slice sl_str (pv 1) po_none (po_some (pe_un un_neg pe_int))) pe_str) (pe_slice sl_str (pv 1) (po_some (pe_un un_neg pe_int)) po_none)))) pss_nil)))
      (pss_one (ps_ret (pv 1)))), ?_⟩
    have hl := numL_len7 hn
    have hz : (sizeLine : Nat) = 16777216 := sizeLine_eq
    have hnp : n < 2 ^ 1900 := Nat.lt_of_le_of_lt hn (by decide)
    refine ⟨_, rfl, n, rfl, hnp, ?_⟩
    obtain ⟨ds, hds⟩ : ∃ ds, ds = TL.numL n := ⟨_, rfl⟩
    rw [← hds] at hl k ⊢
    refine ⟨fun σ' H' => H' = H ∧ σ' = [some (.int n), some (.str (SX.S (commasL ds)))], ?_, ?_⟩
    · refine ⟨_, rfl, _, rfl, by rw [SX.S_len]; omega, _, _, rfl, rfl, _, rfl, ?_⟩
      rw [SX.S_len]
      refine ite2 (fun h => ?_) (fun h => ?_)
      · have h6 : 6 < ds.length := by have := of_decide_eq_true h; omega
        have e : commasL ds = (((ds.take (ds.length - 6) ++ [44]) ++ (ds.drop (ds.length - 6)).take 3) ++ [44]) ++ ds.drop (ds.length - 3) := by
          unfold commasL
          rw [if_pos h6]
          simp only [List.append_assoc, List.cons_append, List.nil_append]
        have c1 := cut_to ds 6 (by decide) (by omega)
        have c2 := cut_mid ds (by omega)
        have c3 := cut_from ds 3 (by decide) (by omega)
        refine ⟨_, rfl, _, rfl, _, rfl, SX.S ds, rfl, by rw [SX.S_len]; omega, ds.take (ds.length - 6), [44], congrArg V.str c1, rfl, ?_, ?_⟩
        · rw [List.length_take]; show _ + 1 ≤ _; omega
        refine ⟨_, rfl, _, rfl, _, rfl, _, rfl, _, rfl, SX.S ds, rfl, by rw [SX.S_len]; omega, _, (ds.drop (ds.length - 6)).take 3, rfl, congrArg V.str c2, ?_, _, [44], rfl, rfl, ?_, ?_⟩
        · simp only [List.length_append, List.length_take, List.length_drop, List.length_cons, List.length_nil]; omega
        · simp only [List.length_append, List.length_take, List.length_drop, List.length_cons, List.length_nil]; omega
        refine ⟨_, rfl, _, rfl, _, rfl, SX.S ds, rfl, by rw [SX.S_len]; omega, _, ds.drop (ds.length - 3), rfl, congrArg V.str c3, ?_, rfl, ?_⟩
        · simp only [List.length_append, List.length_take, List.length_drop, List.length_cons, List.length_nil]; omega
        · rw [e]; rfl
      · have h6 : ¬ 6 < ds.length := fun z => h (decide_eq_true (by omega))
        refine ⟨_, rfl, _, rfl, by rw [SX.S_len]; omega, _, _, rfl, rfl, _, rfl, ?_⟩
        rw [SX.S_len]
        refine ite2 (fun h => ?_) (fun h => ?_)
        · have h3 : 3 < ds.length := by have := of_decide_eq_true h; omega
          have e : commasL ds = (ds.take (ds.length - 3) ++ [44]) ++ ds.drop (ds.length - 3) := by
            unfold commasL
            rw [if_neg h6, if_pos h3]
            simp only [List.append_assoc, List.cons_append, List.nil_append]
          have c1 := cut_to ds 3 (by decide) (by omega)
          have c3 := cut_from ds 3 (by decide) (by omega)
          refine ⟨_, rfl, _, rfl, _, rfl, SX.S ds, rfl, by rw [SX.S_len]; omega, ds.take (ds.length - 3), [44], congrArg V.str c1, rfl, ?_, ?_⟩
          · rw [List.length_take]; show _ + 1 ≤ _; omega
          refine ⟨_, rfl, _, rfl, _, rfl, SX.S ds, rfl, by rw [SX.S_len]; omega, _, ds.drop (ds.length - 3), rfl, congrArg V.str c3, ?_, rfl, ?_⟩
          · simp only [List.length_append, List.length_take, List.length_drop, List.length_cons, List.length_nil]; omega
          · rw [e]; rfl
        · have h3 : ¬ 3 < ds.length := fun z => h (decide_eq_true (by omega))
          have e : commasL ds = ds := by
            unfold commasL
            rw [if_neg h6, if_neg h3]
          rw [e]
          exact ⟨rfl, rfl⟩
    · rintro σ' H' ⟨rfl, rfl⟩
      exact ⟨_, rfl, k⟩
abbrev sLine : Stmt := top 27
theorem scLine : FnScope ["_law_glyph", "_law_number", "_law_text"] ["_law_glyph", "_law_number"] (defScope sLine) := ⟨rfl, rfl, rfl, by decide +kernel, rfl, by decide +kernel, by decide +kernel⟩
theorem ok_line {f fC : Addr} {fd fdC : FuncData} (F : Fun K "_law_line" "_law_line" sLine f fd) (aC : At K mg "_law_commas" fC) (mL : mg "len" = none) (GC : FnOk P w K mg base CX0 1 fC fdC ["_law_number"] spCommas) (bC : Binds K fdC ["_law_number"] []) : FnOk P w K mg base CX0 2 f fd ["_law_glyph", "_law_number"] spLine := by
  refine F.ok scLine (fun vs H Q E h => ?_) (fun cdv A outer s H vs Q E hr h => ?_)
  · obtain ⟨g, n, rfl, _⟩ := h
    rfl
  · obtain ⟨g, n, rfl, hg, n0, n1, k⟩ := h
    have nd := scLine.nd
    refine ⟨_, pss_cons (ps_set (i := 2) nd rfl (Or.inl rfl) (pe_call GC hr (by rfl) aC.g aC.k bC .nil pass0 (pa_cons (pv 1) pa_nil)))
      (pss_one (ps_ret (pe_op op_addS (pe_op op_addS (pe_op op_addS (pe_op op_addS (pv 0) (pe_op op_mulS pe_str (pe_op op_sub pe_int (pe_callB call_len_str (by rfl) mL PySem.boot_len (pa_cons (pv 0) pa_nil))))) pe_str) (pe_op op_mulS pe_str (pe_op op_sub pe_int (pe_callB call_len_str (by rfl) mL PySem.boot_len (pa_cons (pv 2) pa_nil))))) (pv 2)))), ?_⟩
    obtain ⟨m, rfl⟩ : ∃ m : Nat, n = (m : Int) := ⟨n.toNat, by omega⟩
    have hz : (sizeLine : Nat) = 16777216 := sizeLine_eq
    have cl := commas_len (numL_len7 (n := m) (by omega))
    have hgl : g.cps.toList.length = g.length := by rw [Array.length_toList]; rfl
    refine ⟨_, rfl, m, rfl, by omega, ?_⟩
    have hn : ((m : Nat) : Int).natAbs = m := rfl
    obtain ⟨c, hc⟩ : ∃ c, c = commasL (TL.numL m) := ⟨_, rfl⟩
    unfold lineS lineL at k
    rw [hn] at k
    rw [← hc] at cl k ⊢
    refine ⟨_, rfl, _, rfl, g, rfl, by omega, _, _, rfl, rfl, [32], _, rfl, rfl, by omega, by omega, by decide, g.cps.toList, List.replicate (6 - g.length) 32, congrArg V.str (SX.S_tl g).symm, ?_, ?_, ?_⟩
    · rw [rep_flat, show ((6 : Int) - (g.length : Int)).toNat = 6 - g.length by omega]
    · rw [List.length_replicate]; omega
    refine ⟨_, [32], rfl, rfl, ?_, ?_⟩
    · simp only [List.length_append, List.length_replicate, List.length_cons, List.length_nil]; omega
    refine ⟨_, rfl, SX.S c, rfl, by rw [SX.S_len]; omega, 9, ((SX.S c).length : Int), rfl, rfl, [32], _, rfl, rfl, by rw [SX.S_len]; omega, by rw [SX.S_len]; omega, by decide, _, List.replicate (9 - c.length) 32, rfl, ?_, ?_, ?_⟩
    · rw [rep_flat, SX.S_len, show ((9 : Int) - (c.length : Int)).toNat = 9 - c.length by omega]
    · simp only [List.length_append, List.length_replicate, List.length_cons, List.length_nil]; omega
    refine ⟨_, rfl, _, c, rfl, rfl, ?_, ?_⟩
    · simp only [List.length_append, List.length_replicate, List.length_cons, List.length_nil]; omega
    · rw [List.append_assoc]
      rw [hgl] at k
      exact k
end
/-! ### the order of glyphs, and what a dict of advances is -/
section
open PySem.W PyProof.Rows
def tokR (g : Str) : List (Int ⊕ List Nat) := keyToksAll [.int g.length, .str g]
theorem rank_le (a b : Str) : dataLe false kRank a b = !PyProof.Rows.lexLt itemOrd (tokR b) (tokR a) := by
  rw [dataLe_eq]
  show (!dataLt (kRank b) (kRank a)) = _
  unfold kRank
  rw [dataLt_tuple]
  rfl
theorem tokR_inj {a b : Str} (h : tokR a = tokR b) : a = b := by
  have h1 : [Sum.inl (1 : Int), Sum.inl (a.length : Int), .inl 1, .inr a.cps.toList, .inl 0] = [Sum.inl (1 : Int), Sum.inl (b.length : Int), .inl 1, .inr b.cps.toList, .inl 0] := h
  have h2 : a.cps.toList = b.cps.toList := by
    have := (List.cons.inj (List.cons.inj (List.cons.inj (List.cons.inj h1).2).2).2).1
    exact Sum.inr.inj this
  rw [← SX.S_tl a, ← SX.S_tl b, h2]
theorem rank_tr (a b c : Str) (h1 : dataLe false kRank a b = true) (h2 : dataLe false kRank b c = true) : dataLe false kRank a c = true := by
  rw [rank_le] at h1 h2 ⊢
  cases h : PyProof.Rows.lexLt itemOrd (tokR c) (tokR a) with
  | false => rfl
  | true =>
    rcases lex_negTrans (O := itemOrd) _ (tokR b) _ h with h | h
    · rw [h] at h2; cases h2
    · rw [h] at h1; cases h1
theorem rank_tot (a b : Str) : (dataLe false kRank a b || dataLe false kRank b a) = true := by
  rw [rank_le, rank_le]
  cases h : PyProof.Rows.lexLt itemOrd (tokR b) (tokR a) with
  | false => rfl
  | true =>
    cases h2 : PyProof.Rows.lexLt itemOrd (tokR a) (tokR b) with
    | false => rfl
    | true =>
      have := lex_trans (O := itemOrd) _ _ _ h h2
      rw [lex_irrefl] at this
      cases this
theorem rank_anti (a b : Str) (h1 : dataLe false kRank a b = true) (h2 : dataLe false kRank b a = true) : a = b := by
  rw [rank_le] at h1 h2
  refine tokR_inj (lex_total (O := itemOrd) _ _ ?_ ?_)
  · cases h : PyProof.Rows.lexLt itemOrd (tokR a) (tokR b) with
    | false => rfl
    | true => rw [h] at h2; cases h2
  · cases h : PyProof.Rows.lexLt itemOrd (tokR b) (tokR a) with
    | false => rfl
    | true => rw [h] at h1; cases h1
theorem rank_same {xs ys : List Str} (hp : xs.Perm ys) : xs.mergeSort (dataLe false kRank) = ys.mergeSort (dataLe false kRank) :=
  List.Perm.eq_of_pairwise (le := fun a b => dataLe false kRank a b = true) (fun a b _ _ h1 h2 => rank_anti a b h1 h2) (List.pairwise_mergeSort rank_tr rank_tot xs) (List.pairwise_mergeSort rank_tr rank_tot ys)
    ((List.mergeSort_perm xs _).trans (hp.trans (List.mergeSort_perm ys _).symm))
/-- a shorter one stands ahead -/
theorem rank_short {a b : Str} (h : a.length < b.length) : dataLe false kRank b a = false := by
  rw [rank_le]
  have e : PyProof.Rows.lexLt itemOrd (tokR a) (tokR b) = true := by
    show PyProof.Rows.lexLt itemOrd (Sum.inl (1 : Int) :: Sum.inl (a.length : Int) :: _) (Sum.inl (1 : Int) :: Sum.inl (b.length : Int) :: _) = true
    rw [lex_self (O := itemOrd), lex_diff (O := itemOrd) (by intro z; have := Sum.inl.inj z; omega)]
    show decide ((a.length : Int) < (b.length : Int)) = true
    exact decide_eq_true (by omega)
  rw [e]
  rfl
end
theorem any_key {κ : Type} [DecidableEq κ] {l : List (κ × Int)} {k : κ} : (l.any fun p => decide (p.1 = k)) = true ↔ k ∈ l.map (·.1) := by
  rw [List.any_eq_true, List.mem_map]
  constructor
  · rintro ⟨p, hp, h⟩
    exact ⟨p, hp, of_decide_eq_true h⟩
  · rintro ⟨p, hp, h⟩
    exact ⟨p, hp, decide_eq_true h⟩
theorem lput_keys {κ : Type} [DecidableEq κ] (l : List (κ × Int)) (k : κ) (v : Int) : (lput l k v).map (·.1) = if k ∈ l.map (·.1) then l.map (·.1) else l.map (·.1) ++ [k] := by
  unfold lput
  by_cases h : k ∈ l.map (·.1)
  · rw [if_pos h, if_pos (any_key.mpr h), List.map_map]
    refine List.map_congr_left fun p _ => ?_
    show (if p.1 = k then (p.1, v) else p).1 = p.1
    split <;> rfl
  · rw [if_neg h, if_neg (fun z => h (any_key.mp z)), List.map_append]
    rfl
theorem lput_mem {κ : Type} [DecidableEq κ] {l : List (κ × Int)} {k : κ} {v : Int} {e : κ × Int} (h : e ∈ lput l k v) : e ∈ l ∨ e = (k, v) := by
  unfold lput at h
  split at h
  · obtain ⟨p, hp, rfl⟩ := List.mem_map.mp h
    by_cases hk : p.1 = k
    · rw [if_pos hk]
      exact .inr (by rw [hk])
    · rw [if_neg hk]
      exact .inl hp
  · rcases List.mem_append.mp h with h | h
    · exact .inl h
    · exact .inr (List.mem_singleton.mp h)
theorem lput_new {κ : Type} [DecidableEq κ] {l : List (κ × Int)} {k : κ} {v : Int} (h : k ∉ l.map (·.1)) : lput l k v = l ++ [(k, v)] := by
  unfold lput
  rw [if_neg (fun z => h (any_key.mp z))]
theorem lput_len {κ : Type} [DecidableEq κ] (l : List (κ × Int)) (k : κ) (v : Int) : (lput l k v).length ≤ l.length + 1 := by
  unfold lput
  split
  · rw [List.length_map]; omega
  · rw [List.length_append]; exact Nat.le_refl _
theorem lget_in {κ : Type} [DecidableEq κ] {l : List (κ × Int)} {k : κ} {n : Int} (h : lget l k = some n) : (k, n) ∈ l := by
  unfold lget at h
  obtain ⟨p, hp, rfl⟩ := Option.map_eq_some_iff.mp h
  have h1 := List.find?_some hp
  have h2 : p.1 = k := of_decide_eq_true h1
  rw [← h2]
  exact List.mem_of_find?_eq_some hp
theorem lget_some {κ : Type} [DecidableEq κ] {l : List (κ × Int)} {k : κ} : (lget l k).isSome = true ↔ k ∈ l.map (·.1) := by
  constructor
  · intro h
    obtain ⟨n, hn⟩ := Option.isSome_iff_exists.mp h
    exact List.mem_map.mpr ⟨_, lget_in hn, rfl⟩
  · intro h
    obtain ⟨n, hn⟩ := lget_of_mem h
    rw [hn]; rfl
theorem lget_app {κ : Type} [DecidableEq κ] {l : List (κ × Int)} {k k' : κ} {v : Int} (h : k ∉ l.map (·.1)) : lget (l ++ [(k, v)]) k' = if k' = k then some v else lget l k' := by
  unfold lget
  rw [List.find?_append]
  by_cases e : k' = k
  · rw [if_pos e, e]
    have : l.find? (fun p => decide (p.1 = k)) = none := List.find?_eq_none.mpr fun p hp => by
      intro z
      exact h (List.mem_map.mpr ⟨p, hp, of_decide_eq_true z⟩)
    rw [this]
    simp [List.find?]
  · rw [if_neg e]
    have : [(k, v)].find? (fun p => decide (p.1 = k')) = none := by simp [List.find?, Ne.symm e]
    rw [this]
    simp
/-- the font's state behind so many advances -/
theorem stA_eq {fa : AdvL} (hn : (fa.map (·.1)).Nodup) (b : Int) : ∀ i, stA fa b i = ⟨((keysA fa).take i).map fun g => (g, advOf fa g), [], b⟩
  | 0 => by
    unfold stA
    rw [List.take_zero]
    rfl
  | i + 1 => by
    by_cases hi : i < (keysA fa).length
    · have hg : (keysA fa)[i]? = some (keysA fa)[i] := List.getElem?_eq_getElem hi
      have ih := stA_eq hn b i
      have hnd : (keysA fa).Nodup := (List.mergeSort_perm _ _).nodup_iff.mpr hn
      unfold stA at ih ⊢
      rw [foldl_take _ _ hg, ih, List.take_add_one, hg]
      have hnot : (keysA fa)[i] ∉ (((keysA fa).take i).map fun g => (g, advOf fa g)).map (·.1) := by
        rw [List.map_map]
        show _ ∉ ((keysA fa).take i).map id
        rw [List.map_id]
        intro hm
        obtain ⟨j, hj, e⟩ := List.mem_take_iff_getElem.mp hm
        have := (List.getElem_inj hnd).mp e
        omega
      show setA _ _ _ = _
      unfold setA
      show FSt.mk (lput _ _ _) [] b = _
      rw [lput_new hnot, List.map_append]
      rfl
    · unfold stA
      have h1 : (keysA fa).take (i + 1) = keysA fa := List.take_of_length_le (by omega)
      have h2 : (keysA fa).take i = keysA fa := List.take_of_length_le (by omega)
      have ih := stA_eq hn b i
      unfold stA at ih
      rw [h2] at ih
      rw [h1]
      exact ih
theorem stA_keys {fa : AdvL} (hn : (fa.map (·.1)).Nodup) (b : Int) (i : Nat) : (stA fa b i).adv.map (·.1) = (keysA fa).take i := by
  rw [stA_eq hn b i, List.map_map]
  exact List.map_id _
/-- a dict of advances that the constructor accepts -/
structure Good (fa : AdvL) : Prop where
  nd : (fa.map (·.1)).Nodup
  len : fa.length ≤ 1000
  nm : ∀ e ∈ fa, nameB e.1 = true
  vl : ∀ e ∈ fa, 0 ≤ e.2 ∧ e.2 ≤ 1000000
  lt : ∀ e ∈ fa, 1 < e.1.length → ∀ c ∈ chars e.1, c.length = 1 ∧ c ∈ fa.map (·.1)
theorem nameB_len {g : Str} (h : nameB g = true) : g.length ≤ 6 := by
  unfold nameB at h
  exact of_decide_eq_true (Bool.and_eq_true _ _ ▸ h).1
theorem keysA_mem {fa : AdvL} {g : Str} : g ∈ keysA fa ↔ g ∈ fa.map (·.1) := List.mem_mergeSort
theorem keysA_nd {fa : AdvL} (hn : (fa.map (·.1)).Nodup) : (keysA fa).Nodup := (List.mergeSort_perm _ _).nodup_iff.mpr hn
/-- the letters stand ahead -/
theorem ahead {fa : AdvL} (G : Good fa) {i : Nat} {g c : Str} (hg : (keysA fa)[i]? = some g) (hc : c ∈ fa.map (·.1)) (hl : c.length < g.length) : c ∈ (keysA fa).take i := by
  obtain ⟨j, hj, e⟩ := List.mem_iff_getElem.mp (keysA_mem.mpr hc)
  obtain ⟨hi, eg⟩ := List.getElem?_eq_some_iff.mp hg
  have hs := List.pairwise_mergeSort (le := PySem.W.dataLe false kRank) rank_tr rank_tot (fa.map (·.1))
  rcases Nat.lt_or_ge j i with h | h
  · exact List.mem_take_iff_getElem.mpr ⟨j, by omega, e⟩
  · rcases Nat.lt_or_eq_of_le h with h | h
    · have h1 := List.pairwise_iff_getElem.mp hs i j hi hj h
      have h2 : PySem.W.dataLe false kRank g c = true := by rw [← eg, ← e]; exact h1
      rw [rank_short hl] at h2
      cases h2
    · subst h
      rw [e] at eg
      rw [eg] at hl
      omega
theorem advOf_in {fa : AdvL} {g : Str} (h : g ∈ fa.map (·.1)) : (g, advOf fa g) ∈ fa := by
  obtain ⟨n, hn⟩ := lget_of_mem h
  have := lget_in hn
  unfold advOf
  rw [hn]
  exact this
/-- such a dict is a face, where there is room for its ligatures -/
theorem face_of {fa : AdvL} (G : Good fa) {b : Int} (b0 : 0 ≤ b) (b1 : b ≤ 1000000) (room : ∀ i g, (keysA fa)[i]? = some g → 1 < g.length → (((keysA fa).take i).filter fun g => decide ((1 : Int) < (g.length : Int))).length < 40) : Face fa [] b := by
  refine ⟨b0, b1, G.len, Nat.zero_le _, fun e he => Nat.le_trans (nameB_len (G.nm e he)) (by decide), fun i g hg => ?_, fun i g hg => ?_⟩
  · have hk : g ∈ keysA fa := List.mem_of_getElem? hg
    have hm := keysA_mem.mp hk
    have hin := advOf_in hm
    have hkeys := stA_keys G.nd b i
    obtain ⟨v0, v1⟩ := G.vl _ hin
    have hlen : ((stA fa b i).adv).length ≤ fa.length := by
      have := congrArg List.length hkeys
      rw [List.length_map, List.length_take] at this
      have h2 : (keysA fa).length = fa.length := by unfold keysA; rw [List.length_mergeSort, List.length_map]
      omega
    refine ⟨G.nm _ hin, v0, v1, ?_, ?_, ?_, ?_, ?_⟩
    · by_cases h1 : g.length ≤ 1
      · exact .inl h1
      · refine .inr (List.find?_eq_none.mpr fun c hc => ?_)
        obtain ⟨c1, c2⟩ := G.lt _ hin (by show 1 < g.length; omega) c hc
        have := ahead G hg c2 (by omega)
        rw [← hkeys] at this
        rw [lget_some.mpr this]
        exact Bool.false_ne_true
    · unfold roomless
      by_cases h1 : 1 < g.length
      · have hr := room i g hg h1
        have hlg : (ligsOf (stA fa b i)).length < 40 := by
          unfold ligsOf glyphsOf
          rw [hkeys]
          have hp := (List.mergeSort_perm ((keysA fa).take i) (PySem.W.dataLe false kRank)).filter fun g => decide ((1 : Int) < (g.length : Int))
          rw [hp.length_eq]
          exact hr
        rw [decide_eq_false (show ¬ 40 ≤ (ligsOf (stA fa b i)).length by omega), Bool.and_false, Bool.and_false]
      · rw [decide_eq_false h1]
        rfl
    · intro e he
      rw [stA_eq G.nd b i] at he
      cases he
    · show (lput _ _ _).length ≤ 1000
      have h3 := lput_len (stA fa b i).adv g (advOf fa g)
      have hnot : g ∉ (keysA fa).take i := by
        intro hm2
        obtain ⟨j, hj, e⟩ := List.mem_take_iff_getElem.mp hm2
        obtain ⟨hi, eg⟩ := List.getElem?_eq_some_iff.mp hg
        have := (List.getElem_inj (keysA_nd G.nd)).mp (e.trans eg.symm)
        omega
      have hi := (List.getElem?_eq_some_iff.mp hg).1
      have h2 : (keysA fa).length = fa.length := by unfold keysA; rw [List.length_mergeSort, List.length_map]
      have h4 := congrArg List.length hkeys
      rw [List.length_map, List.length_take] at h4
      have := G.len
      omega
    · intro e he
      have : e.1 ∈ (keysA fa).take i := by rw [← hkeys]; exact List.mem_map.mpr ⟨e, he, rfl⟩
      obtain ⟨e', he', e1⟩ := List.mem_map.mp (keysA_mem.mp (List.mem_of_mem_take this))
      rw [← e1]
      exact Nat.le_trans (nameB_len (G.nm _ he')) (by decide)
  · unfold keysK at hg
    rw [List.map_nil] at hg
    simp at hg
theorem endSt_eq {fa : AdvL} (G : Good fa) (b : Int) : endSt fa [] b = ⟨(keysA fa).map fun g => (g, advOf fa g), [], b⟩ := by
  unfold endSt stK keysK
  rw [List.map_nil, List.mergeSort_nil, List.take_nil, List.foldl_nil, stA_eq G.nd]
  rw [List.take_of_length_le (by unfold keysA; rw [List.length_mergeSort, List.length_map]; exact Nat.le_refl _)]
/-! ### sorted of (length, name) -/
section
open PySem.W PyProof.Rows
theorem cr_sortedRk {X : Cx} (hr : Room 1 X.A) : CallR X (.builtin "sorted") (fun vs H Q => ∃ (a : Addr) (xs : List (Addr × Str)), vs = [.ref a] ∧ SqL X.K H a (xs.map fun x => V.ref x.1) ∧ (∀ x ∈ xs, H x.1 = some (.tup [.int x.2.length, .str x.2])) ∧
    ∀ p, H p = none → Q (.ref p) (upd H p (.lst ((xs.mergeSort (dataLe false fun x => kRank x.2)).map fun x => V.ref x.1)))) := by
  intro pins s σ H vs us Q I rv hq
  obtain ⟨a, xs, rfl, hS, hx, q⟩ := hq
  obtain ⟨u1, rfl, r1⟩ := vals1 rv
  cases r1
  obtain ⟨its, rits, pl, hz⟩ := I.list hS
  have hl : xs.length ≤ sizeLine := by rw [List.length_map] at hz; exact hz
  have hun := hr.un
  have go : ∀ {us : List Value} {xs : List (Addr × Str)}, (∀ x ∈ xs, H x.1 = some (.tup [.int x.2.length, .str x.2])) → Vals (xs.map fun x => V.ref x.1) us → EachIs (fun u x => RelV (V.ref x.1) u) us xs ∧ EachIs (fun v x => ∃ as, Reads s.heap v (kRank x.2) as) us xs := by
    intro us xs
    induction xs generalizing us with
    | nil => intro _ r; cases r; exact ⟨.nil, .nil⟩
    | cons x xs ih =>
      intro hx r
      cases r with
      | cons r1 r2 =>
        obtain ⟨e1, e2⟩ := ih (fun y hy => hx y (List.mem_cons_of_mem _ hy)) r2
        refine ⟨.cons r1 e1, .cons ?_ e2⟩
        cases r1
        obtain ⟨ts, rts, ⟨o, ho, hc, n, hd⟩, _⟩ := I.tuple (SqT.of (K := X.K) (hx x List.mem_cons_self))
        refine ⟨[], .tuple ho hc hd ?_⟩
        cases rts with
        | cons a1 rr =>
          cases rr with
          | cons a2 rr =>
            cases rr
            obtain ⟨t1, rfl⟩ := a1
            obtain ⟨t2, rfl⟩ := a2
            exact .cons (.int _ _) (.cons (.str _ _) .nil)
  obtain ⟨e, er⟩ := go hx rits
  refine sorted_data (enc := fun x : Addr × Str => kRank x.2) pl.isList e er (AllAlike.of fun _ _ => by simp [alike, alikeAll, kRank]) (Sortable.tuples fun _ => ⟨_, _, rfl⟩) hl (fun x _ => ?_) fun out ho eo => ?_
  · have : (kRank x.2).depth ≤ 8 := by simp [kRank, PyData.depth, PyData.depthAll]
    omega
  · obtain ⟨c, hc⟩ := sortedAll_at s.heap its out.toArray
    have hf : H (s.heap.objs.size + 1) = none := I.hok.fresh (Nat.le_succ _)
    refine ⟨.ref (s.heap.objs.size + 1), upd H (s.heap.objs.size + 1) (.lst ((xs.mergeSort (dataLe false fun x => kRank x.2)).map fun x => V.ref x.1)), I.laid (t' := s.toks) (fun _ _ => sortedAll_old) (Nat.le_succ _) ?_, rfl, q _ hf⟩
    refine ⟨?_, out, c, ?_, hc⟩
    · rw [List.length_map, List.length_mergeSort]
      exact hl
    · have go2 : ∀ {us : List Value} {xs : List (Addr × Str)}, EachIs (fun u x => RelV (V.ref x.1) u) us xs → Vals (xs.map fun x => V.ref x.1) us := by
        intro us xs h
        induction h with
        | nil => exact .nil
        | cons r _ ih => exact .cons r ih
      exact go2 eo
theorem sort_rk (xs : List (Addr × Str)) : (xs.mergeSort (dataLe false fun x => kRank x.2)).map (·.2) = (xs.map (·.2)).mergeSort (dataLe false kRank) := List.map_mergeSort fun a _ b _ => rfl
end
/-! ### what the law fills its dict with -/
structure Fill (fa : AdvL) (gs : List Str) (M : Int) : Prop where
  nd : (fa.map (·.1)).Nodup
  mem : ∀ g, g ∈ fa.map (·.1) ↔ g ∈ gs
  vl : ∀ e ∈ fa, 0 ≤ e.2 ∧ e.2 ≤ M
  len : fa.length ≤ gs.length
theorem Fill.put {fa : AdvL} {gs : List Str} {M : Int} (F : Fill fa gs M) {g : Str} {v : Int} (h0 : 0 ≤ v) (h1 : v ≤ M) : Fill (lput fa g v) (gs ++ [g]) M := by
  have hk := lput_keys fa g v
  refine ⟨?_, fun g' => ?_, fun e he => ?_, ?_⟩
  · rw [hk]
    split
    · exact F.nd
    · rename_i h
      exact List.nodup_append.mpr ⟨F.nd, by simp, fun a ha b hb => by rw [List.mem_singleton.mp hb]; exact fun z => h (z ▸ ha)⟩
  · rw [hk, List.mem_append, List.mem_singleton]
    split
    · rename_i h
      rw [F.mem]
      constructor
      · exact .inl
      · rintro (h2 | rfl)
        · exact h2
        · exact (F.mem _).mp h
    · rw [List.mem_append, List.mem_singleton, F.mem]
  · rcases lput_mem he with h | rfl
    · exact F.vl e h
    · exact ⟨h0, h1⟩
  · have h2 := lput_len fa g v
    have h3 := F.len
    rw [List.length_append]
    show _ ≤ _ + 1
    omega
/-- a row over letters is a name -/
theorem low_code {c : Nat} (h1 : 97 ≤ c) (h2 : c ≤ 122) : c < 128 ∧ Unicode.isAlpha c = true ∧ Unicode.isLower c = true ∧ Unicode.isUpper c = false ∧ Unicode.isTitle c = false := by
  have : ∀ k, k < 26 → (97 + k < 128 ∧ Unicode.isAlpha (97 + k) = true ∧ Unicode.isLower (97 + k) = true ∧ Unicode.isUpper (97 + k) = false ∧ Unicode.isTitle (97 + k) = false) := by decide +kernel
  have := this (c - 97) (by omega)
  rw [show 97 + (c - 97) = c by omega] at this
  exact this
theorem chars_S (r : List Nat) : chars (SX.S r) = r.map fun c => SX.S [c] := rfl
theorem name_S {r : List Nat} (h0 : r ≠ []) (h6 : r.length ≤ 6) (hc : ∀ c ∈ r, 97 ≤ c ∧ c ≤ 122) : nameB (SX.S r) = true := by
  have hl : ∀ c ∈ r, c < 128 ∧ Unicode.isAlpha c = true ∧ Unicode.isLower c = true ∧ Unicode.isUpper c = false ∧ Unicode.isTitle c = false := fun c h => low_code (hc c h).1 (hc c h).2
  unfold nameB Txt.isascii Txt.isalpha Txt.islower
  rw [SX.S_len]
  show (decide (r.length ≤ 6) && ((r.toArray.all fun x => decide (x < 128)) && ((decide (r.length > 0) && r.toArray.all Unicode.isAlpha) && (r.toArray.any Unicode.isLower && !r.toArray.any fun c => Unicode.isUpper c || Unicode.isTitle c)))) = true
  rw [List.all_toArray, List.all_toArray, List.any_toArray, List.any_toArray]
  have a1 : (r.all fun x => decide (x < 128)) = true := List.all_eq_true.mpr fun c h => decide_eq_true (hl c h).1
  have a2 : r.all Unicode.isAlpha = true := List.all_eq_true.mpr fun c h => (hl c h).2.1
  have a3 : r.any Unicode.isLower = true := by
    cases r with
    | nil => exact absurd rfl h0
    | cons c t => exact List.any_eq_true.mpr ⟨c, List.mem_cons_self, (hl c List.mem_cons_self).2.2.1⟩
  have a4 : (r.any fun c => Unicode.isUpper c || Unicode.isTitle c) = false := List.any_eq_false.mpr fun c h => by
    rw [(hl c h).2.2.2.1, (hl c h).2.2.2.2]
    exact Bool.false_ne_true
  rw [a1, a2, a3, a4, decide_eq_true h6, decide_eq_true (List.length_pos_iff.mpr h0)]
  rfl
/-- letters and rows over them, as names -/
def IsNames (cs : List Nat) (gs : List Str) : Prop := ∀ g ∈ gs, ∃ r : List Nat, g = SX.S r ∧ r ≠ [] ∧ r.length ≤ 6 ∧ ∀ c ∈ r, c ∈ cs
theorem good_of {fa : AdvL} {cs : List Nat} {gs : List Str} {M : Int} (F : Fill fa gs M) (hM : M ≤ 1000000) (hcs : ∀ c ∈ cs, 97 ≤ c ∧ c ≤ 122) (hl : ∀ c ∈ cs, SX.S [c] ∈ gs) (hn : IsNames cs gs) (hlen : gs.length ≤ 1000) : Good fa := by
  have key : ∀ e ∈ fa, ∃ r : List Nat, e.1 = SX.S r ∧ r ≠ [] ∧ r.length ≤ 6 ∧ ∀ c ∈ r, c ∈ cs := fun e he => hn e.1 ((F.mem e.1).mp (List.mem_map.mpr ⟨e, he, rfl⟩))
  refine ⟨F.nd, Nat.le_trans F.len hlen, fun e he => ?_, fun e he => ?_, fun e he _ c hc => ?_⟩
  · obtain ⟨r, hr, r0, r6, rc⟩ := key e he
    rw [hr]
    exact name_S r0 r6 fun c h => hcs c (rc c h)
  · have := F.vl e he
    omega
  · obtain ⟨r, hr, r0, r6, rc⟩ := key e he
    rw [hr, chars_S] at hc
    obtain ⟨x, hx, rfl⟩ := List.mem_map.mp hc
    exact ⟨SX.S_len [x], (F.mem _).mpr (hl x (rc x hx))⟩
/-! ### lists of texts as data -/
def AsciiS (x : Str) : Prop := ∀ c ∈ x.cps.toList, c < 128
theorem strs_all {ls : List Str} (h : ∀ x ∈ ls, AsciiS x) : PyData.canLay0 (.list (ls.map .str)) = true := by
  show PyData.canLayAll0 (ls.map .str) = true
  rw [PyProof.Rows.canLayAll_strs']
  refine List.all_eq_true.mpr fun x hx => ?_
  unfold PyData.strOk
  rw [← Array.all_toList]
  exact List.all_eq_true.mpr fun c hc => decide_eq_true (by have := h x hx c hc; omega)
theorem strs_depth (ls : List Str) : PyData.depth (.list (ls.map .str)) ≤ 64 := by
  have : ∀ ls : List Str, PyData.depthAll (ls.map .str) ≤ 1 := by
    intro ls
    induction ls with
    | nil => simp [PyData.depthAll]
    | cons a t ih =>
      simp [PyData.depthAll, PyData.depth] at ih ⊢
      omega
  have := this ls
  simp [PyData.depth]
  omega
theorem strs_shaped {ls : List Str} (h : ∀ x ∈ ls, AsciiS x) : SeqAt.shaped (.list (ls.map .str)) = true := by
  unfold SeqAt.shaped
  rw [strs_all h, decide_eq_true (strs_depth ls)]
  rfl
theorem strs_eqv {ls : List Str} (h : ∀ x ∈ ls, AsciiS x) : PyData.eqv (.list (ls.map .str)) (.list (ls.map .str)) = true := PySem.SeqAt.eqv_refl _ (strs_all h)
theorem strs_dp {K : PySem.W.Frag} {H : Hp} {a : Addr} {ls : List Str} (h : SqL K H a (ls.map V.str)) : Dp K H (.ref a) (.list (ls.map .str)) := by
  refine .lst h ?_
  clear h
  induction ls with
  | nil => exact .nil
  | cons x t ih => exact .cons (.str x) ih
theorem commas_codes {ds : List Nat} {c : Nat} (h : c ∈ commasL ds) : c = 44 ∨ c ∈ ds := by
  unfold commasL at h
  split at h
  · rcases List.mem_append.mp h with h | h
    · exact .inr (List.mem_of_mem_take h)
    · rcases List.mem_cons.mp h with h | h
      · exact .inl h
      · rcases List.mem_append.mp h with h | h
        · exact .inr (List.mem_of_mem_drop (List.mem_of_mem_take h))
        · rcases List.mem_cons.mp h with h | h
          · exact .inl h
          · exact .inr (List.mem_of_mem_drop h)
  · split at h
    · rcases List.mem_append.mp h with h | h
      · exact .inr (List.mem_of_mem_take h)
      · rcases List.mem_cons.mp h with h | h
        · exact .inl h
        · exact .inr (List.mem_of_mem_drop h)
    · exact .inr h
theorem line_ascii {g : Str} {n : Int} (h : AsciiS g) : AsciiS (lineS g n) := by
  intro c hc
  have hc' : c ∈ lineL g.cps.toList n := hc
  unfold lineL at hc'
  rcases List.mem_append.mp hc' with h1 | h1
  · rcases List.mem_append.mp h1 with h1 | h1
    · rcases List.mem_append.mp h1 with h1 | h1
      · exact h c h1
      · rw [List.eq_of_mem_replicate h1]; decide
    · rw [List.mem_singleton.mp h1]; decide
  · rcases List.mem_append.mp h1 with h1 | h1
    · rw [List.eq_of_mem_replicate h1]; decide
    · rcases commas_codes h1 with h1 | h1
      · rw [h1]; decide
      · have := TL.numL_digits _ c h1
        omega
theorem keysA_len (fa : AdvL) : (keysA fa).length = fa.length := by
  unfold keysA
  rw [List.length_mergeSort, List.length_map]
/-- the face's font tells its glyphs and numbers -/
theorem end_glyphs {fa : AdvL} (G : Good fa) (b : Int) : glyphsOf (endSt fa [] b) = keysA fa := by
  unfold glyphsOf
  rw [endSt_eq G, List.map_map]
  show ((keysA fa).map id).mergeSort _ = _
  rw [List.map_id]
  exact rank_same (List.mergeSort_perm _ _)
theorem end_get {fa : AdvL} (G : Good fa) (b : Int) {g : Str} (h : g ∈ keysA fa) : lget (endSt fa [] b).adv g = some (advOf fa g) := by
  rw [endSt_eq G]
  show lget ((keysA fa).map fun g => (g, advOf fa g)) g = _
  have hm : g ∈ ((keysA fa).map fun g => (g, advOf fa g)).map (·.1) := by
    rw [List.map_map]
    show g ∈ (keysA fa).map id
    rw [List.map_id]
    exact h
  obtain ⟨n, hn⟩ := lget_of_mem hm
  have := lget_in hn
  obtain ⟨g', _, e⟩ := List.mem_map.mp this
  cases e
  exact hn
/-! ### the law -/
structure TxL9 (K : PySem.W.Frag) (mg : Str → Option Value) (fB fT fL fR fN fTb : Addr) : Prop where
  bag : At K mg "_law_bag" fB
  take : At K mg "_law_take" fT
  lets : At K mg "_law_letters" fL
  row : At K mg "_law_row" fR
  line : At K mg "_law_line" fN
  tab : At K mg "width_table" fTb
def tRowE : TE := tCall spRow [] E0 (tCons (tVar 1) (tCons (tVar 3) (tCons (tC (.int 6)) tNil)))
def tOrdE : TE := tTup (tCons (tCB (fun xs H Q => ∃ z, xs = [.str z] ∧ z.length ≤ sizeLine ∧ Q (.int z.length) H) (tCons (tVar 6) tNil)) (tCons (tVar 6) tNil))
def tDueE (K : PySem.W.Frag) : TE := tCall spLine [] E0 (tCons (tOp (rIxT K) (tVar 11) (tC (.int 1))) (tCons (tDGet (tVar 5) (tOp (rIxT K) (tVar 11) (tC (.int 1)))) tNil))
section
variable {P : Program} {w : World} {K : PySem.W.Frag} {mg : Str → Option Value} {base : Heap} {C : Addr}
abbrev sLaw : Stmt := top 28
theorem scLaw : FnScope ["_law_script", "_law_bag_here", "_law_most", "_law_letters_here", "_law_rows", "_law_advances", "_law_glyph", "_law_ordered", "_law_due", "_law_font", "_law_k", "_law_row_here"] ["_law_script"] (defScope sLaw) := ⟨rfl, rfl, rfl, by decide +kernel, rfl, by decide +kernel, by decide +kernel⟩
theorem ok_law {f fB fT fL fR fN fTb fQ : Addr} {fd fdB fdT fdL fdR fdN fdTb fdQ : FuncData} {dsQ : List Value} (F : Fun K "law" "law" sLaw f fd) (L : TxL9 K mg fB fT fL fR fN fTb) (M : Mk K C fQ) (mgC : mg "Font" = some (.ref C))
    (mR : mg "range" = none) (mLn : mg "len" = none) (mLi : mg "list" = none) (mSo : mg "sorted" = none) (mD : mg "dict" = none)
    (GB : FnOk P w K mg base CX0 1 fB fdB ["_law_script"] (spBag K)) (bB : Binds K fdB ["_law_script"] [])
    (GT : FnOk P w K mg base CX0 1 fT fdT ["_law_bag_here", "_law_size"] spTake) (bT : Binds K fdT ["_law_bag_here", "_law_size"] [])
    (GL : FnOk P w K mg base CX0 2 fL fdL ["_law_bag_here", "_law_many"] spLet) (bL : Binds K fdL ["_law_bag_here", "_law_many"] [])
    (GR : FnOk P w K mg base CX0 2 fR fdR ["_law_bag_here", "_law_letters_here", "_law_long"] spRow) (bR : Binds K fdR ["_law_bag_here", "_law_letters_here", "_law_long"] [])
    (GN : FnOk P w K mg base CX0 2 fN fdN ["_law_glyph", "_law_number"] spLine) (bN : Binds K fdN ["_law_glyph", "_law_number"] [])
    (GTb : FnOk P w K mg base CX0 5 fTb fdTb ["font"] (spTable C)) (bTb : Binds K fdTb ["font"] [])
    (GQ : FnOk P w K mg base (L2.CX P w) 7 fQ fdQ ["self", "advances", "kerns", "blank"] (spFont C)) (bQ : Binds K fdQ ["self", "advances", "kerns", "blank"] dsQ) (vQ : Vals [V.non, .int 250] dsQ) :
    FnOk P w K mg base CX0 9 f fd ["_law_script"] (spLaw K) := by
  refine F.ok scLaw (fun vs H Q E h => ?_) (fun cdv A outer s H vs Q E hr h => ?_)
  · obtain ⟨t, ns, rfl, _⟩ := h
    rfl
  · obtain ⟨sa, ns, rfl, hS, _, k⟩ := h
    have hr1 : Room 1 _ := hr.mono (by decide)
    have hr2 : Room 2 _ := hr.mono (by decide)
    have hr5 : Room 5 _ := hr.mono (by decide)
    have hu := hu_of hr
    have nd := scLaw.nd
    refine ⟨_, pss_cons (ps_set (i := 1) nd rfl (Or.inr rfl) (pe_call GB hr1 (by rfl) L.bag.g L.bag.k bB .nil pass0 (pa_cons (pv 0) pa_nil)))
      (pss_cons (ps_set (i := 2) nd rfl (Or.inl rfl) (pe_ix ix_list (pe_lst (pa_cons pe_int (pa_cons pe_int (pa_cons pe_int pa_nil)))) (pe_call GT hr1 (by rfl) L.take.g L.take.k bT .nil pass0 (pa_cons (pv 1) (pa_cons pe_int pa_nil))) (fun _ _ => rfl)))
      (pss_cons (ps_set (i := 3) nd rfl (Or.inr rfl) (pe_call GL hr2 (by rfl) L.lets.g L.lets.k bL .nil pass0 (pa_cons (pv 1) (pa_cons (pe_op op_add pe_int (pe_call GT hr1 (by rfl) L.take.g L.take.k bT .nil pass0 (pa_cons (pv 1) (pa_cons pe_int pa_nil)))) pa_nil))))
      (pss_cons (ps_setLc (i := 4) (own := [("_law_k", 10)]) (g := gName 10) (tt := tYes) (te := tRowE) rfl nd rfl rfl (sw_true rfl rfl rfl (by decide +kernel)) (pi_range1 (by rfl) mR (pa_cons (pe_call GT hr1 (by rfl) L.take.g L.take.k bT .nil pass0 (pa_cons (pv 1) (pa_cons pe_int pa_nil))) pa_nil))
        (blkOk_by (N := ["_law_script", "_law_bag_here", "_law_most", "_law_letters_here", "_law_rows", "_law_advances", "_law_glyph", "_law_ordered", "_law_due", "_law_font", "_law_k", "_law_row_here"]) (sc := defScope sLaw) (by decide +kernel))
        (fun _ _ _ _ _ => pg_name (i := 10) nd rfl (Or.inl rfl)) (fun _ _ _ _ _ => pts_nil)
        (fun _ _ _ _ _ => by exact pe_call GR hr2 (by rfl) L.row.g L.row.k bR .nil pass0 (pa_cons (pv 1) (pa_cons (pv 3) (pa_cons pe_int pa_nil)))))
      (pss_cons (ps_set (i := 5) nd rfl (Or.inr rfl) pe_dnewK)
      (pss_cons (ps_for PassesOwn.never rfl (pi_list (pe_op op_cat (pv 3) (pv 4))) (pg_name (i := 6) nd rfl (Or.inl rfl))
        (pss_one (ps_dput hu (pv 5) (pv 6) (pe_call GT hr1 (by rfl) L.take.g L.take.k bT .nil pass0 (pa_cons (pv 1) (pa_cons (pe_op op_add (pv 2) pe_int) pa_nil))) rfl)))
      (pss_cons (ps_set (i := 7) nd rfl (Or.inl rfl) (pe_callB (cr_sortedRk hr1) (by rfl) mSo (by decide +kernel) (pa_cons (pe_lc (own := [("_law_glyph", 6)]) (g := gName 6) (tt := tYes) (te := tOrdE) rfl nd (pi_list (pe_callB cr_sortedS (by rfl) mSo (by decide +kernel) (pa_cons (pe_callTy (call_list_dK rfl) (by rfl) mLi (by decide +kernel) (pa_cons (pv 5) pa_nil)) pa_nil)))
        (blkOk_by (N := ["_law_script", "_law_bag_here", "_law_most", "_law_letters_here", "_law_rows", "_law_advances", "_law_glyph", "_law_ordered", "_law_due", "_law_font", "_law_k", "_law_row_here"]) (sc := defScope sLaw) (by decide +kernel))
        (fun _ _ _ _ _ => pg_name (i := 6) nd rfl (Or.inl rfl)) (fun _ _ _ _ _ => pts_nil)
        (fun _ _ _ _ _ => by exact pe_tup (pa_cons (pe_callB call_len_str (by rfl) mLn PySem.boot_len (pa_cons (pv 6) pa_nil)) (pa_cons (pv 6) pa_nil)))) pa_nil)))
      (pss_cons (ps_setLc (i := 8) (own := [("_law_row_here", 11)]) (g := gName 11) (tt := tYes) (te := tDueE K) rfl nd rfl rfl (sw_true rfl rfl rfl (by decide +kernel)) (pi_list (pv 7))
        (blkOk_by (N := ["_law_script", "_law_bag_here", "_law_most", "_law_letters_here", "_law_rows", "_law_advances", "_law_glyph", "_law_ordered", "_law_due", "_law_font", "_law_k", "_law_row_here"]) (sc := defScope sLaw) (by decide +kernel))
        (fun _ _ _ _ _ => pg_name (i := 11) nd rfl (Or.inl rfl)) (fun _ _ _ _ _ => pts_nil)
        (fun _ _ _ _ _ => by exact pe_call GN hr2 (by rfl) L.line.g L.line.k bN .nil pass0 (pa_cons (pe_ix ix_tup (pv 11) pe_int (fun _ _ => rfl)) (pa_cons (pe_dget hu (pv 5) (pe_ix ix_tup (pv 11) pe_int (fun _ _ => rfl)) (fun _ _ => rfl)) pa_nil))))
      (pss_cons (ps_if (PW.pt (pw_or (pt_cmpR op_ne (pe_call GN hr2 (by rfl) L.line.g L.line.k bN .nil pass0 (pa_cons pe_str (pa_cons pe_int pa_nil))) pe_str (nomark _)) (pw_or1 (pt_cmpR op_ne (pe_call GN hr2 (by rfl) L.line.g L.line.k bN .nil pass0 (pa_cons pe_str (pa_cons pe_int pa_nil))) pe_str (nomark _))))) (pss_one (ps_ret pe_bl)) pss_nil)
      (pss_cons (ps_set (i := 9) nd rfl (Or.inl rfl) (pe_make M GQ hr (by rfl) mgC bQ vQ passL (pa_cons (pe_callTy call_dictD (by rfl) mD (by decide +kernel) (pa_cons (pv 5) pa_nil)) pa_nil)))
      (pss_one (ps_ret (pe_and (pe_cmpR (op_eqD hr.units) (pe_call GTb hr5 (by rfl) L.tab.g L.tab.k bTb .nil pass0 (pa_cons (pv 9) pa_nil)) (pv 8) (nomark _)) (pe_one (pe_cmpR (op_eqD hr.units) (pe_call GTb hr5 (by rfl) L.tab.g L.tab.k bTb .nil pass0 (pa_cons (pv 9) pa_nil)) (pv 8) (nomark _))))))))))))))), ?_⟩
    refine ⟨_, rfl, sa, ns, rfl, hS, fun b g H1 B1 _ _ => ?_⟩
    have hz : (sizeLine : Nat) = 16777216 := sizeLine_eq
    -- most
    refine ⟨by show 3 ≤ sizeLine; decide, fun l1 n1 => ?_⟩
    refine ⟨_, rfl, b, g, 3, rfl, by decide, by decide, B1.sm (same_upd n1), fun d1 H2 d1a d1b B2 k2 => ?_⟩
    obtain ⟨v1, at1, in1⟩ := atI_in (xs := [V.int 9, .int 2000, .int 1000000]) d1a d1b
    obtain ⟨M, rfl, M0, M1⟩ : ∃ M : Int, v1 = .int M ∧ 1 ≤ M ∧ M ≤ 1000000 := by
      simp only [List.mem_cons, List.not_mem_nil, or_false] at in1
      rcases in1 with h | h | h
      · exact ⟨9, h, by decide, by decide⟩
      · exact ⟨2000, h, by decide, by decide⟩
      · exact ⟨1000000, h, by decide, by decide⟩
    refine ⟨l1, _, d1, _, rfl, rfl, SqL.of (k2 _ _ upd_same (B1.ne n1)), at1, ?_⟩
    -- letters
    refine ⟨_, rfl, _, rfl, b, g, 5, rfl, by decide, by decide, B2, fun d2 H3 d2a d2b B3 k3 => ⟨1, d2, rfl, rfl, ?_⟩⟩
    obtain ⟨m0, rfl⟩ : ∃ m : Nat, d2 = (m : Int) := ⟨d2.toNat, by omega⟩
    refine ⟨b, g, 1 + m0, rfl, by omega, B3, fun x y l H4 hx hy B4 k4 nl hl => ?_⟩
    obtain ⟨cs, hcs⟩ : ∃ cs, cs = lettersC x y (1 + m0) := ⟨_, rfl⟩
    rw [← hcs] at hl
    have csl : cs.length = 1 + m0 := by rw [hcs, lettersC_len]
    have csn : cs ≠ [] := fun z => by rw [z] at csl; simp at csl; omega
    have csr : ∀ c ∈ cs, 97 ≤ c ∧ c ≤ 122 := fun c h => lettersC_in (hcs ▸ h)
    have lb : l ≠ b := B3.ne nl
    -- rows
    refine ⟨_, rfl, b, g, 5, rfl, by decide, by decide, B4, fun d3 H5 d3a d3b B5 k5 => ⟨d3, rfl, by omega, by omega, fun D hD => ?_⟩⟩
    have Db : D ≠ b := B5.ne hD
    have Dg : D ≠ g := B5.nl hD
    have hl5 := k5 _ _ hl lb
    refine lc_range (lo := 0) (n := d3.toNat) (fun i H' => ∃ rs : List (List Nat), rs.length = i ∧ (∀ r ∈ rs, 2 ≤ r.length ∧ r.length ≤ 6 ∧ ∀ c ∈ r, c ∈ cs) ∧ H' D = some (.lst (rs.map fun r => V.str (SX.S r))) ∧ BagAt H' b g ∧ (∀ a o, H5 a = some o → a ≠ b → H' a = some o))
      ⟨[], rfl, (fun r h => by cases h), upd_same, B5.sm (same_upd hD), fun a o e _ => same_upd hD a o e⟩ ?_ ?_
    · rintro i H' hi ⟨rs, hrl, hrs, hD', B', kp⟩
      refine ⟨rfl, ?_⟩
      refine ⟨_, rfl, _, rfl, b, g, l, 6, cs, rfl, by decide, by decide, B', lb, kp _ _ hl5 lb, csn, by omega, fun r H6 r2 r6 rc B6 k6 => ?_⟩
      have hD6 := k6 _ _ hD' Db
      refine ⟨_, hD6, by rw [List.length_map]; omega, rs ++ [r], by rw [List.length_append, hrl]; rfl, fun r' h' => ?_, ?_, ?_, ?_⟩
      · rcases List.mem_append.mp h' with h' | h'
        · exact hrs r' h'
        · rw [List.mem_singleton.mp h']; exact ⟨r2, r6, rc⟩
      · rw [upd_same, List.map_append]; rfl
      · exact B6.up Db Dg
      · intro a o e hab
        rw [upd_ne (ne_of_none e hD)]
        exact k6 _ _ (kp a o e hab) hab
    rintro H6 ⟨rs, hrl, hrs, hD6, B6, kp6⟩
    have hl6 := kp6 _ _ hl5 lb
    -- the dict
    refine fun dA hA => ?_
    have dAb : dA ≠ b := B6.ne hA
    have dAg : dA ≠ g := B6.nl hA
    have Bn := B6.sm (same_upd (o := .dK []) hA)
    refine ⟨_, rfl, _, rfl, l, D, _, _, rfl, rfl, same_upd hA _ _ hl6, same_upd hA _ _ hD6, ?_, fun q hq => ⟨q, rfl, ⟨_, SqL.of upd_same⟩, ?_⟩⟩
    · rw [List.length_map, List.length_map]; omega
    obtain ⟨gs, hgs⟩ : ∃ gs, gs = cs.map (fun c => SX.S [c]) ++ rs.map SX.S := ⟨_, rfl⟩
    have egs : cs.map chV ++ rs.map (fun r => V.str (SX.S r)) = gs.map V.str := by
      rw [hgs, List.map_append, List.map_map, List.map_map]
      rfl
    rw [egs]
    have gsl : gs.length = cs.length + rs.length := by rw [hgs, List.length_append, List.length_map, List.length_map]
    have names : IsNames cs gs := fun x hx => by
      rw [hgs] at hx
      rcases List.mem_append.mp hx with hx | hx
      · obtain ⟨c, hc, rfl⟩ := List.mem_map.mp hx
        exact ⟨[c], rfl, by simp, by show 1 ≤ 6; decide, fun c' h' => by rw [List.mem_singleton.mp h']; exact hc⟩
      · obtain ⟨r, hr, rfl⟩ := List.mem_map.mp hx
        obtain ⟨r2, r6, rc⟩ := hrs r hr
        exact ⟨r, rfl, fun z => by rw [z] at r2; simp at r2, r6, rc⟩
    have letsIn : ∀ c ∈ cs, SX.S [c] ∈ gs := fun c hc => by
      rw [hgs]
      exact List.mem_append_left _ (List.mem_map.mpr ⟨c, hc, rfl⟩)
    have qb : q ≠ b := Bn.ne hq
    have qg : q ≠ g := Bn.nl hq
    have qA : q ≠ dA := fun z => by rw [z, upd_same] at hq; cases hq
    obtain ⟨H7, e7⟩ : ∃ H7, H7 = upd (upd H6 dA (.dK [])) q (.lst (gs.map V.str)) := ⟨_, rfl⟩
    show ∃ W : Nat → Nat → St → Hp → Prop, (∃ m, W 0 m _ (upd (upd H6 dA (.dK [])) q (.lst (gs.map V.str)))) ∧ _
    rw [← e7]
    have B7 : BagAt H7 b g := by rw [e7]; exact Bn.up qb qg
    have q7 : H7 q = some (.lst (gs.map V.str)) := by rw [e7]; exact upd_same
    have A7 : H7 dA = some (.dK (enc cA [])) := by rw [e7, upd_ne (Ne.symm qA)]; exact upd_same
    have small : gs.length ≤ 20 := by omega
    refine for_list (K := K) (a := q) (xs := gs.map V.str) (fun i σ H' => (∃ u : Option V, σ = [some (.ref sa), some (.ref b), some (.int M), some (.ref l), some (.ref D), some (.ref dA), u, none, none, none, none, none]) ∧ (∃ fa, H' dA = some (.dK (enc cA fa)) ∧ Fill fa (gs.take i) M) ∧ BagAt H' b g ∧ H' q = some (.lst (gs.map V.str)))
      ⟨⟨none, rfl⟩, ⟨[], A7, ⟨List.nodup_nil, fun x => by rw [List.take_zero]; rfl, (fun e h => by cases h), Nat.le_refl _⟩⟩, B7, q7⟩ (fun i σ H' _ h => SqL.of h.2.2.2) ?_ ?_
    · rintro i x σ H' hx ⟨⟨u, rfl⟩, ⟨fa, hA', FF⟩, B', q'⟩
      rw [List.getElem?_map, Option.map_eq_some_iff] at hx
      obtain ⟨gn, hg, rfl⟩ := hx
      refine ⟨_, rfl, _, rfl, M, 1, rfl, rfl, b, g, M + 1, rfl, by omega, by omega, B', fun d4 H8 d4a d4b B8 k8 => ?_⟩
      have hA8 := k8 _ _ hA' dAb
      have q8 := k8 _ _ q' qb
      have fl := FF.len
      have il : (gs.take i).length ≤ 20 := by rw [List.length_take]; omega
      refine ⟨_, rfl, _, rfl, dA, _, rfl, DPut.k (k := Sum.inr gn) hA8 (small1000 (by unfold enc; rw [List.length_map]; omega)), ?_⟩
      have e : putK (enc cA fa) (Sum.inr gn : L2.Key) (.int d4) = enc cA (lput fa gn d4) := enc_put cA_inj fa gn d4
      rw [e]
      refine ⟨⟨_, rfl⟩, ⟨_, upd_same, ?_⟩, B8.up dAb dAg, (upd_ne qA).trans q8⟩
      rw [List.take_add_one, hg]
      exact FF.put d4a (by omega)
    rintro σ H8 ⟨⟨u, rfl⟩, ⟨fa, hA8, FF⟩, B8, q8⟩
    rw [List.length_map, List.take_length] at FF
    have G : Good fa := good_of FF M1 csr letsIn names (by omega)
    have fal : fa.length ≤ 20 := Nat.le_trans FF.len small
    -- the names in order
    refine ⟨_, rfl, dA, _, rfl, hA8, fun q1 hq1 => ?_⟩
    have kmap : (enc cA fa).map (fun kv => kV kv.1) = (fa.map (·.1)).map V.str := by
      unfold enc
      rw [List.map_map, List.map_map]
      rfl
    rw [kmap]
    refine ⟨q1, fa.map (·.1), rfl, SqL.of upd_same, by rw [List.length_map]; omega, fun ys q2 hp _ hq2 => ⟨q2, rfl, ⟨_, SqL.of upd_same⟩, fun D2 hD2 => ?_⟩⟩
    obtain ⟨H9, e9⟩ : ∃ H9, H9 = upd (upd H8 q1 (.lst ((fa.map (·.1)).map V.str))) q2 (.lst (ys.map V.str)) := ⟨_, rfl⟩
    rw [← e9] at hD2
    have s89 : Same H8 H9 := by rw [e9]; exact (same_upd hq1).trans (same_upd hq2)
    have q29 : H9 q2 = some (.lst (ys.map V.str)) := by rw [e9]; exact upd_same
    have ysl : ys.length = fa.length := by rw [hp.length_eq, List.length_map]
    have yin : ∀ y ∈ ys, y.length ≤ 6 := fun y hy => by
      obtain ⟨e, he, rfl⟩ := List.mem_map.mp (hp.mem_iff.mp hy)
      exact nameB_len (G.nm e he)
    show ∃ W : Nat → Nat → Hp → Prop, (∃ m, W 0 m (upd (upd (upd H8 q1 (.lst ((fa.map (·.1)).map V.str))) q2 (.lst (ys.map V.str))) D2 (.lst []))) ∧ _
    rw [← e9]
    refine lc_list (K := K) (a := q2) (xs := ys.map V.str) (fun i H' => (∀ b u, b ≠ D2 → H9 b = some u → H' b = some u) ∧ ∃ xs : List (Addr × Str), H' D2 = some (.lst (xs.map fun x => V.ref x.1)) ∧ xs.map (·.2) = ys.take i ∧ ∀ x ∈ xs, H' x.1 = some (.tup [.int x.2.length, .str x.2]))
      ⟨fun b u hb e => (upd_ne hb).trans e, [], upd_same, rfl, (fun x h => by cases h)⟩ (fun i H' _ h => SqL.of (h.1 _ _ (fun z => by rw [z, hD2] at q29; cases q29) q29)) ?_ ?_
    · rintro i x H' hx ⟨s1, xs, hD', hxs, hxt⟩
      rw [List.getElem?_map, Option.map_eq_some_iff] at hx
      obtain ⟨gn, hg, rfl⟩ := hx
      have gl := yin gn (List.mem_of_getElem? hg)
      refine ⟨rfl, ?_⟩
      refine ⟨_, rfl, gn, rfl, by omega, _, rfl, by show 2 ≤ sizeLine; decide, fun t ht => ?_⟩
      have tD : t ≠ D2 := fun z => by rw [z, hD'] at ht; cases ht
      have hD'' := same_upd (o := .tup [.int gn.length, .str gn]) ht _ _ hD'
      have xl : xs.length = (ys.take i).length := by rw [← hxs, List.length_map]
      have yl : (ys.take i).length ≤ 20 := by rw [List.length_take]; omega
      refine ⟨_, hD'', by rw [List.length_map]; omega, fun c u hc e => (upd_ne hc).trans (same_upd ht _ _ (s1 c u hc e)), xs ++ [(t, gn)], ?_, ?_, ?_⟩
      · rw [upd_same, List.map_append]
        rfl
      · rw [List.map_append, hxs, List.take_add_one, hg]
        rfl
      · intro x hx
        rcases List.mem_append.mp hx with hx | hx
        · have h1 := same_upd (o := .tup [.int gn.length, .str gn]) ht _ _ (hxt x hx)
          rw [upd_ne (ne_of h1 hD'' (by intro z; cases z))]
          exact h1
        · rw [List.mem_singleton.mp hx]
          show upd _ D2 _ t = _
          rw [upd_ne tD, upd_same]
    rintro H10 ⟨s1, xs, hD10, hxs, hxt⟩
    rw [List.length_map, List.take_of_length_le (Nat.le_refl _)] at hxs
    refine ⟨D2, xs, rfl, SqL.of hD10, hxt, fun q3 hq3 => ?_⟩
    have hss := sort_rk xs
    rw [hxs, show ys.mergeSort (PySem.W.dataLe false kRank) = keysA fa from rank_same hp] at hss
    generalize hzs : xs.mergeSort (PySem.W.dataLe false fun x => kRank x.2) = zs at hss hq3 ⊢
    have hzx : ∀ z ∈ zs, z ∈ xs := fun z hz => by rw [← hzs] at hz; exact List.mem_mergeSort.mp hz
    obtain ⟨H11, e11⟩ : ∃ H11, H11 = upd H10 q3 (.lst (zs.map fun x => V.ref x.1)) := ⟨_, rfl⟩
    rw [← e11]
    have s11 : Same H10 H11 := by rw [e11]; exact same_upd hq3
    have q311 : H11 q3 = some (.lst (zs.map fun x => V.ref x.1)) := by rw [e11]; exact upd_same
    have AD2 : dA ≠ D2 := fun z => by
      have := s89 _ _ hA8
      rw [z, hD2] at this
      cases this
    have hA11 : H11 dA = some (.dK (enc cA fa)) := s11 _ _ (s1 _ _ AD2 (s89 _ _ hA8))
    -- the due lines
    refine ⟨_, rfl, q3, rfl, ⟨_, SqL.of q311⟩, fun D3 hD3 => ?_⟩
    refine lc_list (K := K) (a := q3) (xs := zs.map fun x => V.ref x.1) (fun i H' => (∀ b u, b ≠ D3 → H11 b = some u → H' b = some u) ∧ H' D3 = some (.lst ((((keysA fa).take i).map fun g => lineS g (advOf fa g)).map V.str)))
      ⟨fun b u hb e => (upd_ne hb).trans e, upd_same⟩ (fun i H' _ h => SqL.of (h.1 _ _ (fun z => by rw [z, hD3] at q311; cases q311) q311)) ?_ ?_
    · rintro i x H' hx ⟨s3, hD'⟩
      rw [List.getElem?_map, Option.map_eq_some_iff] at hx
      obtain ⟨z, hzi, rfl⟩ := hx
      have zt : H11 z.1 = some (.tup [.int z.2.length, .str z.2]) := s11 _ _ (hxt z (hzx z (List.mem_of_getElem? hzi)))
      have zt' : H' z.1 = some (.tup [.int z.2.length, .str z.2]) := s3 _ _ (fun h => by rw [h, hD3] at zt; cases zt) zt
      have hA' : H' dA = some (.dK (enc cA fa)) := s3 _ _ (fun h => by rw [h, hD3] at hA11; cases hA11) hA11
      have hk : (keysA fa)[i]? = some z.2 := by
        rw [← hss, List.getElem?_map, hzi]
        rfl
      have hm := keysA_mem.mp (List.mem_of_getElem? hk)
      have hin := advOf_in hm
      obtain ⟨v0, v1⟩ := G.vl _ hin
      have hval : valV (enc cA fa) (Sum.inr z.2 : L2.Key) = some (.int (advOf fa z.2)) := by
        obtain ⟨n, hn⟩ := lget_of_mem hm
        have e1 : advOf fa z.2 = n := by unfold advOf; rw [hn]; rfl
        rw [show valV (enc cA fa) (Sum.inr z.2 : L2.Key) = (lget fa z.2).map V.int from enc_get cA_inj fa z.2, hn, e1]
        rfl
      have kl : ((keysA fa).take i).length ≤ 20 := by rw [List.length_take, keysA_len]; omega
      refine ⟨rfl, ?_⟩
      refine ⟨_, rfl, z.1, _, 1, _, rfl, rfl, SqT.of zt', rfl, _, rfl, _, rfl, z.1, _, 1, _, rfl, rfl, SqT.of zt', rfl, dA, .int (advOf fa z.2), rfl, ?_, z.2, advOf fa z.2, rfl, nameB_len (G.nm _ hin), v0, v1, ?_⟩
      · rw [← hval]
        exact DGet.k (k := Sum.inr z.2) hA'
      · refine ⟨_, hD', by rw [List.length_map, List.length_map]; omega, fun c u hc e => (upd_ne hc).trans (s3 c u hc e), ?_⟩
        rw [upd_same, List.take_add_one, hk, List.map_append, List.map_append]
        rfl
    rintro H12 ⟨s3, hD12⟩
    have zsl : zs.length = (keysA fa).length := by rw [← hss, List.length_map]
    rw [List.length_map, zsl, List.take_length] at hD12
    have hA12 : H12 dA = some (.dK (enc cA fa)) := s3 _ _ (fun h => by rw [h, hD3] at hA11; cases hA11) hA11
    -- the two lines of the document
    have t1 : lineS "fi" 700 = ("fi           700" : Str) := by decide +kernel
    have t2 : lineS "a" 1000000 = ("a      1,000,000" : Str) := by decide +kernel
    refine ⟨"fi", 700, rfl, by decide, by decide, by decide, rfl, _, rfl, ?_⟩
    rw [decide_eq_true (congrArg V.str t1)]
    refine iteF ⟨"a", 1000000, rfl, by decide, by decide, by decide, rfl, _, rfl, ?_⟩
    rw [decide_eq_true (congrArg V.str t2)]
    refine iteF ?_
    -- the font
    obtain ⟨ls, els⟩ : ∃ ls, ls = (keysA fa).map fun g => lineS g (advOf fa g) := ⟨_, rfl⟩
    rw [← els] at hD12
    refine ⟨_, rfl, dA, _, rfl, Rd.of hA12, fun d2 hd2 x dx nx ndx nex => ?_⟩
    have d2x : d2 ≠ x := fun z => by rw [z, upd_same] at nx; cases nx
    have d2dx : d2 ≠ dx := fun z => by rw [z, upd_same] at ndx; cases ndx
    have D3d2 : D3 ≠ d2 := fun z => by rw [z, hd2] at hD12; cases hD12
    have D3x : D3 ≠ x := fun z => by
      rw [← z, upd_ne D3d2, hD12] at nx
      cases nx
    have D3dx : D3 ≠ dx := fun z => by
      rw [← z, upd_ne D3d2, hD12] at ndx
      cases ndx
    have FC : Face fa [] 250 := face_of G (by decide) (by decide) (fun i gn hg _ => by
      have h1 : ((keysA fa).take i).length ≤ 20 := by rw [List.length_take, keysA_len]; omega
      have h2 := List.length_filter_le (fun g : Str => decide ((1 : Int) < (g.length : Int))) ((keysA fa).take i)
      omega)
    refine ⟨x, dx, d2, .non, fa, [], 250, rfl, upd_same, ?_, .inr ⟨rfl, rfl⟩, FC, fun H13 o _ kp _ _ _ FA => ⟨rfl, ?_⟩⟩
    · rw [upd_ne d2x, upd_ne d2dx]
      exact upd_same
    have hD13 : H13 D3 = some (.lst (ls.map V.str)) := kp _ _ (by rw [upd_ne D3x, upd_ne D3dx, upd_ne D3d2]; exact hD12) D3x
    -- the table, twice
    have asc : ∀ y ∈ ls, AsciiS y := fun y hy => by
      rw [els] at hy
      obtain ⟨gn, hgn, rfl⟩ := List.mem_map.mp hy
      have hm := (FF.mem gn).mp (keysA_mem.mp hgn)
      obtain ⟨r, rfl, _, _, rc⟩ := names gn hm
      exact line_ascii fun c hc => by have := (csr c (rc c hc)).2; omega
    have hst : (∀ e ∈ (endSt fa [] 250).adv, e.1.length ≤ 6) ∧ (∀ g n, lget (endSt fa [] 250).adv g = some n → 0 ≤ n ∧ n ≤ 1000000) := by
      rw [endSt_eq G]
      constructor
      · intro e he
        obtain ⟨gn, hgn, rfl⟩ := List.mem_map.mp he
        exact nameB_len (G.nm _ (advOf_in (keysA_mem.mp hgn)))
      · intro gn n hn
        obtain ⟨g', hg', e⟩ := List.mem_map.mp (lget_in hn)
        cases e
        exact G.vl _ (advOf_in (keysA_mem.mp hg'))
    have rows : ((glyphsOf (endSt fa [] 250)).map fun g => V.str (lineS g ((lget (endSt fa [] 250).adv g).getD 0))) = ls.map V.str := by
      rw [end_glyphs G, els, List.map_map]
      refine List.map_congr_left fun gn hgn => ?_
      rw [end_get G 250 hgn]
      rfl
    refine ⟨_, rfl, x, o, _, [], rfl, FA, hst.1, hst.2, fun H14 t1 s14 nt1 ht1 => ?_⟩
    rw [rows] at ht1
    refine ⟨_, rfl, _, _, strs_dp (SqL.of ht1), strs_dp (SqL.of (s14 _ _ hD13)), strs_shaped asc, strs_shaped asc, _, rfl, ?_⟩
    rw [strs_eqv asc]
    refine iteT ⟨_, rfl, x, o, _, [], rfl, FA.sm s14, hst.1, hst.2, fun H15 t2 s15 nt2 ht2 => ?_⟩
    rw [rows] at ht2
    refine ⟨_, rfl, _, _, strs_dp (SqL.of ht2), strs_dp (SqL.of (s15 _ _ (s14 _ _ hD13))), strs_shaped asc, strs_shaped asc, ?_⟩
    rw [strs_eqv asc]
    exact k _
end
/-! ### the errors' __init__ -/
section
variable {P : Program} {w : World} {K : PySem.W.Frag} {mg : Str → Option Value} {base : Heap}
abbrev sEG : Stmt := inClass (top 3) 0
theorem scEG : FnScope ["self", "glyph"] ["self", "glyph"] (defScope sEG) := ⟨rfl, rfl, rfl, by decide +kernel, rfl, by decide +kernel, by decide +kernel⟩
theorem ok_eg {f C : Addr} {fd : FuncData} (F : Fun K "__init__" "InvalidGlyph.__init__" sEG f fd) (T : OexC K C) (hno : PySem.W.findIn K (.ref C) "glyph" = some none) : FnOk P w K mg base CX0 1 f fd ["self", "glyph"] (spEx1 C "glyph") := by
  refine F.ok scEG (fun vs H Q E h => ?_) (fun cdv A outer s H vs Q E hr h => ?_)
  · obtain ⟨v, i, rfl, _⟩ := h
    rfl
  · obtain ⟨a, y, rfl, ha, k⟩ := h
    refine ⟨_, pss_one (ps_ost (pv 0) (pv 1)), ?_⟩
    exact ⟨_, rfl, _, rfl, a, C, rfl, T, hno, .inl ⟨ha, fun dx n ne => k dx n ne⟩⟩
abbrev sEU : Stmt := inClass (top 5) 0
theorem scEU : FnScope ["self", "glyph"] ["self", "glyph"] (defScope sEU) := ⟨rfl, rfl, rfl, by decide +kernel, rfl, by decide +kernel, by decide +kernel⟩
theorem ok_eu {f C : Addr} {fd : FuncData} (F : Fun K "__init__" "UnknownGlyph.__init__" sEU f fd) (T : OexC K C) (hno : PySem.W.findIn K (.ref C) "glyph" = some none) : FnOk P w K mg base CX0 1 f fd ["self", "glyph"] (spEx1 C "glyph") := by
  refine F.ok scEU (fun vs H Q E h => ?_) (fun cdv A outer s H vs Q E hr h => ?_)
  · obtain ⟨v, i, rfl, _⟩ := h
    rfl
  · obtain ⟨a, y, rfl, ha, k⟩ := h
    refine ⟨_, pss_one (ps_ost (pv 0) (pv 1)), ?_⟩
    exact ⟨_, rfl, _, rfl, a, C, rfl, T, hno, .inl ⟨ha, fun dx n ne => k dx n ne⟩⟩
abbrev sET : Stmt := inClass (top 6) 0
theorem scET : FnScope ["self", "limit"] ["self", "limit"] (defScope sET) := ⟨rfl, rfl, rfl, by decide +kernel, rfl, by decide +kernel, by decide +kernel⟩
theorem ok_et {f C : Addr} {fd : FuncData} (F : Fun K "__init__" "TooMany.__init__" sET f fd) (T : OexC K C) (hno : PySem.W.findIn K (.ref C) "limit" = some none) : FnOk P w K mg base CX0 1 f fd ["self", "limit"] (spEx1 C "limit") := by
  refine F.ok scET (fun vs H Q E h => ?_) (fun cdv A outer s H vs Q E hr h => ?_)
  · obtain ⟨v, i, rfl, _⟩ := h
    rfl
  · obtain ⟨a, y, rfl, ha, k⟩ := h
    refine ⟨_, pss_one (ps_ost (pv 0) (pv 1)), ?_⟩
    exact ⟨_, rfl, _, rfl, a, C, rfl, T, hno, .inl ⟨ha, fun dx n ne => k dx n ne⟩⟩
abbrev sEO : Stmt := inClass (top 7) 0
theorem scEO : FnScope ["self", "left", "right"] ["self", "left", "right"] (defScope sEO) := ⟨rfl, rfl, rfl, by decide +kernel, rfl, by decide +kernel, by decide +kernel⟩
theorem ok_eo {f C : Addr} {fd : FuncData} (F : Fun K "__init__" "Overlap.__init__" sEO f fd) (T : OexC K C) (hl : PySem.W.findIn K (.ref C) "left" = some none) (hrt : PySem.W.findIn K (.ref C) "right" = some none) : FnOk P w K mg base CX0 1 f fd ["self", "left", "right"] (spEx2 C "left" "right") := by
  refine F.ok scEO (fun vs H Q E h => ?_) (fun cdv A outer s H vs Q E hr h => ?_)
  · obtain ⟨v, i, j, rfl, _⟩ := h
    rfl
  · obtain ⟨a, x, y, rfl, ha, k⟩ := h
    refine ⟨_, pss_cons (ps_ost (pv 0) (pv 1)) (pss_one (ps_ost (pv 0) (pv 2))), ?_⟩
    refine ⟨_, rfl, _, rfl, a, C, rfl, T, hl, .inl ⟨ha, fun dx n ne => ?_⟩⟩
    refine ⟨_, rfl, _, rfl, a, C, rfl, T, hrt, .inr ⟨dx, _, upd_same, ?_, by show 1 ≤ 900; decide, k dx n ne⟩⟩
    rw [upd_ne ne, upd_same]
end
/-! ### what the top has written, and the end -/
theorem all_mk {l : PySem.W.OpenLaw} {w : World} {K : PySem.W.Frag} {h : Heap} {mg : Str → Option Value} {fa : Addr} {fW fIB fBt fWr fPl fPP fNm fE fEU fET fEG fEO fQ fHas fLen fGl fAo fPA fPK fPB fKn fCL fCR fCK fWA fWK fLg fTb fB fT fL fR fCm fN fZ C CF CI CU CT CG CO pL : Addr} (X : K.In h) (G : h.Ns mainGlobals mg) (hfa : mg "law" = some (.ref fa))
    {odW anW odIB anIB odBt anBt odWr anWr odPl anPl odPP anPP odNm anNm odE anE odEU anEU odET anET odEG anEG odEO anEO odQ anQ odHas anHas odLen anLen odGl anGl odAo anAo odPA anPA odPK anPK odPB anPB odKn anKn odCL anCL odCR anCR odCK anCK odWA anWA odWK anWK odLg anLg odTb anTb odB anB odT anT odL anL odR anR odCm anCm odN anN odZ anZ : Option Addr} {slW slIB slBt slWr slPl slPP slNm slE slEU slET slEG slEO slQ slHas slLen slGl slAo slPA slPK slPB slKn slCL slCR slCK slWA slWK slLg slTb slB slT slL slR slCm slN slZ : Array (Option Value)} {ocW kVW dcW pmW cdW ctW ocIB kVIB dcIB pmIB cdIB ctIB ocBt kVBt dcBt pmBt cdBt ctBt ocWr kVWr dcWr pmWr cdWr ctWr ocPl kVPl dcPl pmPl cdPl ctPl ocPP kVPP dcPP pmPP cdPP ctPP ocNm kVNm dcNm pmNm cdNm ctNm ocE kVE dcE pmE cdE ctE ocEU kVEU dcEU pmEU cdEU ctEU ocET kVET dcET pmET cdET ctET ocEG kVEG dcEG pmEG cdEG ctEG ocEO kVEO dcEO pmEO cdEO ctEO ocQ dcQ pmQ cdQ ctQ ocHas kVHas dcHas pmHas cdHas ctHas ocLen kVLen dcLen pmLen cdLen ctLen ocGl kVGl dcGl pmGl cdGl ctGl ocAo kVAo dcAo pmAo cdAo ctAo ocPA kVPA dcPA pmPA cdPA ctPA ocPK kVPK dcPK pmPK cdPK ctPK ocPB kVPB dcPB pmPB cdPB ctPB ocKn kVKn dcKn pmKn cdKn ctKn ocCL kVCL dcCL pmCL cdCL ctCL ocCR kVCR dcCR pmCR cdCR ctCR ocCK kVCK dcCK pmCK cdCK ctCK ocWA kVWA dcWA pmWA cdWA ctWA ocWK kVWK dcWK pmWK cdWK ctWK ocLg kVLg dcLg pmLg cdLg ctLg ocTb kVTb dcTb pmTb cdTb ctTb ocB kVB dcB pmB cdB ctB ocT kVT dcT pmT cdT ctT ocL kVL dcL pmL cdL ctL ocR kVR dcR pmR cdR ctR ocCm kVCm dcCm pmCm cdCm ctCm ocN kVN dcN pmN cdN ctN ocZ kVZ dcZ pmZ cdZ ctZ : Value} {DQ : Addr} {dclQ : Value} {dddQ : Option Addr} {dnnQ : Nat} {dslQ : Array (Option Value)}  {xnmI xqI : Str} {xNI : Addr} {xbsI : List Value} {xsnI : List Str} {xsubI : List Value} {xabI : Bool} {xcolI : Option Bool} {xddI : Option Addr} {xm0I xm1I xm2I xm3I xm5I : Option Value} {xnmU xqU : Str} {xNU : Addr} {xbsU : List Value} {xsnU : List Str} {xsubU : List Value} {xabU : Bool} {xcolU : Option Bool} {xddU : Option Addr} {xm0U xm1U xm2U xm3U xm5U : Option Value} {xnmT xqT : Str} {xNT : Addr} {xbsT : List Value} {xsnT : List Str} {xsubT : List Value} {xabT : Bool} {xcolT : Option Bool} {xddT : Option Addr} {xm0T xm1T xm2T xm3T xm5T : Option Value} {xnmG xqG : Str} {xNG : Addr} {xbsG : List Value} {xsnG : List Str} {xsubG : List Value} {xabG : Bool} {xcolG : Option Bool} {xddG : Option Addr} {xm0G xm1G xm2G xm3G xm5G : Option Value} {xnmO xqO : Str} {xNO : Addr} {xbsO : List Value} {xsnO : List Str} {xsubO : List Value} {xabO : Bool} {xcolO : Option Bool} {xddO : Option Addr} {xm0O xm1O xm2O xm3O xm5O : Option Value} {KQ : Addr} {tKQ tBl tAd tUn tLi t6 : Tok} {restL : List Value}
    (aC : PySem.W.nsIn K mainGlobals "Font" = some (some (.ref C)))
    (aCF : PySem.W.nsIn K mainGlobals "FontError" = some (some (.ref CF)))
    (aCI : PySem.W.nsIn K mainGlobals "InvalidNumber" = some (some (.ref CI)))
    (aCU : PySem.W.nsIn K mainGlobals "UnknownGlyph" = some (some (.ref CU)))
    (aCT : PySem.W.nsIn K mainGlobals "TooMany" = some (some (.ref CT)))
    (aCG : PySem.W.nsIn K mainGlobals "InvalidGlyph" = some (some (.ref CG)))
    (aCO : PySem.W.nsIn K mainGlobals "Overlap" = some (some (.ref CO)))
    (aW : PySem.W.nsIn K mainGlobals "is_whole" = some (some (.ref fW)))
    (lW : K.lookup fW = some ⟨ocW, odW, .func (PySem.W.fnOf "is_whole" "is_whole" (defArgs sWhole) (defBody sWhole) (defScope sWhole) .none kVW dcW pmW anW cdW ctW), slW⟩)
    (cW : PySem.W.codeIn K cdW "is_whole" = true)
    (kW : PySem.W.keepIn K (.ref fW) = true)
    (aIB : PySem.W.nsIn K mainGlobals "is_between" = some (some (.ref fIB)))
    (lIB : K.lookup fIB = some ⟨ocIB, odIB, .func (PySem.W.fnOf "is_between" "is_between" (defArgs sIsB) (defBody sIsB) (defScope sIsB) .none kVIB dcIB pmIB anIB cdIB ctIB), slIB⟩)
    (cIB : PySem.W.codeIn K cdIB "is_between" = true)
    (kIB : PySem.W.keepIn K (.ref fIB) = true)
    (aBt : PySem.W.nsIn K mainGlobals "check_between" = some (some (.ref fBt)))
    (lBt : K.lookup fBt = some ⟨ocBt, odBt, .func (PySem.W.fnOf "check_between" "check_between" (defArgs sBetween) (defBody sBetween) (defScope sBetween) .none kVBt dcBt pmBt anBt cdBt ctBt), slBt⟩)
    (cBt : PySem.W.codeIn K cdBt "check_between" = true)
    (kBt : PySem.W.keepIn K (.ref fBt) = true)
    (aWr : PySem.W.nsIn K mainGlobals "write" = some (some (.ref fWr)))
    (lWr : K.lookup fWr = some ⟨ocWr, odWr, .func (PySem.W.fnOf "write" "write" (defArgs sWrite) (defBody sWrite) (defScope sWrite) .none kVWr dcWr pmWr anWr cdWr ctWr), slWr⟩)
    (cWr : PySem.W.codeIn K cdWr "write" = true)
    (kWr : PySem.W.keepIn K (.ref fWr) = true)
    (aPl : PySem.W.nsIn K mainGlobals "font_place" = some (some (.ref fPl)))
    (lPl : K.lookup fPl = some ⟨ocPl, odPl, .func (PySem.W.fnOf "font_place" "font_place" (defArgs sPlace) (defBody sPlace) (defScope sPlace) .none kVPl dcPl pmPl anPl cdPl ctPl), slPl⟩)
    (cPl : PySem.W.codeIn K cdPl "font_place" = true)
    (kPl : PySem.W.keepIn K (.ref fPl) = true)
    (aPP : PySem.W.nsIn K mainGlobals "pair_place" = some (some (.ref fPP)))
    (lPP : K.lookup fPP = some ⟨ocPP, odPP, .func (PySem.W.fnOf "pair_place" "pair_place" (defArgs sPair) (defBody sPair) (defScope sPair) .none kVPP dcPP pmPP anPP cdPP ctPP), slPP⟩)
    (cPP : PySem.W.codeIn K cdPP "pair_place" = true)
    (kPP : PySem.W.keepIn K (.ref fPP) = true)
    (aNm : PySem.W.nsIn K mainGlobals "is_glyph_name" = some (some (.ref fNm)))
    (lNm : K.lookup fNm = some ⟨ocNm, odNm, .func (PySem.W.fnOf "is_glyph_name" "is_glyph_name" (defArgs sName) (defBody sName) (defScope sName) .none kVNm dcNm pmNm anNm cdNm ctNm), slNm⟩)
    (cNm : PySem.W.codeIn K cdNm "is_glyph_name" = true)
    (kNm : PySem.W.keepIn K (.ref fNm) = true)
    (aE : PySem.W.findIn K (.ref CI) "__init__" = some (some (.ref fE)))
    (tE : PySem.W.typeIn K (.ref fE) = some (.type "function"))
    (lE : K.lookup fE = some ⟨ocE, odE, .func (PySem.W.fnOf "__init__" "InvalidNumber.__init__" (defArgs sEI) (defBody sEI) (defScope sEI) .none kVE dcE pmE anE cdE ctE), slE⟩)
    (cE : PySem.W.codeIn K cdE "InvalidNumber.__init__" = true)
    (kE : PySem.W.keepIn K (.ref fE) = true)
    (aEU : PySem.W.findIn K (.ref CU) "__init__" = some (some (.ref fEU)))
    (tEU : PySem.W.typeIn K (.ref fEU) = some (.type "function"))
    (lEU : K.lookup fEU = some ⟨ocEU, odEU, .func (PySem.W.fnOf "__init__" "UnknownGlyph.__init__" (defArgs sEU) (defBody sEU) (defScope sEU) .none kVEU dcEU pmEU anEU cdEU ctEU), slEU⟩)
    (cEU : PySem.W.codeIn K cdEU "UnknownGlyph.__init__" = true)
    (kEU : PySem.W.keepIn K (.ref fEU) = true)
    (aET : PySem.W.findIn K (.ref CT) "__init__" = some (some (.ref fET)))
    (tET : PySem.W.typeIn K (.ref fET) = some (.type "function"))
    (lET : K.lookup fET = some ⟨ocET, odET, .func (PySem.W.fnOf "__init__" "TooMany.__init__" (defArgs sET) (defBody sET) (defScope sET) .none kVET dcET pmET anET cdET ctET), slET⟩)
    (cET : PySem.W.codeIn K cdET "TooMany.__init__" = true)
    (kET : PySem.W.keepIn K (.ref fET) = true)
    (aEG : PySem.W.findIn K (.ref CG) "__init__" = some (some (.ref fEG)))
    (tEG : PySem.W.typeIn K (.ref fEG) = some (.type "function"))
    (lEG : K.lookup fEG = some ⟨ocEG, odEG, .func (PySem.W.fnOf "__init__" "InvalidGlyph.__init__" (defArgs sEG) (defBody sEG) (defScope sEG) .none kVEG dcEG pmEG anEG cdEG ctEG), slEG⟩)
    (cEG : PySem.W.codeIn K cdEG "InvalidGlyph.__init__" = true)
    (kEG : PySem.W.keepIn K (.ref fEG) = true)
    (aEO : PySem.W.findIn K (.ref CO) "__init__" = some (some (.ref fEO)))
    (tEO : PySem.W.typeIn K (.ref fEO) = some (.type "function"))
    (lEO : K.lookup fEO = some ⟨ocEO, odEO, .func (PySem.W.fnOf "__init__" "Overlap.__init__" (defArgs sEO) (defBody sEO) (defScope sEO) .none kVEO dcEO pmEO anEO cdEO ctEO), slEO⟩)
    (cEO : PySem.W.codeIn K cdEO "Overlap.__init__" = true)
    (kEO : PySem.W.keepIn K (.ref fEO) = true)
    (aQ : PySem.W.findIn K (.ref C) "__init__" = some (some (.ref fQ)))
    (iQ : PySem.W.isFn K (.ref fQ) = true)
    (lQ : K.lookup fQ = some ⟨ocQ, odQ, .func (PySem.W.fnOf "__init__" "Font.__init__" (defArgs sInit) (defBody sInit) (defScope sInit) (.ref DQ) (.ref KQ) dcQ pmQ anQ cdQ ctQ), slQ⟩)
    (cQ : PySem.W.codeIn K cdQ "Font.__init__" = true)
    (kQ : PySem.W.keepIn K (.ref fQ) = true)
    (dQ : K.lookup DQ = some ⟨dclQ, dddQ, .seq #[.none] dnnQ, dslQ⟩)
    (aHas : PySem.W.findIn K (.ref C) "__contains__" = some (some (.ref fHas)))
    (iHas : PySem.W.isFn K (.ref fHas) = true)
    (lHas : K.lookup fHas = some ⟨ocHas, odHas, .func (PySem.W.fnOf "__contains__" "Font.__contains__" (defArgs sHas) (defBody sHas) (defScope sHas) .none kVHas dcHas pmHas anHas cdHas ctHas), slHas⟩)
    (cHas : PySem.W.codeIn K cdHas "Font.__contains__" = true)
    (kHas : PySem.W.keepIn K (.ref fHas) = true)
    (aLen : PySem.W.findIn K (.ref C) "__len__" = some (some (.ref fLen)))
    (iLen : PySem.W.isFn K (.ref fLen) = true)
    (lLen : K.lookup fLen = some ⟨ocLen, odLen, .func (PySem.W.fnOf "__len__" "Font.__len__" (defArgs sLen) (defBody sLen) (defScope sLen) .none kVLen dcLen pmLen anLen cdLen ctLen), slLen⟩)
    (cLen : PySem.W.codeIn K cdLen "Font.__len__" = true)
    (kLen : PySem.W.keepIn K (.ref fLen) = true)
    (aGl : PySem.W.findIn K (.ref C) "glyphs" = some (some (.ref fGl)))
    (iGl : PySem.W.isFn K (.ref fGl) = true)
    (lGl : K.lookup fGl = some ⟨ocGl, odGl, .func (PySem.W.fnOf "glyphs" "Font.glyphs" (defArgs sGlyphs) (defBody sGlyphs) (defScope sGlyphs) .none kVGl dcGl pmGl anGl cdGl ctGl), slGl⟩)
    (cGl : PySem.W.codeIn K cdGl "Font.glyphs" = true)
    (kGl : PySem.W.keepIn K (.ref fGl) = true)
    (aAo : PySem.W.findIn K (.ref C) "advance_of" = some (some (.ref fAo)))
    (iAo : PySem.W.isFn K (.ref fAo) = true)
    (lAo : K.lookup fAo = some ⟨ocAo, odAo, .func (PySem.W.fnOf "advance_of" "Font.advance_of" (defArgs sAdvOf) (defBody sAdvOf) (defScope sAdvOf) .none kVAo dcAo pmAo anAo cdAo ctAo), slAo⟩)
    (cAo : PySem.W.codeIn K cdAo "Font.advance_of" = true)
    (kAo : PySem.W.keepIn K (.ref fAo) = true)
    (aPA : PySem.W.findIn K (.ref C) "_put_advance" = some (some (.ref fPA)))
    (iPA : PySem.W.isFn K (.ref fPA) = true)
    (lPA : K.lookup fPA = some ⟨ocPA, odPA, .func (PySem.W.fnOf "_put_advance" "Font._put_advance" (defArgs sPutA) (defBody sPutA) (defScope sPutA) .none kVPA dcPA pmPA anPA cdPA ctPA), slPA⟩)
    (cPA : PySem.W.codeIn K cdPA "Font._put_advance" = true)
    (kPA : PySem.W.keepIn K (.ref fPA) = true)
    (aPK : PySem.W.findIn K (.ref C) "_put_kern" = some (some (.ref fPK)))
    (iPK : PySem.W.isFn K (.ref fPK) = true)
    (lPK : K.lookup fPK = some ⟨ocPK, odPK, .func (PySem.W.fnOf "_put_kern" "Font._put_kern" (defArgs sPutK) (defBody sPutK) (defScope sPutK) .none kVPK dcPK pmPK anPK cdPK ctPK), slPK⟩)
    (cPK : PySem.W.codeIn K cdPK "Font._put_kern" = true)
    (kPK : PySem.W.keepIn K (.ref fPK) = true)
    (aPB : PySem.W.findIn K (.ref C) "_put_blank" = some (some (.ref fPB)))
    (iPB : PySem.W.isFn K (.ref fPB) = true)
    (lPB : K.lookup fPB = some ⟨ocPB, odPB, .func (PySem.W.fnOf "_put_blank" "Font._put_blank" (defArgs sPutB) (defBody sPutB) (defScope sPutB) .none kVPB dcPB pmPB anPB cdPB ctPB), slPB⟩)
    (cPB : PySem.W.codeIn K cdPB "Font._put_blank" = true)
    (kPB : PySem.W.keepIn K (.ref fPB) = true)
    (aKn : PySem.W.findIn K (.ref C) "_check_known" = some (some (.ref fKn)))
    (iKn : PySem.W.isFn K (.ref fKn) = true)
    (lKn : K.lookup fKn = some ⟨ocKn, odKn, .func (PySem.W.fnOf "_check_known" "Font._check_known" (defArgs sKnown) (defBody sKnown) (defScope sKnown) .none kVKn dcKn pmKn anKn cdKn ctKn), slKn⟩)
    (cKn : PySem.W.codeIn K cdKn "Font._check_known" = true)
    (kKn : PySem.W.keepIn K (.ref fKn) = true)
    (aCL : PySem.W.findIn K (.ref C) "_check_letters" = some (some (.ref fCL)))
    (iCL : PySem.W.isFn K (.ref fCL) = true)
    (lCL : K.lookup fCL = some ⟨ocCL, odCL, .func (PySem.W.fnOf "_check_letters" "Font._check_letters" (defArgs sLetters) (defBody sLetters) (defScope sLetters) .none kVCL dcCL pmCL anCL cdCL ctCL), slCL⟩)
    (cCL : PySem.W.codeIn K cdCL "Font._check_letters" = true)
    (kCL : PySem.W.keepIn K (.ref fCL) = true)
    (aCR : PySem.W.findIn K (.ref C) "_check_room" = some (some (.ref fCR)))
    (iCR : PySem.W.isFn K (.ref fCR) = true)
    (lCR : K.lookup fCR = some ⟨ocCR, odCR, .func (PySem.W.fnOf "_check_room" "Font._check_room" (defArgs sRoom) (defBody sRoom) (defScope sRoom) .none kVCR dcCR pmCR anCR cdCR ctCR), slCR⟩)
    (cCR : PySem.W.codeIn K cdCR "Font._check_room" = true)
    (kCR : PySem.W.keepIn K (.ref fCR) = true)
    (aCK : PySem.W.findIn K (.ref C) "_check_kerns" = some (some (.ref fCK)))
    (iCK : PySem.W.isFn K (.ref fCK) = true)
    (lCK : K.lookup fCK = some ⟨ocCK, odCK, .func (PySem.W.fnOf "_check_kerns" "Font._check_kerns" (defArgs sKOk) (defBody sKOk) (defScope sKOk) .none kVCK dcCK pmCK anCK cdCK ctCK), slCK⟩)
    (cCK : PySem.W.codeIn K cdCK "Font._check_kerns" = true)
    (kCK : PySem.W.keepIn K (.ref fCK) = true)
    (aWA : PySem.W.findIn K (.ref C) "_write_advance" = some (some (.ref fWA)))
    (iWA : PySem.W.isFn K (.ref fWA) = true)
    (lWA : K.lookup fWA = some ⟨ocWA, odWA, .func (PySem.W.fnOf "_write_advance" "Font._write_advance" (defArgs sWrA) (defBody sWrA) (defScope sWrA) .none kVWA dcWA pmWA anWA cdWA ctWA), slWA⟩)
    (cWA : PySem.W.codeIn K cdWA "Font._write_advance" = true)
    (kWA : PySem.W.keepIn K (.ref fWA) = true)
    (aWK : PySem.W.findIn K (.ref C) "_write_kern" = some (some (.ref fWK)))
    (iWK : PySem.W.isFn K (.ref fWK) = true)
    (lWK : K.lookup fWK = some ⟨ocWK, odWK, .func (PySem.W.fnOf "_write_kern" "Font._write_kern" (defArgs sWrK) (defBody sWrK) (defScope sWrK) .none kVWK dcWK pmWK anWK cdWK ctWK), slWK⟩)
    (cWK : PySem.W.codeIn K cdWK "Font._write_kern" = true)
    (kWK : PySem.W.keepIn K (.ref fWK) = true)
    (pLa : PySem.W.findIn K (.ref C) "ligatures" = some (some (.ref pL)))
    (pLg : PySem.W.specialIn K (.ref pL) "__get__" = some (some (.builtin "property.__get__")))
    (pLt : PySem.W.takesIn K (.ref pL) = some true)
    (pLr : PySem.W.recIn K pL "property" = some (.ref fLg :: restL))
    (lLg : K.lookup fLg = some ⟨ocLg, odLg, .func (PySem.W.fnOf "ligatures" "Font.ligatures" (defArgs sLigs) (defBody sLigs) (defScope sLigs) .none kVLg dcLg pmLg anLg cdLg ctLg), slLg⟩)
    (cLg : PySem.W.codeIn K cdLg "Font.ligatures" = true)
    (kLg : PySem.W.keepIn K (.ref fLg) = true)
    (aTb : PySem.W.nsIn K mainGlobals "width_table" = some (some (.ref fTb)))
    (lTb : K.lookup fTb = some ⟨ocTb, odTb, .func (PySem.W.fnOf "width_table" "width_table" (defArgs sTable) (defBody sTable) (defScope sTable) .none kVTb dcTb pmTb anTb cdTb ctTb), slTb⟩)
    (cTb : PySem.W.codeIn K cdTb "width_table" = true)
    (kTb : PySem.W.keepIn K (.ref fTb) = true)
    (aB : PySem.W.nsIn K mainGlobals "_law_bag" = some (some (.ref fB)))
    (lB : K.lookup fB = some ⟨ocB, odB, .func (PySem.W.fnOf "_law_bag" "_law_bag" (defArgs sBag) (defBody sBag) (defScope sBag) .none kVB dcB pmB anB cdB ctB), slB⟩)
    (cB : PySem.W.codeIn K cdB "_law_bag" = true)
    (kB : PySem.W.keepIn K (.ref fB) = true)
    (aT : PySem.W.nsIn K mainGlobals "_law_take" = some (some (.ref fT)))
    (lT : K.lookup fT = some ⟨ocT, odT, .func (PySem.W.fnOf "_law_take" "_law_take" (defArgs sTake) (defBody sTake) (defScope sTake) .none kVT dcT pmT anT cdT ctT), slT⟩)
    (cT : PySem.W.codeIn K cdT "_law_take" = true)
    (kT : PySem.W.keepIn K (.ref fT) = true)
    (aL : PySem.W.nsIn K mainGlobals "_law_letters" = some (some (.ref fL)))
    (lL : K.lookup fL = some ⟨ocL, odL, .func (PySem.W.fnOf "_law_letters" "_law_letters" (defArgs sLet) (defBody sLet) (defScope sLet) .none kVL dcL pmL anL cdL ctL), slL⟩)
    (cL : PySem.W.codeIn K cdL "_law_letters" = true)
    (kL : PySem.W.keepIn K (.ref fL) = true)
    (aR : PySem.W.nsIn K mainGlobals "_law_row" = some (some (.ref fR)))
    (lR : K.lookup fR = some ⟨ocR, odR, .func (PySem.W.fnOf "_law_row" "_law_row" (defArgs sRow) (defBody sRow) (defScope sRow) .none kVR dcR pmR anR cdR ctR), slR⟩)
    (cR : PySem.W.codeIn K cdR "_law_row" = true)
    (kR : PySem.W.keepIn K (.ref fR) = true)
    (aCm : PySem.W.nsIn K mainGlobals "_law_commas" = some (some (.ref fCm)))
    (lCm : K.lookup fCm = some ⟨ocCm, odCm, .func (PySem.W.fnOf "_law_commas" "_law_commas" (defArgs sCommas) (defBody sCommas) (defScope sCommas) .none kVCm dcCm pmCm anCm cdCm ctCm), slCm⟩)
    (cCm : PySem.W.codeIn K cdCm "_law_commas" = true)
    (kCm : PySem.W.keepIn K (.ref fCm) = true)
    (aN : PySem.W.nsIn K mainGlobals "_law_line" = some (some (.ref fN)))
    (lN : K.lookup fN = some ⟨ocN, odN, .func (PySem.W.fnOf "_law_line" "_law_line" (defArgs sLine) (defBody sLine) (defScope sLine) .none kVN dcN pmN anN cdN ctN), slN⟩)
    (cN : PySem.W.codeIn K cdN "_law_line" = true)
    (kN : PySem.W.keepIn K (.ref fN) = true)
    (aZ : PySem.W.nsIn K mainGlobals "law" = some (some (.ref fZ)))
    (lZ : K.lookup fZ = some ⟨ocZ, odZ, .func (PySem.W.fnOf "law" "law" (defArgs sLaw) (defBody sLaw) (defScope sLaw) .none kVZ dcZ pmZ anZ cdZ ctZ), slZ⟩)
    (cZ : PySem.W.codeIn K cdZ "law" = true)
    (kZ : PySem.W.keepIn K (.ref fZ) = true)
    (xCI : K.lookup CI = some (excClassObj xnmI xqI CI xNI xbsI [.ref CF, .type "ValueError", .type "Exception", .type "BaseException", .type "object"] true xsnI xsubI xabI xcolI xddI xm0I xm1I xm2I xm3I xm5I "ValueError.__new__"))
    (saI : PySem.W.findIn K (.ref CI) "__setattr__" = some (some (.builtin "object.__setattr__")))
    (exI : PySem.W.subIn K (.ref CI) (.type "BaseException") = some true)
    (tyI : PySem.W.typeIn K (.ref CI) = some (.type "type"))
    (kpI : PySem.W.keepIn K (.ref CI) = true)
    (noIvalue : PySem.W.findIn K (.ref CI) "value" = some none)
    (xCU : K.lookup CU = some (excClassObj xnmU xqU CU xNU xbsU [.ref CF, .type "ValueError", .type "Exception", .type "BaseException", .type "object"] true xsnU xsubU xabU xcolU xddU xm0U xm1U xm2U xm3U xm5U "ValueError.__new__"))
    (saU : PySem.W.findIn K (.ref CU) "__setattr__" = some (some (.builtin "object.__setattr__")))
    (exU : PySem.W.subIn K (.ref CU) (.type "BaseException") = some true)
    (tyU : PySem.W.typeIn K (.ref CU) = some (.type "type"))
    (kpU : PySem.W.keepIn K (.ref CU) = true)
    (noUglyph : PySem.W.findIn K (.ref CU) "glyph" = some none)
    (xCT : K.lookup CT = some (excClassObj xnmT xqT CT xNT xbsT [.ref CF, .type "ValueError", .type "Exception", .type "BaseException", .type "object"] true xsnT xsubT xabT xcolT xddT xm0T xm1T xm2T xm3T xm5T "ValueError.__new__"))
    (saT : PySem.W.findIn K (.ref CT) "__setattr__" = some (some (.builtin "object.__setattr__")))
    (exT : PySem.W.subIn K (.ref CT) (.type "BaseException") = some true)
    (tyT : PySem.W.typeIn K (.ref CT) = some (.type "type"))
    (kpT : PySem.W.keepIn K (.ref CT) = true)
    (noTlimit : PySem.W.findIn K (.ref CT) "limit" = some none)
    (xCG : K.lookup CG = some (excClassObj xnmG xqG CG xNG xbsG [.ref CF, .type "ValueError", .type "Exception", .type "BaseException", .type "object"] true xsnG xsubG xabG xcolG xddG xm0G xm1G xm2G xm3G xm5G "ValueError.__new__"))
    (saG : PySem.W.findIn K (.ref CG) "__setattr__" = some (some (.builtin "object.__setattr__")))
    (exG : PySem.W.subIn K (.ref CG) (.type "BaseException") = some true)
    (tyG : PySem.W.typeIn K (.ref CG) = some (.type "type"))
    (kpG : PySem.W.keepIn K (.ref CG) = true)
    (noGglyph : PySem.W.findIn K (.ref CG) "glyph" = some none)
    (xCO : K.lookup CO = some (excClassObj xnmO xqO CO xNO xbsO [.ref CF, .type "ValueError", .type "Exception", .type "BaseException", .type "object"] true xsnO xsubO xabO xcolO xddO xm0O xm1O xm2O xm3O xm5O "ValueError.__new__"))
    (saO : PySem.W.findIn K (.ref CO) "__setattr__" = some (some (.builtin "object.__setattr__")))
    (exO : PySem.W.subIn K (.ref CO) (.type "BaseException") = some true)
    (tyO : PySem.W.typeIn K (.ref CO) = some (.type "type"))
    (kpO : PySem.W.keepIn K (.ref CO) = true)
    (noOleft : PySem.W.findIn K (.ref CO) "left" = some none)
    (noOright : PySem.W.findIn K (.ref CO) "right" = some none)
    (kdQ : PySem.W.nsIn K KQ "blank" = some (some (.int 250 tKQ)))
    (aBl : PySem.W.nsIn K mainGlobals "BLANK" = some (some (.int 250 tBl)))
    (pg : PySem.W.plainGet K C Str.empty = true)
    (hd : PySem.W.hasDictIn K C = true)
    (po : PySem.W.plainOver K C = true)
    (sa : PySem.W.findIn K (.ref C) "__setattr__" = some (some (.builtin "object.__setattr__")))
    (mk : PySem.W.makesIn K C = true)
    (kc : PySem.W.keepIn K (.ref C) = true)
    (nA : PySem.W.findIn K (.ref C) "_advances" = some none)
    (nN : PySem.W.findIn K (.ref C) "_kerns" = some none)
    (nB : PySem.W.findIn K (.ref C) "_blank" = some none)
    (nP : PySem.W.findIn K (.ref C) "_past" = some none)
    (cAd : PySem.W.findIn K (.ref C) "MOST_ADVANCE" = some (some (.int 1000000 tAd)))
    (gAd : PySem.W.specialIn K (.int 1000000 tAd) "__get__" = some none)
    (cUn : PySem.W.findIn K (.ref C) "MOST_UNDO" = some (some (.int 50 tUn)))
    (gUn : PySem.W.specialIn K (.int 50 tUn) "__get__" = some none)
    (cLi : PySem.W.findIn K (.ref C) "MOST_LIGATURES" = some (some (.int 40 tLi)))
    (gLi : PySem.W.specialIn K (.int 40 tLi) "__get__" = some none)
    (crd : PySem.W.readsIn K C (.type "type") = true)
    (cga : PySem.W.specialIn K (.ref C) "__getattribute__" = some (some (.builtin "type.__getattribute__")))
    (c6 : PySem.W.findCls K (.ref C) (.type "type") "MOST_LETTERS" = some (.val (.int 6 t6)))
    (z_isinstance : PySem.W.nsIn K mainGlobals "isinstance" = some none)
    (z_int : PySem.W.nsIn K mainGlobals "int" = some none)
    (z_bool : PySem.W.nsIn K mainGlobals "bool" = some none)
    (z_len : PySem.W.nsIn K mainGlobals "len" = some none)
    (z_list : PySem.W.nsIn K mainGlobals "list" = some none)
    (z_range : PySem.W.nsIn K mainGlobals "range" = some none)
    (z_sorted : PySem.W.nsIn K mainGlobals "sorted" = some none)
    (z_str : PySem.W.nsIn K mainGlobals "str" = some none)
    (z_dict : PySem.W.nsIn K mainGlobals "dict" = some none) :
    ∃ fd : FuncData, (∀ (s : Shared) (v : Value), BindsTo s fd ⟨[v], []⟩ [("_law_script", v)]) ∧ ∀ base : Heap, K.In base → base.Ns mainGlobals mg → FnOk l.prog w K mg base CX0 9 fa fd ["_law_script"] (spLaw K) := by
  have e := hfa.symm.trans (PySem.W.mg_of X G aZ)
  cases e
  have FW := fun_mk (st := sWhole) lW cW kW
  have bW := FW.binds (ps := ["value"]) fun _ _ _ _ _ _ us hl => match us, hl with | [_], _ => rfl
  have FIB := fun_mk (st := sIsB) lIB cIB kIB
  have bIB := FIB.binds (ps := ["value", "low", "high"]) fun _ _ _ _ _ _ us hl => match us, hl with | [_, _, _], _ => rfl
  have FBt := fun_mk (st := sBetween) lBt cBt kBt
  have bBt := FBt.binds (ps := ["value", "low", "high"]) fun _ _ _ _ _ _ us hl => match us, hl with | [_, _, _], _ => rfl
  have FWr := fun_mk (st := sWrite) lWr cWr kWr
  have bWr := FWr.binds (ps := ["table", "key", "value"]) fun _ _ _ _ _ _ us hl => match us, hl with | [_, _, _], _ => rfl
  have FPl := fun_mk (st := sPlace) lPl cPl kPl
  have bPl := FPl.binds (ps := ["glyph"]) fun _ _ _ _ _ _ us hl => match us, hl with | [_], _ => rfl
  have FPP := fun_mk (st := sPair) lPP cPP kPP
  have bPP := FPP.binds (ps := ["pair"]) fun _ _ _ _ _ _ us hl => match us, hl with | [_], _ => rfl
  have FNm := fun_mk (st := sName) lNm cNm kNm
  have bNm := FNm.binds (ps := ["value"]) fun _ _ _ _ _ _ us hl => match us, hl with | [_], _ => rfl
  have FE := fun_mk (st := sEI) lE cE kE
  have bE := FE.binds (ps := ["self", "value"]) fun _ _ _ _ _ _ us hl => match us, hl with | [_, _], _ => rfl
  have FEU := fun_mk (st := sEU) lEU cEU kEU
  have bEU := FEU.binds (ps := ["self", "glyph"]) fun _ _ _ _ _ _ us hl => match us, hl with | [_, _], _ => rfl
  have FET := fun_mk (st := sET) lET cET kET
  have bET := FET.binds (ps := ["self", "limit"]) fun _ _ _ _ _ _ us hl => match us, hl with | [_, _], _ => rfl
  have FEG := fun_mk (st := sEG) lEG cEG kEG
  have bEG := FEG.binds (ps := ["self", "glyph"]) fun _ _ _ _ _ _ us hl => match us, hl with | [_, _], _ => rfl
  have FEO := fun_mk (st := sEO) lEO cEO kEO
  have bEO := FEO.binds (ps := ["self", "left", "right"]) fun _ _ _ _ _ _ us hl => match us, hl with | [_, _, _], _ => rfl
  have FQ : FunD K "__init__" "Font.__init__" (defArgs sInit) (defBody sInit) (defScope sInit) [.non] [("blank", .int 250)] fQ _ := ⟨⟨ocQ, odQ, _, _, dcQ, pmQ, anQ, cdQ, ctQ, slQ, rfl, lQ, cQ, .inr ⟨by simp, DQ, _, [.none], dnnQ, rfl, dQ, rfl, .cons rfl .nil⟩, .inr ⟨KQ, rfl, fun q hq => by
    rw [List.mem_singleton.mp hq]
    exact ⟨_, kdQ, ⟨tKQ, rfl⟩⟩⟩⟩, kQ⟩
  obtain ⟨dsQ, vQ, bQ⟩ := FQ.binds (ps := ["self", "advances", "kerns", "blank"]) 2 0 (by simp) rfl (fun T D doc pm an cdv ct us its ks h1 h2 h3 => match us, its, ks, h1, h2, h3 with | [_, _], [_], [_], _, _, _ => ⟨_, rfl, ⟨_, _, _, _, _, _, rfl, rfl, rfl⟩⟩) (by simp)
  have FHas := fun_mk (st := sHas) lHas cHas kHas
  have bHas := FHas.binds (ps := ["self", "x"]) fun _ _ _ _ _ _ us hl => match us, hl with | [_, _], _ => rfl
  have FLen := fun_mk (st := sLen) lLen cLen kLen
  have bLen := FLen.binds (ps := ["self"]) fun _ _ _ _ _ _ us hl => match us, hl with | [_], _ => rfl
  have FGl := fun_mk (st := sGlyphs) lGl cGl kGl
  have bGl := FGl.binds (ps := ["self"]) fun _ _ _ _ _ _ us hl => match us, hl with | [_], _ => rfl
  have FAo := fun_mk (st := sAdvOf) lAo cAo kAo
  have bAo := FAo.binds (ps := ["self", "glyph"]) fun _ _ _ _ _ _ us hl => match us, hl with | [_, _], _ => rfl
  have FPA := fun_mk (st := sPutA) lPA cPA kPA
  have bPA := FPA.binds (ps := ["self", "glyph", "advance"]) fun _ _ _ _ _ _ us hl => match us, hl with | [_, _, _], _ => rfl
  have FPK := fun_mk (st := sPutK) lPK cPK kPK
  have bPK := FPK.binds (ps := ["self", "left", "right", "kern"]) fun _ _ _ _ _ _ us hl => match us, hl with | [_, _, _, _], _ => rfl
  have FPB := fun_mk (st := sPutB) lPB cPB kPB
  have bPB := FPB.binds (ps := ["self", "advance"]) fun _ _ _ _ _ _ us hl => match us, hl with | [_, _], _ => rfl
  have FKn := fun_mk (st := sKnown) lKn cKn kKn
  have bKn := FKn.binds (ps := ["self", "glyph"]) fun _ _ _ _ _ _ us hl => match us, hl with | [_, _], _ => rfl
  have FCL := fun_mk (st := sLetters) lCL cCL kCL
  have bCL := FCL.binds (ps := ["self", "glyph"]) fun _ _ _ _ _ _ us hl => match us, hl with | [_, _], _ => rfl
  have FCR := fun_mk (st := sRoom) lCR cCR kCR
  have bCR := FCR.binds (ps := ["self", "glyph"]) fun _ _ _ _ _ _ us hl => match us, hl with | [_, _], _ => rfl
  have FCK := fun_mk (st := sKOk) lCK cCK kCK
  have bCK := FCK.binds (ps := ["self", "glyph", "advance"]) fun _ _ _ _ _ _ us hl => match us, hl with | [_, _, _], _ => rfl
  have FWA := fun_mk (st := sWrA) lWA cWA kWA
  have bWA := FWA.binds (ps := ["self", "glyph", "advance"]) fun _ _ _ _ _ _ us hl => match us, hl with | [_, _, _], _ => rfl
  have FWK := fun_mk (st := sWrK) lWK cWK kWK
  have bWK := FWK.binds (ps := ["self", "pair", "kern"]) fun _ _ _ _ _ _ us hl => match us, hl with | [_, _, _], _ => rfl
  have FLg := fun_mk (st := sLigs) lLg cLg kLg
  have bLg := FLg.binds (ps := ["self"]) fun _ _ _ _ _ _ us hl => match us, hl with | [_], _ => rfl
  have FTb := fun_mk (st := sTable) lTb cTb kTb
  have bTb := FTb.binds (ps := ["font"]) fun _ _ _ _ _ _ us hl => match us, hl with | [_], _ => rfl
  have FB := fun_mk (st := sBag) lB cB kB
  have bB := FB.binds (ps := ["_law_script"]) fun _ _ _ _ _ _ us hl => match us, hl with | [_], _ => rfl
  have FT := fun_mk (st := sTake) lT cT kT
  have bT := FT.binds (ps := ["_law_bag_here", "_law_size"]) fun _ _ _ _ _ _ us hl => match us, hl with | [_, _], _ => rfl
  have FL := fun_mk (st := sLet) lL cL kL
  have bL := FL.binds (ps := ["_law_bag_here", "_law_many"]) fun _ _ _ _ _ _ us hl => match us, hl with | [_, _], _ => rfl
  have FR := fun_mk (st := sRow) lR cR kR
  have bR := FR.binds (ps := ["_law_bag_here", "_law_letters_here", "_law_long"]) fun _ _ _ _ _ _ us hl => match us, hl with | [_, _, _], _ => rfl
  have FCm := fun_mk (st := sCommas) lCm cCm kCm
  have bCm := FCm.binds (ps := ["_law_number"]) fun _ _ _ _ _ _ us hl => match us, hl with | [_], _ => rfl
  have FN := fun_mk (st := sLine) lN cN kN
  have bN := FN.binds (ps := ["_law_glyph", "_law_number"]) fun _ _ _ _ _ _ us hl => match us, hl with | [_, _], _ => rfl
  have FZ := fun_mk (st := sLaw) lZ cZ kZ
  have TOI : OexC K CI := ⟨⟨xnmI, xqI, xNI, xbsI, _, xsnI, xsubI, xabI, xcolI, xddI, xm0I, xm1I, xm2I, xm3I, xm5I, xCI, (by show PySem.HandSPX.refsVE [.type "ValueError", .type "Exception", .type "BaseException", .type "object"] = true; decide +kernel)⟩, saI, exI, tyI, kpI⟩
  have REI : ErrC K mg "InvalidNumber" CI fE := ⟨PySem.W.mg_of X G aCI, TOI, aE, tE⟩
  have TOU : OexC K CU := ⟨⟨xnmU, xqU, xNU, xbsU, _, xsnU, xsubU, xabU, xcolU, xddU, xm0U, xm1U, xm2U, xm3U, xm5U, xCU, (by show PySem.HandSPX.refsVE [.type "ValueError", .type "Exception", .type "BaseException", .type "object"] = true; decide +kernel)⟩, saU, exU, tyU, kpU⟩
  have REU : ErrC K mg "UnknownGlyph" CU fEU := ⟨PySem.W.mg_of X G aCU, TOU, aEU, tEU⟩
  have TOT : OexC K CT := ⟨⟨xnmT, xqT, xNT, xbsT, _, xsnT, xsubT, xabT, xcolT, xddT, xm0T, xm1T, xm2T, xm3T, xm5T, xCT, (by show PySem.HandSPX.refsVE [.type "ValueError", .type "Exception", .type "BaseException", .type "object"] = true; decide +kernel)⟩, saT, exT, tyT, kpT⟩
  have RET : ErrC K mg "TooMany" CT fET := ⟨PySem.W.mg_of X G aCT, TOT, aET, tET⟩
  have TOG : OexC K CG := ⟨⟨xnmG, xqG, xNG, xbsG, _, xsnG, xsubG, xabG, xcolG, xddG, xm0G, xm1G, xm2G, xm3G, xm5G, xCG, (by show PySem.HandSPX.refsVE [.type "ValueError", .type "Exception", .type "BaseException", .type "object"] = true; decide +kernel)⟩, saG, exG, tyG, kpG⟩
  have REG : ErrC K mg "InvalidGlyph" CG fEG := ⟨PySem.W.mg_of X G aCG, TOG, aEG, tEG⟩
  have TOO : OexC K CO := ⟨⟨xnmO, xqO, xNO, xbsO, _, xsnO, xsubO, xabO, xcolO, xddO, xm0O, xm1O, xm2O, xm3O, xm5O, xCO, (by show PySem.HandSPX.refsVE [.type "ValueError", .type "Exception", .type "BaseException", .type "object"] = true; decide +kernel)⟩, saO, exO, tyO, kpO⟩
  have REO : ErrC K mg "Overlap" CO fEO := ⟨PySem.W.mg_of X G aCO, TOO, aEO, tEO⟩
  have mz : ∀ {x : Str}, PySem.W.nsIn K mainGlobals x = some none → mg x = none := fun z => PySem.W.mg_none_of X G z
  have CC : Cls K C := ⟨pg, hd, po, sa⟩
  have TF : TxF K mg C CI fE fW fBt fWr := ⟨CC, nA, nN, nB, nP, ⟨_, cAd, ⟨tAd, rfl⟩, gAd, by decide +kernel⟩, ⟨_, cUn, ⟨tUn, rfl⟩, gUn, by decide +kernel⟩, REI, ⟨PySem.W.mg_of X G aW, kW⟩, ⟨PySem.W.mg_of X G aBt, kBt⟩, ⟨PySem.W.mg_of X G aWr, kWr⟩, mz z_len⟩
  have TH : TxH K mg C fHas fLen CU fEU fPl := ⟨aHas, iHas, aLen, iLen, REU, mz z_isinstance, mz z_str, mz z_list, mz z_sorted, PySem.W.mg_of X G aPl⟩
  have FC : FontC K mg C (.type "type") := ⟨PySem.W.mg_of X G aC, ⟨crd, cga⟩, ⟨_, c6, ⟨t6, rfl⟩⟩⟩
  have hML : ∃ u, Con K C "MOST_LIGATURES" (.int 40) u := ⟨_, cLi, ⟨tLi, rfl⟩, gLi, by decide +kernel⟩
  have PLg : PropOf K C "ligatures" pL fLg := ⟨pLa, pLg, pLt, ⟨_, pLr⟩⟩
  have MQ : Mk K C fQ := ⟨mk, aQ, iQ, kc⟩
  have TL : TxL9 K mg fB fT fL fR fN fTb := ⟨⟨PySem.W.mg_of X G aB, kB⟩, ⟨PySem.W.mg_of X G aT, kT⟩, ⟨PySem.W.mg_of X G aL, kL⟩, ⟨PySem.W.mg_of X G aR, kR⟩, ⟨PySem.W.mg_of X G aN, kN⟩, ⟨PySem.W.mg_of X G aTb, kTb⟩⟩
  exact ⟨PySem.W.fnOf "law" "law" (defArgs sLaw) (defBody sLaw) (defScope sLaw) .none kVZ dcZ pmZ anZ cdZ ctZ, fun s v => .of_eq rfl, fun base _ _ => by
    have GW : FnOk l.prog w K mg base CX0 1 fW _ ["value"] (spWhole K) := ok_whole FW (mz z_isinstance) (mz z_int) (mz z_bool)
    have GE : FnOk l.prog w K mg base CX0 1 fE _ ["self", "value"] (spEx1 CI "value") := ok_ei FE TOI noIvalue
    have GEU : FnOk l.prog w K mg base CX0 1 fEU _ ["self", "glyph"] (spEx1 CU "glyph") := ok_eu FEU TOU noUglyph
    have GET : FnOk l.prog w K mg base CX0 1 fET _ ["self", "limit"] (spEx1 CT "limit") := ok_et FET TOT noTlimit
    have GEG : FnOk l.prog w K mg base CX0 1 fEG _ ["self", "glyph"] (spEx1 CG "glyph") := ok_eg FEG TOG noGglyph
    have GEO : FnOk l.prog w K mg base CX0 1 fEO _ ["self", "left", "right"] (spEx2 CO "left" "right") := ok_eo FEO TOO noOleft noOright
    have GIB := ok_isB (P := l.prog) (w := w) (base := base) FIB TF GW bW
    have GBt := ok_between (P := l.prog) (w := w) (base := base) FBt TF ⟨PySem.W.mg_of X G aIB, kIB⟩ GIB bIB GE bE
    have GWrK : FnOk l.prog w K mg base CX0 1 fWr _ ["table", "key", "value"] spWriteK := ok_writeK FWr
    have GWrT : FnOk l.prog w K mg base CX0 1 fWr _ ["table", "key", "value"] spWriteT := ok_writeT FWr
    have KP : KeyStr l.prog w K mg base fPl kRank := key_place FPl bPl (mz z_len) (mz z_isinstance) (mz z_str)
    have KPP : KeyPair l.prog w K mg base fPP kPlace := key_pair FPP bPP (mz z_isinstance) (mz z_str)
    have GNm : FnOk l.prog w K mg base CX0 1 fNm _ ["value"] (spName K) := ok_name FNm FC (mz z_isinstance) (mz z_str) (mz z_len)
    have GHas := ok_has (P := l.prog) (w := w) (base := base) FHas TF TH
    have GKn := ok_known FKn TF TH GHas bHas GEU bEU
    have GAo := ok_advOf FAo TF GKn bKn ⟨aKn, iKn, kKn⟩
    have GGl := ok_glyphs FGl TF TH KP
    have GLg := ok_ligs FLg TF GGl bGl ⟨aGl, iGl, kGl⟩
    have GCL := ok_letters FCL TF GKn bKn ⟨aKn, iKn, kKn⟩
    have GCR := ok_room (fH := fHas) FCR TF TH hML RET GHas bHas PLg GLg bLg GET bET
    have GCK := ok_kok (P := l.prog) (w := w) (base := base) FCK TF
    have GWA := ok_wrA FWA TF GWrK bWr
    have GWK := ok_wrK FWK TF GWrT bWr
    have GPB := ok_putB FPB TF GBt bBt
    have GPA := ok_putA FPA TF ⟨PySem.W.mg_of X G aNm, kNm⟩ GNm bNm REG GEG bEG GBt bBt GCL bCL ⟨aCL, iCL, kCL⟩ GCR bCR ⟨aCR, iCR, kCR⟩ GCK bCK ⟨aCK, iCK, kCK⟩ GWA bWA ⟨aWA, iWA, kWA⟩
    have GPK := ok_putK FPK TF REO GEO bEO GBt bBt GKn bKn ⟨aKn, iKn, kKn⟩ GWK bWK ⟨aWK, iWK, kWK⟩
    have GQ := ok_font FQ TF TH (PySem.W.mg_of X G aBl) (PySem.W.mg_of X G aPP) KP KPP GPB bPB ⟨aPB, iPB, kPB⟩ GPA bPA ⟨aPA, iPA, kPA⟩ GPK bPK ⟨aPK, iPK, kPK⟩
    have GT : FnOk l.prog w K mg base CX0 1 fT _ ["_law_bag_here", "_law_size"] spTake := ok_take FT (mz z_len) (mz z_int)
    have GTb := ok_table FTb TF GGl bGl ⟨aGl, iGl, kGl⟩ GAo bAo ⟨aAo, iAo, kAo⟩
    have GL := ok_let FL ⟨PySem.W.mg_of X G aT, kT⟩ (mz z_range) GT bT
    have GR := ok_row FR ⟨PySem.W.mg_of X G aT, kT⟩ (mz z_range) (mz z_len) GT bT
    have GCm : FnOk l.prog w K mg base CX0 1 fCm _ ["_law_number"] spCommas := ok_commas FCm (mz z_str) (mz z_len)
    have GN := ok_line FN ⟨PySem.W.mg_of X G aCm, kCm⟩ (mz z_len) GCm bCm
    exact ok_law FZ TL MQ (PySem.W.mg_of X G aC) (mz z_range) (mz z_len) (mz z_list) (mz z_sorted) (mz z_dict) (ok_bag FB (mz z_list)) bB GT bT GL bL GR bR GN bN GTb bTb GQ bQ vQ⟩
theorem walk {l : PySem.W.OpenLaw} {q : Program} {loose : List Str} {XP : (Str → Option Value) → Heap → Prop} {YP : World → Heap → Prop} {d : DefRec} {K : Params → PySem.W.Frag} (hn : l.most = some 63) (hdf : d.params.defaults = [])
    (hY : ∀ (w : World) (h : Heap), YP w h → (K w.params).In h)
    (F : ∀ (w : World) (mg : Str → Option Value) (fa : Addr) (h : Heap), (K w.params).In h → h.Ns mainGlobals mg → mg d.name = some (.ref fa) →
      ∃ fd : FuncData, (∀ (s : Shared) (u : Value), BindsTo s fd ⟨[u], []⟩ [("_law_script", u)]) ∧ ∀ base : Heap, (K w.params).In base → base.Ns mainGlobals mg → FnOk l.prog w (K w.params) mg base CX0 9 fa fd ["_law_script"] (spLaw (K w.params))) :
    PySem.W.WalkO q loose XP YP l.row.toRowW d [] (fun f vs => PySem.call f vs) :=
  L2.walk_of (n := 63) (k := 9) (x := "_law_script") (CX := fun _ => CX0) (sp := fun w => spLaw (K w.params)) hn (by decide) hdf ⟨rfl, by decide, by decide⟩ hY F (fun _ _ a ns hl _ hS => ⟨a, ns, rfl, hS, hl, fun _ => rfl⟩) fun _ _ _ _ _ z => z
end Toy
open PySem PySem.W PyProof.Rows
set_option maxRecDepth 100000 in
set_option maxHeartbeats 0 in
theorem PySem.Challenge.cw_fontgap_k19_width_table_columns_holds : PySem.Challenge.rw_fontgap_k19_width_table_columns.Holds := by
  w_on; o_law; k_head; (case hw => w_witness2)
  k_fill
  refine Toy.walk (l := PySem.Challenge.rw_fontgap_k19_width_table_columns) rfl rfl (fun w h Y => PySem.W.kIn_of Y) ?F
  case F =>
    intro w mg fa h KX G hmg
    refine' Toy.all_mk KX G hmg ?aC ?aCF ?aCI ?aCU ?aCT ?aCG ?aCO ?aW ?lW ?cW ?kW ?aIB ?lIB ?cIB ?kIB ?aBt ?lBt ?cBt ?kBt ?aWr ?lWr ?cWr ?kWr ?aPl ?lPl ?cPl ?kPl ?aPP ?lPP ?cPP ?kPP ?aNm ?lNm ?cNm ?kNm ?aE ?tE ?lE ?cE ?kE ?aEU ?tEU ?lEU ?cEU ?kEU ?aET ?tET ?lET ?cET ?kET ?aEG ?tEG ?lEG ?cEG ?kEG ?aEO ?tEO ?lEO ?cEO ?kEO ?aQ ?iQ ?lQ ?cQ ?kQ ?dQ ?aHas ?iHas ?lHas ?cHas ?kHas ?aLen ?iLen ?lLen ?cLen ?kLen ?aGl ?iGl ?lGl ?cGl ?kGl ?aAo ?iAo ?lAo ?cAo ?kAo ?aPA ?iPA ?lPA ?cPA ?kPA ?aPK ?iPK ?lPK ?cPK ?kPK ?aPB ?iPB ?lPB ?cPB ?kPB ?aKn ?iKn ?lKn ?cKn ?kKn ?aCL ?iCL ?lCL ?cCL ?kCL ?aCR ?iCR ?lCR ?cCR ?kCR ?aCK ?iCK ?lCK ?cCK ?kCK ?aWA ?iWA ?lWA ?cWA ?kWA ?aWK ?iWK ?lWK ?cWK ?kWK ?pLa ?pLg ?pLt ?pLr ?lLg ?cLg ?kLg ?aTb ?lTb ?cTb ?kTb ?aB ?lB ?cB ?kB ?aT ?lT ?cT ?kT ?aL ?lL ?cL ?kL ?aR ?lR ?cR ?kR ?aCm ?lCm ?cCm ?kCm ?aN ?lN ?cN ?kN ?aZ ?lZ ?cZ ?kZ ?xCI ?saI ?exI ?tyI ?kpI ?noIvalue ?xCU ?saU ?exU ?tyU ?kpU ?noUglyph ?xCT ?saT ?exT ?tyT ?kpT ?noTlimit ?xCG ?saG ?exG ?tyG ?kpG ?noGglyph ?xCO ?saO ?exO ?tyO ?kpO ?noOleft ?noOright ?kdQ ?aBl ?pg ?hd ?po ?sa ?mk ?kc ?nA ?nN ?nB ?nP ?cAd ?gAd ?cUn ?gUn ?cLi ?gLi ?crd ?cga ?c6 ?z_isinstance ?z_int ?z_bool ?z_len ?z_list ?z_range ?z_sorted ?z_str ?z_dict
    (case aC => k_is)
    (case aCF => k_is)
    (case aCI => k_is)
    (case aCU => k_is)
    (case aCT => k_is)
    (case aCG => k_is)
    (case aCO => k_is)
    (case aW => k_is)
    (case lW => k_is)
    (case cW => k_is)
    (case kW => k_is)
    (case aIB => k_is)
    (case lIB => k_is)
    (case cIB => k_is)
    (case kIB => k_is)
    (case aBt => k_is)
    (case lBt => k_is)
    (case cBt => k_is)
    (case kBt => k_is)
    (case aWr => k_is)
    (case lWr => k_is)
    (case cWr => k_is)
    (case kWr => k_is)
    (case aPl => k_is)
    (case lPl => k_is)
    (case cPl => k_is)
    (case kPl => k_is)
    (case aPP => k_is)
    (case lPP => k_is)
    (case cPP => k_is)
    (case kPP => k_is)
    (case aNm => k_is)
    (case lNm => k_is)
    (case cNm => k_is)
    (case kNm => k_is)
    (case aE => k_is)
    (case tE => k_is)
    (case lE => k_is)
    (case cE => k_is)
    (case kE => k_is)
    (case aEU => k_is)
    (case tEU => k_is)
    (case lEU => k_is)
    (case cEU => k_is)
    (case kEU => k_is)
    (case aET => k_is)
    (case tET => k_is)
    (case lET => k_is)
    (case cET => k_is)
    (case kET => k_is)
    (case aEG => k_is)
    (case tEG => k_is)
    (case lEG => k_is)
    (case cEG => k_is)
    (case kEG => k_is)
    (case aEO => k_is)
    (case tEO => k_is)
    (case lEO => k_is)
    (case cEO => k_is)
    (case kEO => k_is)
    (case aQ => k_is)
    (case iQ => k_is)
    (case lQ => k_is)
    (case cQ => k_is)
    (case kQ => k_is)
    (case dQ => k_is)
    (case aHas => k_is)
    (case iHas => k_is)
    (case lHas => k_is)
    (case cHas => k_is)
    (case kHas => k_is)
    (case aLen => k_is)
    (case iLen => k_is)
    (case lLen => k_is)
    (case cLen => k_is)
    (case kLen => k_is)
    (case aGl => k_is)
    (case iGl => k_is)
    (case lGl => k_is)
    (case cGl => k_is)
    (case kGl => k_is)
    (case aAo => k_is)
    (case iAo => k_is)
    (case lAo => k_is)
    (case cAo => k_is)
    (case kAo => k_is)
    (case aPA => k_is)
    (case iPA => k_is)
    (case lPA => k_is)
    (case cPA => k_is)
    (case kPA => k_is)
    (case aPK => k_is)
    (case iPK => k_is)
    (case lPK => k_is)
    (case cPK => k_is)
    (case kPK => k_is)
    (case aPB => k_is)
    (case iPB => k_is)
    (case lPB => k_is)
    (case cPB => k_is)
    (case kPB => k_is)
    (case aKn => k_is)
    (case iKn => k_is)
    (case lKn => k_is)
    (case cKn => k_is)
    (case kKn => k_is)
    (case aCL => k_is)
    (case iCL => k_is)
    (case lCL => k_is)
    (case cCL => k_is)
    (case kCL => k_is)
    (case aCR => k_is)
    (case iCR => k_is)
    (case lCR => k_is)
    (case cCR => k_is)
    (case kCR => k_is)
    (case aCK => k_is)
    (case iCK => k_is)
    (case lCK => k_is)
    (case cCK => k_is)
    (case kCK => k_is)
    (case aWA => k_is)
    (case iWA => k_is)
    (case lWA => k_is)
    (case cWA => k_is)
    (case kWA => k_is)
    (case aWK => k_is)
    (case iWK => k_is)
    (case lWK => k_is)
    (case cWK => k_is)
    (case kWK => k_is)
    (case pLa => k_is)
    (case pLg => k_is)
    (case pLt => k_is)
    (case pLr => k_is)
    (case lLg => k_is)
    (case cLg => k_is)
    (case kLg => k_is)
    (case aTb => k_is)
    (case lTb => k_is)
    (case cTb => k_is)
    (case kTb => k_is)
    (case aB => k_is)
    (case lB => k_is)
    (case cB => k_is)
    (case kB => k_is)
    (case aT => k_is)
    (case lT => k_is)
    (case cT => k_is)
    (case kT => k_is)
    (case aL => k_is)
    (case lL => k_is)
    (case cL => k_is)
    (case kL => k_is)
    (case aR => k_is)
    (case lR => k_is)
    (case cR => k_is)
    (case kR => k_is)
    (case aCm => k_is)
    (case lCm => k_is)
    (case cCm => k_is)
    (case kCm => k_is)
    (case aN => k_is)
    (case lN => k_is)
    (case cN => k_is)
    (case kN => k_is)
    (case aZ => k_is)
    (case lZ => k_is)
    (case cZ => k_is)
    (case kZ => k_is)
    (case xCI => k_is)
    (case saI => k_is)
    (case exI => k_is)
    (case tyI => k_is)
    (case kpI => k_is)
    (case noIvalue => k_is)
    (case xCU => k_is)
    (case saU => k_is)
    (case exU => k_is)
    (case tyU => k_is)
    (case kpU => k_is)
    (case noUglyph => k_is)
    (case xCT => k_is)
    (case saT => k_is)
    (case exT => k_is)
    (case tyT => k_is)
    (case kpT => k_is)
    (case noTlimit => k_is)
    (case xCG => k_is)
    (case saG => k_is)
    (case exG => k_is)
    (case tyG => k_is)
    (case kpG => k_is)
    (case noGglyph => k_is)
    (case xCO => k_is)
    (case saO => k_is)
    (case exO => k_is)
    (case tyO => k_is)
    (case kpO => k_is)
    (case noOleft => k_is)
    (case noOright => k_is)
    (case kdQ => k_is)
    (case aBl => k_is)
    (case pg => k_is)
    (case hd => k_is)
    (case po => k_is)
    (case sa => k_is)
    (case mk => k_is)
    (case kc => k_is)
    (case nA => k_is)
    (case nN => k_is)
    (case nB => k_is)
    (case nP => k_is)
    (case cAd => k_is)
    (case gAd => k_is)
    (case cUn => k_is)
    (case gUn => k_is)
    (case cLi => k_is)
    (case gLi => k_is)
    (case crd => k_is)
    (case cga => k_is)
    (case c6 => k_is)
    (case z_isinstance => k_is)
    (case z_int => k_is)
    (case z_bool => k_is)
    (case z_len => k_is)
    (case z_list => k_is)
    (case z_range => k_is)
    (case z_sorted => k_is)
    (case z_str => k_is)
    (case z_dict => k_is)
