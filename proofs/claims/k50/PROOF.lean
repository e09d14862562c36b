import PyProof.Rows.All
import Wide.All
import OpenK.AllK
import Wide.FinOn
import HandS.ForMost
import HandS.Wide
import HandS.Zip
import HandS.Style
import HandS.TupAny
import HandS.Replace
import HandS.IsInst
import HandS.Codes
import HandS.Conv
import HandS.More
import HandS.Evl
import HandS.NoneIn
import HandS.Deep
import HandS.Flow
import PyProof.ReprRoads
import HandS.Walk
import PyProof.StrLawsRepr
import PyProof.Rows.RegStrFacts
import PyProof.P3Eq
import HandS.TupMul
import HandS.Dict
import KE.KRevSl
import HandS.WrittenGet
import HandS.Ends
import PySem.Challenge.RW_scriptpicks_k50_edits_known
set_option Elab.async false
set_option linter.all false
set_option maxRecDepth 100000
/-! rules of our own over the hand layer -/
namespace Own
open PySem PySem.Spec PyProof.Rows L2
section
variable {X : Cx}
theorem CallR.or {f : Value} {r r' : List V → Hp → VK → Prop} (h : CallR X f r) (h' : CallR X f r') : CallR X f (fun xs H Z => r xs H Z ∨ r' xs H Z) := by
  intro pk s τ H xs us Z I rs q
  rcases q with q | q
  · exact h pk s τ H xs us Z I rs q
  · exact h' pk s τ H xs us Z I rs q
theorem SlR.or {r r' : V → Option Int → Option Int → Hp → VK → Prop} (h : SlR X r) (h' : SlR X r') : SlR X (fun x lo hi H Z => r x lo hi H Z ∨ r' x lo hi H Z) := by
  intro pk s τ H x v vl vu lo hi sl Z I rx hst pl pu q
  rcases q with q | q
  · exact h pk s τ H x v vl vu lo hi sl Z I rx hst pl pu q
  · exact h' pk s τ H x v vl vu lo hi sl Z I rx hst pl pu q
theorem PI.or {tg iter : Expr} {w w' : TI} (h : PI X tg iter w) (h' : PI X tg iter w') : PI X tg iter (fun τ H R => w τ H R ∨ w' τ H R) :=
  ⟨fun pk s τ H R I q => q.elim (h.run pk s τ H R I) (h'.run pk s τ H R I)⟩
/-! ### unions: the reading chooses -/
def rAddI : R2 := rI0 fun i j => .int (i + j)
def rAddS : R2 := fun x y H Z => ∃ i j, x = .str i ∧ y = .str j ∧ i.length + j.length ≤ sizeLine ∧ Z (.str (i ++ j)) H
def rAdd (K : PySem.W.Frag) : R2 := fun x y H Z => rAddI x y H Z ∨ rAddS x y H Z ∨ rCat x y H Z ∨ rCatA K x y H Z
theorem opAdd : OpR X (binaryOp .Add) (rAdd X.K) := OpR.or op_add (OpR.or op_add_str (OpR.or op_cat op_catA))
def rMulI : R2 := rI CMul fun i j => .int (i * j)
def rMul : R2 := fun x y H Z => rMulI x y H Z ∨ rRep x y H Z
theorem opMul : OpR X (binaryOp .Mult) rMul := OpR.or op_mul op_rep
def rEqA (K : PySem.W.Frag) : R2 := fun x y H Z => rEq x y H Z ∨ rEqD K x y H Z
def rNeA (K : PySem.W.Frag) : R2 := fun x y H Z => rNe x y H Z ∨ rNeD K x y H Z
theorem opEq {k : Nat} (hr : Room k X.A) : OpR X (compareOp .Eq) (rEqA X.K) := OpR.or op_eq (op_eqD hr.units)
theorem opNe {k : Nat} (hr : Room k X.A) : OpR X (compareOp .NotEq) (rNeA X.K) := OpR.or op_ne (op_neD hr.units)
def rLtI : R2 := rI0 fun i j => .bl (decide (i < j))
def rLeI : R2 := rI0 fun i j => .bl (decide (i ≤ j))
def rGtI : R2 := rI0 fun i j => .bl (decide (j < i))
def rGeI : R2 := rI0 fun i j => .bl (decide (j ≤ i))
theorem opLt : OpR X (compareOp .Lt) rLtI := op_lt
theorem opLe : OpR X (compareOp .LtE) rLeI := op_le
theorem opGt : OpR X (compareOp .Gt) rGtI := op_gt
theorem opGe : OpR X (compareOp .GtE) rGeI := op_ge
def rInS : R2 := fun x y H Z => ∃ i j, x = .str i ∧ y = .str j ∧ Z (.bl (!(Builtin.Str.occurrences j i 0 j.length 1).isEmpty)) H
def rNotInS : R2 := fun x y H Z => ∃ i j, x = .str i ∧ y = .str j ∧ Z (.bl (!(!(Builtin.Str.occurrences j i 0 j.length 1).isEmpty))) H
def rInA (K : PySem.W.Frag) : R2 := fun x y H Z => rIn K false x y H Z ∨ rInS x y H Z
def rNotInA (K : PySem.W.Frag) : R2 := fun x y H Z => rIn K true x y H Z ∨ rNotInS x y H Z
theorem opIn : OpR X (compareOp .In) (rInA X.K) := OpR.or op_in_seq op_in_str
theorem opNotIn : OpR X (compareOp .NotIn) (rNotInA X.K) := OpR.or op_notIn_seq L2.op_notin_str
def rIxA (K : PySem.W.Frag) (w : World) : R2 := fun x y H Z => rIxL K x y H Z ∨ rIxT K x y H Z ∨ rIxS x y H Z ∨ rIxD K w x y H Z
theorem ixAny : IxR X (rIxA X.K X.w) := IxR.or ix_list (IxR.or ix_tup (IxR.or ix_str ix_kdict))
def rSlAny (K : PySem.W.Frag) : V → Option Int → Option Int → Hp → VK → Prop := fun x lo hi H Z => rSlL K x lo hi H Z ∨ rSlA K x lo hi H Z ∨ rSlS x lo hi H Z
theorem slAny : SlR X (rSlAny X.K) := SlR.or sl_list (SlR.or sl_tupA sl_str)
def iAny (K : PySem.W.Frag) (tl : TE) : TI := fun τ H R => iList K tl τ H R ∨ iTup K tl τ H R ∨ iStr tl τ H R
theorem piAny {tg l : Expr} {tl : TE} (hlen : PE X l tl) : PI X tg l (iAny X.K tl) := PI.or (pi_list hlen) (PI.or (pi_tup hlen) (pi_str hlen))
def rLenA (K : PySem.W.Frag) : List V → Hp → VK → Prop := fun xs H Z => (∃ p ys, xs = [.ref p] ∧ (SqL K H p ys ∨ SqT K H p ys) ∧ Z (.int ys.length) H) ∨ (∃ z, xs = [.str z] ∧ z.length ≤ sizeLine ∧ Z (.int z.length) H)
theorem callLen : CallR X (.builtin "len") (rLenA X.K) := CallR.or call_len_seq call_len_str
theorem pgetL : PGet X (rIxL X.K) := by
  intro pk s τ H x y v u Z I rx ry h
  obtain ⟨p, xs, i, z, rfl, rfl, hsq, hes, q⟩ := h
  cases rx
  obtain ⟨t, rfl⟩ := ry
  obtain ⟨gs, r, pl, hz⟩ := I.list hsq
  obtain ⟨j, h1, h2, h3, h4, h5⟩ := atI_get hes
  obtain ⟨w, ew, rw'⟩ := r.get h2
  have hlen := r.length
  have hn := line63
  have ready : EP X pk τ Z w s := ⟨z, H, I, rw', q⟩
  by_cases h0 : 0 ≤ i
  · have hj : i.toNat = j := by
      rw [seqIndex_of h0 h5] at h1
      exact Option.some.inj h1
    exact wpAny_getItem_list pl.isList h0 (by omega) (by rw [hj]; simpa using ew) ready
  · have hj : (i + (gs.toArray.size : Int)).toNat = j := by
      rw [seqIndex_neg (by omega) h4] at h1
      rw [List.size_toArray, ← hlen]
      exact Option.some.inj h1
    exact wpAny_getItem_list_neg pl.isList (by omega) (by rw [List.size_toArray] <;> omega) (by omega) (by rw [hj]; simpa using ew) ready
/-- repr of data -/
def rRepr (K : PySem.W.Frag) : List V → Hp → VK → Prop := fun xs H Z => ∃ a d, xs = [.ref a] ∧ Dp K H (.ref a) d ∧ d.showable = true ∧ d.hasDict = false ∧ d.depth ≤ 20 ∧ d.shown.length ≤ sizeLine ∧ Z (.str d.shown) H
theorem callRepr {k : Nat} (hg : X.A.guards = some []) (hr : Room k X.A) : CallR X (.builtin "repr") (rRepr X.K) := by
  intro pk s τ H xs us Z I r h
  obtain ⟨a, d, rfl, hd, hst, hn, hz, hlen, q⟩ := h
  rw [Vals.ref1 r]
  obtain ⟨as, rd⟩ := Dp.reads I d _ _ hd rfl
  have hu := hr.units
  exact repr_of_reads' rd hst (fun e => by rw [hn] at e; cases e) hg (by omega) (fun _ _ e => e) (fun h' u tk hkp => ⟨.str d.shown, H, I.kept (h' := h') (t' := tk) hkp, ⟨_, rfl⟩, q⟩) hlen
end
/-! ### defs that are called where no container is being shown -/
structure FnG (P : Program) (w : World) (K : PySem.W.Frag) (mg : Str → Option Value) (base : Heap) (k : Nat) (f : Addr) (fd : FuncData) (ps : List Str) (sp : Sp) : Prop where
  len : ∀ vs H Z EE, sp vs H Z EE → vs.length = ps.length
  run : ∀ (A : Around) (outer : List Env) (s : Shared) (H : Hp) (args : Args) (us : List Value) (vs : List V) (Z : VK) (EE : XK), Room k A → A.guards = some [] → Env0 P w K mg base A outer s H → BindsTo s fd args (ps.zip us) → Vals vs us → sp vs H Z EE →
    codeAny (model P w) A (.call (.ref f) args) (CR CX0 outer P w H s Z EE) s
structure CalG (P : Program) (w : World) (K : PySem.W.Frag) (mg : Str → Option Value) (base : Heap) (k : Nat) (x : Str) (sp : Sp) : Prop where
  ex : ∃ (f : Addr) (fd : FuncData) (ps : List Str), FnG P w K mg base k f fd ps sp ∧ mg x = some (.ref f) ∧ PySem.W.keepIn K (.ref f) = true ∧ Binds K fd ps []
structure Df (K : PySem.W.Frag) (mg : Str → Option Value) (x : Str) (st : Stmt) : Prop where
  ex : ∃ (f : Addr) (fd : FuncData), mg x = some (.ref f) ∧ Fun K x x st f fd
section
variable {P : Program} {w : World} {K : PySem.W.Frag} {mg : Str → Option Value} {base : Heap}
theorem CalG.imp {k : Nat} {x : Str} {sp sp' : Sp} (c : CalG P w K mg base k x sp) (h : ∀ vs H Z EE, sp' vs H Z EE → sp vs H Z EE) : CalG P w K mg base k x sp' := by
  obtain ⟨f, fd, ps, F, a, b, d⟩ := c.ex
  exact ⟨f, fd, ps, ⟨fun vs H Z EE q => F.len vs H Z EE (h _ _ _ _ q), fun A outer s H args us vs Z EE hr hg hes hbd hv hst => F.run A outer s H args us vs Z EE hr hg hes hbd hv (h _ _ _ _ hst)⟩, a, b, d⟩
theorem fn_mk {x : Str} {f : Addr} {fd : FuncData} {st : Stmt} {N ps : List Str} {k : Nat} {sp : Sp} (F : Fun K x x st f fd) (S : FnScope N ps (defScope st))
    (len : ∀ vs H Z EE, sp vs H Z EE → vs.length = ps.length)
    (hbody : ∀ (cdv : Value) (A : Around) (outer : List Env) (s : Shared) (H : Hp) (vs : List V) (Z : VK) (EE : XK), Room k (A.deeper (envOfC x (defScope st) s.heap.objs.size f cdv)) → (A.deeper (envOfC x (defScope st) s.heap.objs.size f cdv)).guards = some [] → sp vs H Z EE →
      ∃ t, PSs (cxOf CX0 P w K mg base N x (defScope st) f cdv A outer s H EE).nox (defBody st) t ∧ t { nx := fun _ H' => Z .non H', rt := Z } (start N vs) H) : FnG P w K mg base (k + 1) f fd ps sp := by
  obtain ⟨oc, od, kV, doc, pm, an, cdv, ct, sl, rfl, lkp, hcd⟩ := F.ex
  refine ⟨len, fun A outer s H args us vs Z EE hr hg e0 hbt r hsp => ?_⟩
  have body : ∀ (A : Around) (outer : List Env) (s : Shared) (H : Hp) (vs : List V) (Z : VK) (EE : XK), Room k (A.deeper (envOfC x (defScope st) s.heap.objs.size f cdv)) → A.guards = some [] → sp vs H Z EE →
      ∃ t, PSs (cxOf CX0 P w K mg base N x (defScope st) f cdv A outer s H EE) (defBody st) t ∧ t { nx := fun _ H' => Z .non H', rt := Z } (start N vs) H := fun A outer s H vs Z EE hr hg hsp => by
    obtain ⟨t, h, q⟩ := hbody cdv A outer s H vs Z EE hr hg hsp
    exact ⟨t, h.nox, q⟩
  have hlen := len _ _ _ _ hsp
  have KI : K.In s.heap := e0.mod.kin.keeps fun b o e => (e0.bs b o e).1
  have nlm : s.heap.NoLimit := e0.mod.nolimit.keeps fun b o e => (e0.bs b o e).1
  have hkind : ∀ y ∈ ps.zip us, (defScope st).names.lookup y.1 = some .local ∨ ((defScope st).names.lookup y.1 = some .cell ∧ ((cellsFrom (s.heap.objs.size + 1) (defScope st).names []).lookup y.1).isSome = true) := fun ⟨n, v⟩ hyy => by
    rcases S.par n (List.of_mem_zip hyy).1 with q | q
    · exact .inl q
    · exact .inr ⟨q, PySem.W.cellsFrom_some _ _ _ (.inl q)⟩
  refine codeAny_call_function hr.depth (KI _ _ lkp) rfl S.co S.gen rfl (PySem.W.codeRec_of KI hcd) (hbt _ _ _ _ ?_)
  refine wpAny_newFunctionEnv_cells S.kind hkind fun env hes st1 xx => ?_
  subst hes
  refine ⟨nlm.keeps xx.toInCall.keep, codeAny_func ?_⟩
  obtain ⟨t, ht, hsq⟩ := body A outer s H vs Z EE (hr.deeper _) hg hsp
  have I : Inv (cxOf CX0 P w K mg base N x (defScope st) f cdv A outer s H EE) [] (start N vs) H st1 := inv_start S hr.hd e0 hlen r xx
  refine wpAny_mono (ht.run [] st1 (start N vs) H _ I hsq) (fun fl s' hst => ?_) fun e s' hst => hst
  have ready : ∀ {τ' : L2.St} {H' : Hp} {v : V} {u : Value}, Inv (cxOf CX0 P w K mg base N x (defScope st) f cdv A outer s H EE) [] τ' H' s' → RelV v u → Z v H' → CE outer P w H s Z u s' :=
    fun {τ' H' v u} J rv q => ⟨v, H', J.os, J.bare, J.base, J.hok, rv, q⟩
  cases fl with
  | ret u =>
    obtain ⟨v, τ', H', J, rv, q⟩ := hst
    exact ready J rv q
  | next =>
    obtain ⟨τ', H', J, q⟩ := hst
    exact ready (v := V.non) (u := Value.none) J rfl q
  | brk =>
    obtain ⟨_, _, _, q⟩ := hst
    exact False.elim q
  | cont =>
    obtain ⟨_, _, _, q⟩ := hst
    exact False.elim q
theorem cal_mk {x : Str} {st : Stmt} {N ps : List Str} {k : Nat} {sp : Sp} (D : Df K mg x st) (S : FnScope N ps (defScope st))
    (hbd : ∀ (kV doc pm : Value) (an : Option Addr) (cdv ct : Value) (us : List Value), us.length = ps.length → bindArgs (PySem.W.fnOf x x (defArgs st) (defBody st) (defScope st) .none kV doc pm an cdv ct) ⟨us, []⟩ = pure (ps.zip us))
    (len : ∀ vs H Z EE, sp vs H Z EE → vs.length = ps.length)
    (hbody : ∀ (f : Addr) (cdv : Value) (A : Around) (outer : List Env) (s : Shared) (H : Hp) (vs : List V) (Z : VK) (EE : XK), Room k (A.deeper (envOfC x (defScope st) s.heap.objs.size f cdv)) → (A.deeper (envOfC x (defScope st) s.heap.objs.size f cdv)).guards = some [] → sp vs H Z EE →
      ∃ t, PSs (cxOf CX0 P w K mg base N x (defScope st) f cdv A outer s H EE).nox (defBody st) t ∧ t { nx := fun _ H' => Z .non H', rt := Z } (start N vs) H) : CalG P w K mg base (k + 1) x sp := by
  obtain ⟨f, fd, hmg, F⟩ := D.ex
  exact ⟨f, fd, ps, fn_mk F S len (hbody f), hmg, F.kp, F.binds hbd⟩
end
section
variable {X : Cx} {pk : List (Addr × Obj)} {τ : L2.St} {H : Hp} {s : Shared} {k j : Nat} {sp : Sp} {f : Addr} {fd : FuncData} {ps : List Str} {Z : VK} {us : List Value} {vs : List V} {x : Str} {p pos : Pos} {e : Expr} {es : List Expr} {t : TA}
theorem run_fnG (F : FnG X.prog X.w X.K X.mg X.base k f fd ps sp) (hr : Room k X.A) (hg : X.A.guards = some []) (hbd : Binds X.K fd ps [])
    (I : Inv X pk τ H s) (r : Vals vs us) (h : sp vs H Z E0) : wpAny (model X.prog X.w) X.A (call (.ref f) us) (EP X pk τ Z) X.xe s := by
  have hlen : us.length = ps.length := by rw [← r.length]; exact F.len _ _ _ _ h
  have e1 : us ++ [] = us := List.append_nil us
  refine wpAny_call (codeAny_mono (F.run X.A X.stack s H ⟨us, []⟩ us vs Z E0 hr hg I.env0 (by have q := hbd s us I.kIn (by rw [e1]; exact hlen); rw [e1] at q; exact q) r h) fun r s' hsq => ?_)
  cases r with
  | error e => exact (show False from hsq).elim
  | ok fl =>
    cases fl with
    | ret u => exact I.after hsq
    | next => exact False.elim hsq
    | brk => exact False.elim hsq
    | cont => exact False.elim hsq
theorem pe_cG (c : CalG X.prog X.w X.K X.mg X.base k x sp) (hr : Room j X.A) (hg0 : X.A.guards = some []) (hkp : k ≤ j) (hg : Gl X x) (ha : PA X (e :: es) t)
    (hdb : (x == ("__debug__" : Str)) = false := by decide) (hes : starEach (e :: es) X.env = (false, eval e X.env) :: starEach es X.env := by rfl) (hpl : (backTo pos (starEach es X.env)).any (·.1) = false := by rfl) :
    PE X (.Call (.Name x p) (e :: es) [] pos) (tCall sp [] E0 t) := by
  obtain ⟨f, fd, ps, F, hmg, kp, b⟩ := c.ex
  refine ⟨fun pk s τ H Z I h => ?_⟩
  refine wpAny_Call_Name_kw (ld_glob I hg hmg ?_ hdb)
  refine PySem.W.callWith_K (h₀ := X.base) I.ok.mod.kin kp (thn (ha.run pos pk s τ H _ I h) fun us st1 ⟨vs, H1, I1, r, q⟩ => ⟨I1.kIn, ?_⟩) hes hpl
  have q : sp (vs ++ []) H1 Z E0 := q
  rw [List.append_nil] at q
  exact run_fnG F (hr.mono hkp) hg0 b I1 r q
end
end Own

namespace Own
open PySem PySem.Spec PyProof.Rows L2 Evl
theorem up_old {H : Hp} {p q : Addr} {o u : HO} (hp : H p = none) (h : H q = some u) : upd H p o q = some u := by
  rw [upd_ne (ne_of_none h hp)]
  exact h
theorem gen1 {H H1 : Hp} {p : Addr} {o : HO} (hq : upd H p o = H1) (hp : H p = none) : Ex H H1 ∧ H1 p = some o := by
  subst hq
  exact ⟨Ex.new hp, upd_same⟩
/-! ### tuples never change -/
def TEx (H H' : Hp) : Prop := ∀ a xs, H a = some (.tup xs) → H' a = some (.tup xs)
theorem TEx.refl (H : Hp) : TEx H H := fun _ _ h => h
theorem TEx.trans {H H1 H2 : Hp} (a : TEx H H1) (b : TEx H1 H2) : TEx H H2 := fun x o h => b x o (a x o h)
theorem TEx.of {H H' : Hp} (e : Ex H H') : TEx H H' := fun a _ h => e a _ h
theorem TEx.lst {H : Hp} {D : Addr} {xs : List V} {o : HO} (h : H D = some (.lst xs)) : TEx H (upd H D o) := fun a ys q => by
  rw [upd_ne (fun z => by rw [z, h] at q; cases q)]
  exact q
/-- two tuples, zipped -/
theorem walk_zipT {K : PySem.W.Frag} {a b : Addr} {xs ys : List V} {n : Nat} (hn : n = min xs.length ys.length) :
    Walk (RZ.ItzT K a b) n (fun H => SqT K H a xs ∧ SqT K H b ys) (YPair (fun i => xs[i]?) (fun i => ys[i]?)) := by
  refine ⟨fun i H hi h => ?_, fun H h => ⟨xs, ys, h.1, h.2, by omega⟩, fun i H x H' hi h y => ?_⟩
  · exact ⟨xs, ys, xs[i], ys[i], h.1, h.2, List.getElem?_eq_getElem (by omega), List.getElem?_eq_getElem (by omega)⟩
  · obtain ⟨T, u, v, rfl, h1, h2, h3, h4⟩ := y
    exact ⟨T, u, v, rfl, h1, h2, h3 _ h.1, h4 _ h.2⟩
/-- what is left of a comprehension, of a for, behind its source -/
def LcRest (g : TG) (tt : TT) (te : TE) (vs : List Nat) (σ : L2.St) (Q : VK) : It → Hp → Prop := fun J H1 => tLc (fun _ _ R => R J H1) g tt te vs σ H1 Q
def tLcO (wi : TI) (g : TG) (tt : TT) (te : TE) (vs : List Nat) : TE := fun σ H Q => wi σ H (LcRest g tt te vs σ Q)
def ForRest (g : TG) (tb : TS) (D : Ends) : L2.St → It → Hp → Prop := fun σ J H1 => tFor (fun _ _ R => R J H1) g tb D σ H1
def tForO (wi : TI) (g : TG) (tb : TS) : TS := fun D σ H => wi σ H (ForRest g tb D σ)
theorem pe_lcO {X : Cx} {e : Expr} {wi : TI} {g : TG} {tt : TT} {te : TE} {vs : List Nat} (h : PE X e (tLc wi g tt te vs)) : PE X e (tLcO wi g tt te vs) := h
theorem ps_setLcO {X : Cx} {st : Stmt} {wi : TI} {g k : TG} {tt : TT} {te : TE} {vs : List Nat} (h : PS X st (tAsg (tLc wi g tt te vs) k)) : PS X st (tAsg (tLcO wi g tt te vs) k) := h
theorem ps_forO {X : Cx} {st : Stmt} {wi : TI} {g : TG} {tb : TS} (h : PS X st (tFor wi g tb)) : PS X st (tForO wi g tb) := h
/-! ### the unions within a comprehension -/
section
variable {X : Cx} {s : Shared} {H : Hp} {sc : Scope} {ce : Env} {fp : List Addr} {s' : Shared} {H' : Hp} {sc' : Scope} {ce' : Env} {fp' : List Addr}
theorem pg_tupB {es : List Expr} {k n : Nat} {pos : Pos} {t : TGs} (hc : X.calm = true) (h : PGs (X.blk s H sc ce fp) es t) (hn : (assignEach es (X.blk s H sc ce fp).env).length = n := by rfl)
    (hst : (assignEach es (X.blk s H sc ce fp).env).findIdx? (·.1) = none := by rfl) : PG (X.blk s H sc ce fp) (.Tuple es k pos) (gTup X.K n t) := pg_tup (X := X.blk s H sc ce fp) hc h hn hst
theorem opAddB : OpR (X.blk s H sc ce fp) (binaryOp .Add) (rAdd X.K) := opAdd
theorem opEqB {k : Nat} (hr : Room k X.A) : OpR (X.blk s H sc ce fp) (compareOp .Eq) (rEqA X.K) := opEq hr
theorem opNeB {k : Nat} (hr : Room k X.A) : OpR (X.blk s H sc ce fp) (compareOp .NotEq) (rNeA X.K) := opNe hr
theorem opInB : OpR (X.blk s H sc ce fp) (compareOp .In) (rInA X.K) := opIn
theorem opNotInB : OpR (X.blk s H sc ce fp) (compareOp .NotIn) (rNotInA X.K) := opNotIn
theorem ixAnyB : IxR (X.blk s H sc ce fp) (rIxA X.K X.w) := ixAny
theorem slAnyB : SlR (X.blk s H sc ce fp) (rSlAny X.K) := slAny
theorem callLenB : CallR (X.blk s H sc ce fp) (.builtin "len") (rLenA X.K) := callLen
theorem opAddBB : OpR ((X.blk s H sc ce fp).blk s' H' sc' ce' fp') (binaryOp .Add) (rAdd X.K) := opAdd
theorem opEqBB {k : Nat} (hr : Room k X.A) : OpR ((X.blk s H sc ce fp).blk s' H' sc' ce' fp') (compareOp .Eq) (rEqA X.K) := opEq hr
theorem opNeBB {k : Nat} (hr : Room k X.A) : OpR ((X.blk s H sc ce fp).blk s' H' sc' ce' fp') (compareOp .NotEq) (rNeA X.K) := opNe hr
theorem opInBB : OpR ((X.blk s H sc ce fp).blk s' H' sc' ce' fp') (compareOp .In) (rInA X.K) := opIn
theorem opNotInBB : OpR ((X.blk s H sc ce fp).blk s' H' sc' ce' fp') (compareOp .NotIn) (rNotInA X.K) := opNotIn
theorem ixAnyBB : IxR ((X.blk s H sc ce fp).blk s' H' sc' ce' fp') (rIxA X.K X.w) := ixAny
theorem slAnyBB : SlR ((X.blk s H sc ce fp).blk s' H' sc' ce' fp') (rSlAny X.K) := slAny
theorem callLenBB : CallR ((X.blk s H sc ce fp).blk s' H' sc' ce' fp') (.builtin "len") (rLenA X.K) := callLen
end
/-- a for: Pv by the turn, the slots and the heap -/
theorem frG {J : It} {n : Nat} {G : Hp → Prop} {Y : Nat → Hp → V → Hp → Prop} (w : Walk J n G Y) {g : TG} {tb : TS} {D : Ends} {σ : L2.St} {H : Hp} (Pv : Nat → L2.St → Hp → Prop) (h0 : Pv 0 σ H) (hG : ∀ i σ H, i ≤ n → Pv i σ H → G H)
    (hs : ∀ i x σ H H', i < n → Pv i σ H → Y i H x H' → g x σ H' fun σ2 H2 => tb { D with nx := Pv (i + 1), ct := Pv (i + 1), bk := D.nx } σ2 H2) (hd : ∀ σ H, Pv n σ H → D.nx σ H) : ForRest g tb D σ J H := for_it w Pv h0 hG hs hd
/-- a comprehension whose turns may give anything: Pa speaks of the turn, what has been given, and tuples -/
theorem lcG {J : It} {n : Nat} {G : Hp → Prop} {Y : Nat → Hp → V → Hp → Prop} (w : Walk J n G Y) {g : TG} {tt : TT} {te : TE} {vs : List Nat} {σ : L2.St} {H1 : Hp} {Q : VK} (hn : n ≤ 40000) (hG0 : G H1) (hGm : ∀ H H', Ex H H' → G H → G H') (hY : ∀ i H x H', Y i H x H' → Ex H H')
    (Pa : Nat → List V → Hp → Prop) (hm : ∀ i ys H H', TEx H H' → Pa i ys H → Pa i ys H') (p0 : Pa 0 [] H1)
    (hs : ∀ i x H H' ys, i < n → Ex H1 H → Y i H x H' → Pa i ys H' → ∀ (N : V → Hp → Prop) (N0 : Hp → Prop), (∀ y H4, Ex H' H4 → Pa (i + 1) (ys ++ [y]) H4 → N y H4) → (∀ H3, Ex H' H3 → Pa (i + 1) ys H3 → N0 H3) →
      g x (wipe σ vs) H' fun σ2 H2 => wipe σ2 vs = wipe σ vs ∧ tt σ2 H2 fun b H3 => if b = true then te σ2 H3 N else N0 H3)
    (k : ∀ D H2 ys, H1 D = none → Ex H1 H2 → H2 D = some (.lst ys) → ys.length ≤ n → Pa n ys H2 → Q (.ref D) H2) :
    LcRest g tt te vs σ Q J H1 := by
  intro D hD
  refine lc_it w (fun i H => ∃ ys, Ex H1 H ∧ H D = some (.lst ys) ∧ ys.length ≤ i ∧ Pa i ys H) ⟨[], Ex.new hD, upd_same, Nat.zero_le _, hm _ _ _ _ (TEx.of (Ex.new hD)) p0⟩ (fun i H hi ⟨ys, e, _⟩ => hGm _ _ e hG0) ?_ ?_
  · rintro i x H H' hi ⟨ys, e, hd, hl, hp⟩ hy
    have e' := hY _ _ _ _ hy
    refine hs i x H H' ys hi e hy (hm _ _ _ _ (TEx.of e') hp) _ _ (fun y H4 e4 p4 => ?_) (fun H3 e3 p3 => ?_)
    · have d4 := e4 _ _ (e' _ _ hd)
      refine ⟨ys, d4, sz_lt (by omega), ys ++ [y], Ex.mut ((e.trans e').trans e4) hD, upd_same, ?_, hm _ _ _ _ (TEx.lst d4) p4⟩
      rw [List.length_append]
      show ys.length + 1 ≤ i + 1
      omega
    · exact ⟨ys, (e.trans e').trans e3, e3 _ _ (e' _ _ hd), by omega, p3⟩
  · rintro H ⟨ys, e, hd, hl, hp⟩
    exact k D H ys hD e hd hl hp
theorem ex_eq {H H' : Hp} (h : H' = H) : Ex H H' := by
  subst h
  exact Ex.refl _
theorem yAt_ex {xs : List V} : ∀ i H x H', YAt xs i H x H' → Ex H H' := fun _ _ _ _ h => ex_eq h.1
theorem yFn_ex {f : Nat → V} : ∀ i H x H', YFn f i H x H' → Ex H H' := fun _ _ _ _ h => ex_eq h.1
theorem yPair_ex {xs ys : Nat → Option V} : ∀ i H x H', YPair xs ys i H x H' → Ex H H' := fun _ _ _ _ h => by
  obtain ⟨T, u, v, _, h1, rfl, _, _⟩ := h
  exact Ex.new h1
/-! ### texts by their signs -/
def cs (z : Str) : List Nat := z.cps.toList
theorem cs_ext {a b : Str} (h : cs a = cs b) : a = b := PyProof.Rows.ext_toList h
theorem cs_len (z : Str) : z.length = (cs z).length := by simp [cs, Str.length]
theorem cs_add (a b : Str) : cs (a ++ b) = cs a ++ cs b := TL.tl_append a b
theorem cs_one (c : Nat) : cs ⟨#[c]⟩ = [c] := rfl
theorem cut_from (xs : List V) (j : Nat) : cutV xs (some (j : Int)) none = xs.drop j := by
  unfold cutV
  rw [HT.sIx_nat, HT.sIx_none]
  by_cases h : j ≤ xs.length
  · rw [Nat.min_eq_left h]
    apply List.take_of_length_le
    rw [List.length_drop]
    exact Nat.le_refl _
  · rw [Nat.min_eq_right (by omega), Nat.sub_self, List.take_zero, List.drop_of_length_le (by omega)]
theorem joinL_one : ∀ l : List Nat, TL.joinL [] (l.map fun c => [c]) = l
  | [] => rfl
  | [c] => rfl
  | c :: d :: r => by
    show [c] ++ ([] ++ TL.joinL [] ((d :: r).map fun c => [c])) = c :: d :: r
    rw [joinL_one (d :: r)]
    rfl
def sgn (c : Nat) : Str := ⟨#[c]⟩
theorem sum_sgn : ∀ cr : List Nat, ((cr.map sgn).map (·.length)).sum = cr.length
  | [] => rfl
  | c :: r => by
    rw [List.map_cons, List.map_cons, List.sum_cons, sum_sgn r, List.length_cons]
    show 1 + r.length = r.length + 1
    omega
theorem join_sgn (l : List Nat) : Txt.join ("" : Str) (l.map sgn) = SX.S l := by
  have e : l.map sgn = (l.map fun c => [c]).map SX.S := by
    rw [List.map_map]
    rfl
  rw [e]
  have q := SX.join_S [] (l.map fun c => [c])
  rw [joinL_one] at q
  exact q
theorem in_strs (z : Str) : ∀ ns : List Str, inV (.str z) (ns.map V.str) = decide (z ∈ ns)
  | [] => rfl
  | n :: ns => by
    have ih := in_strs z ns
    unfold inV at ih ⊢
    rw [List.map_cons, List.any_cons, ih]
    show ((n == z) || decide (z ∈ ns)) = decide (z ∈ n :: ns)
    by_cases h : n = z
    · subst h
      simp
    · have h2 : ¬ z = n := fun e => h e.symm
      have h3 : (n == z) = false := beq_eq_false_iff_ne.mpr h
      rw [h3, Bool.false_or]
      simp [h2]
theorem flat_strs (ns : List Str) : (ns.map V.str).all flatV = true := by
  rw [List.all_eq_true]
  intro x hx
  obtain ⟨y, _, rfl⟩ := List.mem_map.mp hx
  rfl
theorem str_at {ns : List Str} {i : Nat} {x : V} (h : (ns.map V.str)[i]? = some x) : ∃ z, ns[i]? = some z ∧ x = .str z := by
  rw [List.getElem?_map] at h
  cases e : ns[i]? with
  | none => rw [e] at h; cases h
  | some z => rw [e] at h; exact ⟨z, rfl, (Option.some.inj h).symm⟩
end Own

namespace Own
open PySem PySem.Spec PyProof.Rows L2 Evl
theorem listText_le (ts : List Str) : (listText ts).length ≤ piled ts + 3 := by
  unfold listText
  rw [strLen_append]
  cases ts with
  | nil => decide
  | cons t r =>
    show (textFrom 1 (("[" : Str) ++ ("" : Str) ++ t) r).length + 1 ≤ _
    rw [textFrom_length_pos _ _ _ (by decide), piled_cons, strLen_append, strLen_append]
    show 1 + 0 + t.length + piled r + 1 ≤ _
    omega
theorem tupleText_le (ts : List Str) : (tupleText ts).length ≤ piled ts + 3 := by
  unfold tupleText
  rw [strLen_append, strLen_append]
  have e3 : (((if ts.length == 1 then ",)" else ")" : String) : Str)).length ≤ 2 := by split <;> decide
  have e1 : ((("(" : String) : Str)).length = 1 := rfl
  by_cases h : ts = []
  · subst h
    decide
  · have := join_length_add ts h
    omega
mutual
/-- no text of d is longer -/
def wt : PyData → Nat
  | .none => 4
  | .bool _ => 5
  | .int _ => 1921
  | .str x => 10 * x.length + 2
  | .list xs => wts xs + 3
  | .tuple xs => wts xs + 3
  | .dict _ => 0
def wts : List PyData → Nat
  | [] => 0
  | x :: xs => wt x + 2 + wts xs
end
mutual
theorem shown_le : ∀ d : PyData, d.canLay0 = true → d.showable = true → d.shown.length ≤ wt d
  | .none, _, _ => by decide
  | .bool b, _, _ => by cases b <;> decide
  | .int i, _, h => int_text_len_1921 (of_decide_eq_true h)
  | .str x, h, _ => by
    refine StrLaws.reprText_len x fun c hc => ?_
    have h2 : x.cps.all (· < 0x110000) = true := h
    rw [← Array.all_toList] at h2
    have q := of_decide_eq_true ((List.all_eq_true.mp h2) c hc)
    exact Nat.lt_trans q (by decide)
  | .list xs, h, h2 => by
    have q := shownAll_le xs h h2
    have z := listText_le (PyData.shownAll xs)
    show (listText (PyData.shownAll xs)).length ≤ wts xs + 3
    omega
  | .tuple xs, h, h2 => by
    have q := shownAll_le xs h h2
    have z := tupleText_le (PyData.shownAll xs)
    show (tupleText (PyData.shownAll xs)).length ≤ wts xs + 3
    omega
  | .dict _, h, _ => by cases h
theorem shownAll_le : ∀ ds : List PyData, PyData.canLayAll0 ds = true → PyData.showableAll ds = true → piled (PyData.shownAll ds) ≤ wts ds
  | [], _, _ => Nat.le_refl _
  | d :: ds, h, h2 => by
    have h' : (d.canLay0 && PyData.canLayAll0 ds) = true := h
    have h2' : (d.showable && PyData.showableAll ds) = true := h2
    rw [Bool.and_eq_true] at h' h2'
    have q1 := shown_le d h'.1 h2'.1
    have q2 := shownAll_le ds h'.2 h2'.2
    show piled (d.shown :: PyData.shownAll ds) ≤ wt d + 2 + wts ds
    rw [piled_cons]
    omega
end
/-- data that may be shown and compared -/
def fine (d : PyData) : Prop := d.canLay0 = true ∧ d.showable = true ∧ d.depth ≤ 20 ∧ wt d ≤ 16000000
theorem fine.noDict {d : PyData} (h : fine d) : d.hasDict = false := PyData.hasDict_of_canLay d h.1
theorem fine.shp {d : PyData} (h : fine d) : SeqAt.shaped d = true := by
  unfold SeqAt.shaped
  rw [h.1, Bool.true_and]
  exact decide_eq_true (Nat.le_trans h.2.2.1 (by decide))
theorem fine.len {d : PyData} (h : fine d) : d.shown.length ≤ sizeLine := Nat.le_trans (shown_le d h.1 h.2.1) (Nat.le_trans h.2.2.2 (by decide))
/-- repr of any data -/
def rReprA (K : PySem.W.Frag) : List V → Hp → VK → Prop := fun xs H Q => ∃ v d, xs = [v] ∧ Dp K H v d ∧ fine d ∧ Q (.str d.shown) H
theorem callReprA {X : Cx} {k : Nat} (hg : X.A.guards = some []) (hr : Room k X.A) : CallR X (.builtin "repr") (rReprA X.K) := by
  intro pk s τ H xs us Q I r h
  obtain ⟨v, d, rfl, hd, hf, q⟩ := h
  cases hd with
  | lst h1 h2 => exact callRepr hg hr pk s τ H _ us Q I r ⟨_, _, rfl, .lst h1 h2, hf.2.1, hf.noDict, hf.2.2.1, hf.len, q⟩
  | tup h1 h2 => exact callRepr hg hr pk s τ H _ us Q I r ⟨_, _, rfl, .tup h1 h2, hf.2.1, hf.noDict, hf.2.2.1, hf.len, q⟩
  | non =>
    obtain ⟨u, rfl, ru⟩ := vals1 r
    cases ru
    exact PySem.P.repr_of_none ⟨.str "None", H, I.tok _, ⟨_, rfl⟩, q⟩
  | bl b =>
    obtain ⟨u, rfl, ru⟩ := vals1 r
    cases ru
    exact PySem.P.repr_of_bool ⟨.str (if b then "True" else "False"), H, I.tok _, ⟨_, by cases b <;> rfl⟩, by cases b <;> exact q⟩
  | int i =>
    obtain ⟨u, rfl, t, rfl⟩ := vals1 r
    exact PySem.P.repr_of_int (of_decide_eq_true hf.2.1) ⟨.str (toString i), H, I.tok _, ⟨_, rfl⟩, q⟩
  | str x =>
    obtain ⟨u, rfl, t, rfl⟩ := vals1 r
    exact PySem.P.repr_of_str ⟨.str (reprText x), H, I.tok _, ⟨_, rfl⟩, q⟩ hf.len
def spAlike (K : PySem.W.Frag) : Sp := fun vs H Q _ => ∃ (x y : V) (d : PyData), vs = [x, y] ∧ Dp K H x d ∧ Dp K H y d ∧ fine d ∧ Q (.bl true) H
/-- bounds by parts -/
def fin (n W : Nat) (d : PyData) : Prop := d.canLay0 = true ∧ d.showable = true ∧ d.depth ≤ n ∧ wt d ≤ W
theorem fin.fine {n W : Nat} {d : PyData} (h : fin n W d) (h1 : n ≤ 20) (h2 : W ≤ 16000000) : fine d := ⟨h.1, h.2.1, Nat.le_trans h.2.2.1 h1, Nat.le_trans h.2.2.2 h2⟩
theorem fin.mono {n W n' W' : Nat} {d : PyData} (h : fin n W d) (h1 : n ≤ n') (h2 : W ≤ W') : fin n' W' d := ⟨h.1, h.2.1, Nat.le_trans h.2.2.1 h1, Nat.le_trans h.2.2.2 h2⟩
theorem fin_all {n W : Nat} : ∀ {ds : List PyData}, (∀ d ∈ ds, fin n W d) → PyData.canLayAll0 ds = true ∧ PyData.showableAll ds = true ∧ PyData.depthAll ds ≤ n ∧ wts ds ≤ ds.length * (W + 2)
  | [], _ => ⟨rfl, rfl, Nat.zero_le _, Nat.zero_le _⟩
  | d :: ds, h => by
    obtain ⟨a1, a2, a3, a4⟩ := h d List.mem_cons_self
    obtain ⟨b1, b2, b3, b4⟩ := fin_all fun x hx => h x (List.mem_cons_of_mem _ hx)
    refine ⟨?_, ?_, ?_, ?_⟩
    · show (d.canLay0 && PyData.canLayAll0 ds) = true
      rw [a1, b1]
      rfl
    · show (d.showable && PyData.showableAll ds) = true
      rw [a2, b2]
      rfl
    · show max d.depth (PyData.depthAll ds) ≤ n
      omega
    · show wt d + 2 + wts ds ≤ (ds.length + 1) * (W + 2)
      rw [Nat.add_mul]
      omega
theorem fin_list {n W m : Nat} {ds : List PyData} (h : ∀ d ∈ ds, fin n W d) (hm : ds.length ≤ m) : fin (n + 1) (m * (W + 2) + 3) (.list ds) := by
  obtain ⟨b1, b2, b3, b4⟩ := fin_all h
  refine ⟨b1, b2, Nat.succ_le_succ b3, ?_⟩
  show wts ds + 3 ≤ _
  have q := Nat.mul_le_mul_right (W + 2) hm
  omega
theorem fin_tup {n W m : Nat} {ds : List PyData} (h : ∀ d ∈ ds, fin n W d) (hm : ds.length ≤ m) : fin (n + 1) (m * (W + 2) + 3) (.tuple ds) := by
  obtain ⟨b1, b2, b3, b4⟩ := fin_all h
  refine ⟨b1, b2, Nat.succ_le_succ b3, ?_⟩
  show wts ds + 3 ≤ _
  have q := Nat.mul_le_mul_right (W + 2) hm
  omega
theorem fin_str {z : Str} {L : Nat} (h : (PyData.str z).canLay0 = true) (hl : z.length ≤ L) : fin 0 (10 * L + 2) (.str z) := by
  refine ⟨h, rfl, Nat.le_refl _, ?_⟩
  show 10 * z.length + 2 ≤ _
  omega
theorem fin_bool (b : Bool) : fin 0 5 (.bool b) := ⟨rfl, rfl, Nat.le_refl _, Nat.le_refl _⟩
theorem fin_none : fin 0 5 .none := ⟨rfl, rfl, Nat.le_refl _, by show 4 ≤ 5; decide⟩
theorem fin_int {i : Int} (h : i.natAbs.log2 < 1920) : fin 0 1921 (.int i) := ⟨rfl, decide_eq_true h, Nat.le_refl _, Nat.le_refl _⟩
/-- a text times 0 or 1 -/
def rMulS : R2 := fun x y H Q => ∃ (z : Str) (k : Bool), x = .str z ∧ y = .int (if k then 1 else 0) ∧ z.length ≤ 100000 ∧ Q (.str (if k then z else Str.empty)) H
theorem op_mulS {X : Cx} : OpR X (binaryOp .Mult) rMulS := by
  intro pk s τ H x y v u Q I rx ry h
  obtain ⟨z, k, rfl, rfl, hl, q⟩ := h
  obtain ⟨t, rfl⟩ := rx
  cases k with
  | false =>
    obtain ⟨t', rfl⟩ := ry
    exact PySem.P.mul_str_none (by decide) (by decide) ⟨.str _, H, I.tok _, ⟨_, rfl⟩, q⟩
  | true =>
    obtain ⟨t', rfl⟩ := ry
    have z : EP X pk τ Q (.str z t) s := ⟨.str _, H, I, ⟨_, rfl⟩, q⟩
    refine PySem.P.mul_str (by decide) (fun _ h => absurd h (by simp)) (fun _ h => absurd h (by simp)) ?_
    rw [if_neg (by decide), if_pos (by simp)]
    exact z
end Own

namespace Own
open PySem PySem.Spec PyProof.Rows L2 Evl
/-! ### two sources in one comprehension -/
def Lc2Rest (g : TG) (tt : TT) (wi1 : TI) (g1 : TG) (tt1 : TT) (te : TE) (vs vs1 : List Nat) (σ : L2.St) (Q : VK) : It → Hp → Prop := fun J H1 => tLc2 (fun _ _ R => R J H1) g tt wi1 g1 tt1 te vs vs1 σ H1 Q
def tLc2O (wi : TI) (g : TG) (tt : TT) (wi1 : TI) (g1 : TG) (tt1 : TT) (te : TE) (vs vs1 : List Nat) : TE := fun σ H Q => wi σ H (Lc2Rest g tt wi1 g1 tt1 te vs vs1 σ Q)
theorem pe_lc2O {X : Cx} {e : Expr} {wi wi1 : TI} {g g1 : TG} {tt tt1 : TT} {te : TE} {vs vs1 : List Nat} (h : PE X e (tLc2 wi g tt wi1 g1 tt1 te vs vs1)) : PE X e (tLc2O wi g tt wi1 g1 tt1 te vs vs1) := h
theorem ps_setLc2O {X : Cx} {st : Stmt} {wi wi1 : TI} {g g1 k : TG} {tt tt1 : TT} {te : TE} {vs vs1 : List Nat} (h : PS X st (tAsg (tLc2 wi g tt wi1 g1 tt1 te vs vs1) k)) : PS X st (tAsg (tLc2O wi g tt wi1 g1 tt1 te vs vs1) k) := h
theorem piAnyB {X : Cx} {s : Shared} {H : Hp} {sc : Scope} {ce : Env} {fp : List Addr} {tg l : Expr} {tl : TE} (hl : PE (X.blk s H sc ce fp) l tl) : PI (X.blk s H sc ce fp) tg l (iAny X.K tl) := piAny hl
/-- what is left of the second source's loop -/
def InRest (D : Addr) (Nx : Hp → Prop) (g1 : TG) (tt1 : TT) (te : TE) (vs1 : List Nat) (σ2 : L2.St) : It → Hp → Prop := fun J1 H4 => ∃ W1 : Nat → Nat → Hp → Prop, (∃ m, W1 0 m H4) ∧ ∀ j k H, W1 j k H →
  (J1.stop j H ∧ Nx H) ∨ (J1.go j H ∧ ∃ Nx1 : Hp → Prop, (∀ H', Nx1 H' → ∃ k', k' < k ∧ W1 (j + 1) k' H') ∧ ∀ x H', J1.yld j H x H' → g1 x (wipe σ2 vs1) H' fun σ3 H5 => wipe σ3 vs1 = wipe σ2 vs1 ∧ tt1 σ3 H5 fun b H6 =>
    if b = true then te σ3 H6 fun y H7 => ∃ acc, H7 D = some (.lst acc) ∧ acc.length < sizeLine ∧ Nx1 (upd H7 D (.lst (acc ++ [y]))) else Nx1 H6)
theorem inG {J1 : It} {n1 : Nat} {G1 : Hp → Prop} {Y1 : Nat → Hp → V → Hp → Prop} (w1 : Walk J1 n1 G1 Y1) {D : Addr} {Nx : Hp → Prop} {g1 : TG} {tt1 : TT} {te : TE} {vs1 : List Nat} {σ2 : L2.St} {H1 H4 : Hp} {ys : List V}
    (hD : H1 D = none) (e0 : Ex H1 H4) (hd : H4 D = some (.lst ys)) (hG1 : ∀ H, Ex H1 H → TEx H4 H → G1 H) (hY1 : ∀ i H x H', Y1 i H x H' → Ex H H') (Pb : Nat → List V → Hp → Prop) (hm : ∀ j zs H H', TEx H H' → Pb j zs H → Pb j zs H') (hl : ∀ j zs H, Pb j zs H → zs.length ≤ 40000) (p0 : Pb 0 ys H4)
    (hs : ∀ j x H5 H6 zs, j < n1 → Ex H1 H5 → TEx H4 H5 → Y1 j H5 x H6 → Pb j zs H6 → ∀ (N : V → Hp → Prop) (N1 : Hp → Prop), (∀ y H7, Ex H6 H7 → Pb (j + 1) (zs ++ [y]) H7 → N y H7) → (∀ H7, Ex H6 H7 → Pb (j + 1) zs H7 → N1 H7) →
      g1 x (wipe σ2 vs1) H6 fun σ3 H7 => wipe σ3 vs1 = wipe σ2 vs1 ∧ tt1 σ3 H7 fun b H8 => if b = true then te σ3 H8 N else N1 H8)
    (hend : ∀ zs H, Ex H1 H → TEx H4 H → H D = some (.lst zs) → Pb n1 zs H → Nx H) : InRest D Nx g1 tt1 te vs1 σ2 J1 H4 := by
  refine ⟨fun j k H => k = n1 - j ∧ j ≤ n1 ∧ ∃ zs, Ex H1 H ∧ TEx H4 H ∧ H D = some (.lst zs) ∧ Pb j zs H, ⟨n1, by simp, Nat.zero_le _, ys, e0, TEx.refl _, hd, p0⟩, ?_⟩
  rintro j k H ⟨rfl, hj, zs, e, t, d, p⟩
  have hg := hG1 H e t
  by_cases hlt : j < n1
  · refine .inr ⟨w1.goes j H hlt hg, fun H' => ∃ zs, Ex H1 H' ∧ TEx H4 H' ∧ H' D = some (.lst zs) ∧ Pb (j + 1) zs H', fun H' q => ⟨n1 - (j + 1), by omega, rfl, hlt, q⟩, fun x H' y => ?_⟩
    have hy := w1.yields j H x H' hlt hg y
    have e' := hY1 _ _ _ _ hy
    refine hs j x H H' zs hlt e t hy (hm _ _ _ _ (TEx.of e') p) _ _ (fun v H7 e7 p7 => ?_) (fun H7 e7 p7 => ?_)
    · have d7 := e7 _ _ (e' _ _ d)
      have b := hl _ _ _ p
      exact ⟨zs, d7, sz_lt (by omega), zs ++ [v], Ex.mut ((e.trans e').trans e7) hD, (t.trans (TEx.of (e'.trans e7))).trans (TEx.lst d7), upd_same, hm _ _ _ _ (TEx.lst d7) p7⟩
    · exact ⟨zs, (e.trans e').trans e7, t.trans (TEx.of (e'.trans e7)), e7 _ _ (e' _ _ d), p7⟩
  · have ej : j = n1 := by omega
    subst ej
    exact .inl ⟨w1.stops H hg, hend zs H e t d p⟩
/-- a comprehension over two sources whose turns may give anything -/
theorem lc2G {J : It} {n : Nat} {G : Hp → Prop} {Y : Nat → Hp → V → Hp → Prop} (w : Walk J n G Y) {g : TG} {tt : TT} {wi1 : TI} {g1 : TG} {tt1 : TT} {te : TE} {vs vs1 : List Nat} {σ : L2.St} {H1 : Hp} {Q : VK} (hG0 : G H1) (hGm : ∀ H H', Ex H H' → G H → G H') (hY : ∀ i H x H', Y i H x H' → Ex H H')
    (Pa : Nat → List V → Hp → Prop) (hm : ∀ i ys H H', TEx H H' → Pa i ys H → Pa i ys H') (p0 : Pa 0 [] H1)
    (hs : ∀ i x H H' ys, i < n → Ex H1 H → Y i H x H' → Pa i ys H' → ∀ (D : Addr) (Nx : Hp → Prop), H1 D = none → H' D = some (.lst ys) → (∀ zs H3, Ex H1 H3 → H3 D = some (.lst zs) → Pa (i + 1) zs H3 → Nx H3) →
      g x (wipe σ vs) H' fun σ2 H2 => wipe σ2 vs = wipe σ vs ∧ tt σ2 H2 fun b H3 => if b = true then wi1 σ2 H3 (InRest D Nx g1 tt1 te vs1 σ2) else Nx H3)
    (k : ∀ D H2 ys, H1 D = none → Ex H1 H2 → H2 D = some (.lst ys) → Pa n ys H2 → Q (.ref D) H2) : Lc2Rest g tt wi1 g1 tt1 te vs vs1 σ Q J H1 := by
  intro D hD
  refine ⟨fun i m H => m = n - i ∧ i ≤ n ∧ ∃ ys, Ex H1 H ∧ H D = some (.lst ys) ∧ Pa i ys H, ⟨n, by simp, Nat.zero_le _, [], Ex.new hD, upd_same, hm _ _ _ _ (TEx.of (Ex.new hD)) p0⟩, ?_⟩
  rintro i m H ⟨rfl, hi, ys, e, d, p⟩
  have hg := hGm _ _ e hG0
  by_cases hlt : i < n
  · refine .inr ⟨w.goes i H hlt hg, fun H' => ∃ ys, Ex H1 H' ∧ H' D = some (.lst ys) ∧ Pa (i + 1) ys H', fun H' q => ⟨n - (i + 1), by omega, rfl, hlt, q⟩, fun x H' y => ?_⟩
    have hy := w.yields i H x H' hlt hg y
    have e' := hY _ _ _ _ hy
    exact hs i x H H' ys hlt e hy (hm _ _ _ _ (TEx.of e') p) D _ hD (e' _ _ d) fun zs H3 e3 d3 p3 => ⟨zs, e3, d3, p3⟩
  · have ej : i = n := by omega
    subst ej
    exact .inl ⟨w.stops H hg, k D H ys hD e d p⟩
/-! ### xs[::s], s being 1 or -1 -/
def tDirL (K : PySem.W.Frag) (te ts : TE) : TE := fun σ H Q => te σ H fun x H1 => tPart ts σ H1 fun o H2 => ∃ (a : Addr) (xs : List V) (i : Bool), x = .ref a ∧ SqL K H2 a xs ∧ o = some (if i = true then 1 else -1) ∧ ∀ p, H2 p = none → Q (.ref p) (upd H2 p (.lst (if i = true then xs else xs.reverse)))
theorem cut_all (xs : List V) : cutV xs none none = xs := by
  unfold cutV
  rw [HT.sIx_none, HT.sIx_none, List.drop_zero, Nat.sub_zero, List.take_length]
theorem pe_dirL {X : Cx} {e es : Expr} {te ts : TE} {p3 pos : Pos} (he : PE X e te) (hs : PE X es ts)
    (hsub : ∀ (a l : Addr), subscripted (.Slice none none (some es) p3) false (.ref a) (.ref l) = operate [.ref a, .ref l] (getItem (.ref a) (.ref l)) := by intro _ _; with_unfolding_all rfl) : PE X (.Subscript e (.Slice none none (some es) p3) pos) (tDirL X.K te ts) := by
  refine ⟨fun pins s σ H Q I h => ?_⟩
  refine Subscript_ (thn (he.run pins s σ H _ I h) fun v s1 ⟨x, H1, I1, r1, q1⟩ => ?_)
  refine wpAny_Slice (thn (po_none.run pins s1 σ H1 (fun o H2 => o = none ∧ H2 = H1) I1 ⟨rfl, rfl⟩) fun vl s2 ⟨l, H2, I2, pl, el, e2⟩ => ?_)
  subst el e2
  refine thn (po_none.run pins s2 σ H2 (fun o H3 => o = none ∧ H3 = H2) I2 ⟨rfl, rfl⟩) fun vu s3 ⟨u, H3, I3, pu, eu, e3⟩ => ?_
  subst eu e3
  have hst : PO X (some es) (tPart ts) := po_some hs
  refine thn (hst.run pins s3 σ H3 _ I3 q1) fun vs s4 ⟨o, H4, I4, ps, a, xs, ib, ex, hx, eo, q⟩ => ?_
  subst ex
  cases r1
  subst eo
  have I5 : Inv X pins σ H4 { s4 with heap := s4.heap.push { cls := .type "slice", data := .fields #[vl, vu, vs] } } := I4.kept (t' := s4.toks) fun b ob q => Heap.get?_push_of_some _ q
  obtain ⟨its, r, ht, hz⟩ := I5.list hx
  have hlen := r.length
  show wpAny (model X.prog X.w) X.A (subscriptTail e (.Slice none none (some es) p3) (.ref a) (.ref s4.heap.objs.size)) (EP X pins σ Q) X.xe { s4 with heap := s4.heap.push { cls := .type "slice", data := .fields #[vl, vu, vs] } }
  refine tail_any (ops := [.ref a, .ref s4.heap.objs.size]) ht.isList.typeIs (PySem.slot_list_getitem.lookup) ?_ (hsub _ _)
  cases ib with
  | true =>
    simp only [if_true] at q ps ⊢
    refine wpAny_getItem_list_slice ht.isList (Heap.IsSliceOf.new _ vl vu vs) pl pu ps (by decide) ?_ (by rw [List.size_toArray]; omega)
    rw [show slicePick its.toArray none none (some 1) = slicePick its.toArray none none none from rfl, slicePick_cut, HT.sIx_none, HT.sIx_none, List.drop_zero, Nat.sub_zero, List.take_length]
    exact ⟨.ref _, _, I5.laid (t' := s4.toks) (o := .lst xs) (fun b ob q => Heap.get?_push_of_some _ q) (Nat.le_refl _) ⟨hz, _, 0, r, Heap.get?_push_size _ rfl⟩, rfl, q _ (I5.hok.fresh (Nat.le_refl _))⟩
  | false =>
    simp only [Bool.false_eq_true, if_false] at q ps ⊢
    refine wpAny_getItem_list_slice ht.isList (Heap.IsSliceOf.new _ vl vu vs) pl pu ps (by decide) ?_ (by rw [List.size_toArray]; omega)
    rw [PySem.W.krv_pick]
    exact ⟨.ref _, _, I5.laid (t' := s4.toks) (o := .lst xs.reverse) (fun b ob q => Heap.get?_push_of_some _ q) (Nat.le_refl _) ⟨by rw [List.length_reverse]; exact hz, _, 0, r.reverse, Heap.get?_push_size _ rfl⟩, rfl, q _ (I5.hok.fresh (Nat.le_refl _))⟩
theorem ifT {b : Bool} {p q : Prop} (h : b = true) (x : p) : if b = true then p else q := by
  rw [h]
  exact iteT x
theorem ifF {b : Bool} {p q : Prop} (h : b = false) (x : q) : if b = true then p else q := by
  rw [h]
  exact iteF x
theorem cut_to (xs : List V) (j : Nat) : cutV xs none (some (j : Int)) = xs.take j := by
  unfold cutV
  rw [HT.sIx_nat, HT.sIx_none, List.drop_zero, Nat.sub_zero]
  by_cases h : j ≤ xs.length
  · rw [Nat.min_eq_left h]
  · rw [Nat.min_eq_right (by omega), List.take_of_length_le (Nat.le_refl _), List.take_of_length_le (by omega)]
/-! ### repr of a dict of texts and ints -/
def kvV (p : Str × Int) : Key × V := (Sum.inr p.1, .int p.2)
def kvP (p : Str × Int) : PyData × PyData := (.str p.1, .int p.2)
def dcD (kv : List (Str × Int)) : PyData := .dict (kv.map kvP)
theorem dc_reads {P : Program} {w : World} {h : Heap} : ∀ {kv : List (Str × Int)} {us : List (Key × Value)} {es : List DictEntry}, KV (kv.map kvV) us → Pairs (mixKind P w) es us →
    ReadsAll h (es.map (·.key)) ((kv.map kvP).map (·.1)) [] ∧ ReadsAll h (es.map (·.val)) ((kv.map kvP).map (·.2)) []
  | [], _, _, .nil, .nil => ⟨.nil, .nil⟩
  | p :: kv, u :: us, e :: es, .cons a b, .cons c d f => by
    obtain ⟨q1, q2⟩ := dc_reads b f
    obtain ⟨a1, t, a2⟩ := a
    have a1 : Sum.inr p.1 = u.1 := a1
    rcases keyIs_shape (show keyIs u.1 e.key = true from c) with ⟨i, t', e1, e2⟩ | ⟨x, t', e1, e2⟩
    · rw [← a1] at e1
      cases e1
    · rw [← a1] at e1
      cases e1
      refine ⟨?_, ?_⟩
      · show ReadsAll h (e.key :: es.map (·.key)) (PyData.str p.1 :: (kv.map kvP).map (·.1)) ([] ++ [])
        rw [e2]
        exact .cons (.str _ _) q1
      · show ReadsAll h (e.val :: es.map (·.val)) (PyData.int p.2 :: (kv.map kvP).map (·.2)) ([] ++ [])
        rw [d, a2]
        exact .cons (.int _ _) q2
def kvOk (p : Str × Int) : Prop := (PyData.str p.1).canLay0 = true ∧ p.1.length ≤ 100 ∧ p.2.natAbs.log2 < 1920
theorem dc_depth : ∀ kv : List (Str × Int), PyData.depthKv (kv.map kvP) = 0
  | [] => rfl
  | p :: kv => by
    show max (max 0 0) (PyData.depthKv (kv.map kvP)) = 0
    rw [dc_depth kv]
    rfl
theorem dc_show : ∀ {kv : List (Str × Int)}, (∀ p ∈ kv, kvOk p) → PyData.showableKv (kv.map kvP) = true ∧ ((PyData.shownKv (kv.map kvP)).map (·.length)).sum ≤ kv.length * 3000 ∧ (PyData.shownKv (kv.map kvP)).length = kv.length
  | [], _ => ⟨rfl, Nat.le_refl _, rfl⟩
  | p :: kv, h => by
    obtain ⟨a1, a2, a3⟩ := dc_show fun q hq => h q (List.mem_cons_of_mem _ hq)
    obtain ⟨b1, b2, b3⟩ := h p List.mem_cons_self
    have s1 := shown_le (.str p.1) b1 rfl
    have s2 := shown_le (.int p.2) rfl (decide_eq_true b3)
    have s1 : (PyData.shown (.str p.1)).length ≤ 10 * p.1.length + 2 := s1
    have s2 : (PyData.shown (.int p.2)).length ≤ 1921 := s2
    refine ⟨?_, ?_, ?_⟩
    · show ((PyData.str p.1).showable && (PyData.int p.2).showable && PyData.showableKv (kv.map kvP)) = true
      rw [a1, show (PyData.str p.1).showable = true from rfl, show (PyData.int p.2).showable = true from decide_eq_true b3]
      rfl
    · show ((PyData.shownKv ((PyData.str p.1, PyData.int p.2) :: kv.map kvP)).map (·.length)).sum ≤ (kv.length + 1) * 3000
      rw [PyData.shownKv_cons, List.map_cons, List.sum_cons, strLen_append, strLen_append]
      have : (": " : Str).length = 2 := rfl
      omega
    · show (PyData.shownKv ((PyData.str p.1, PyData.int p.2) :: kv.map kvP)).length = kv.length + 1
      rw [PyData.shownKv_cons, List.length_cons, a3]
def rReprK : List V → Hp → VK → Prop := fun xs H Q => ∃ (a : Addr) (kv : List (Str × Int)), xs = [.ref a] ∧ H a = some (.dK (kv.map kvV)) ∧ (∀ p ∈ kv, kvOk p) ∧ kv.length ≤ 1000 ∧ Q (.str (dcD kv).shown) H
theorem callReprK {X : Cx} {k : Nat} (hg : X.A.guards = some []) (hr : Room k X.A) : CallR X (.builtin "repr") rReprK := by
  intro pk s τ H xs us Q I r h
  obtain ⟨a, kv, rfl, ha, hok, hl, q⟩ := h
  rw [Vals.ref1 r]
  obtain ⟨hz, hsm, vs, rel, o, es, ep, ho, hex, hdat, hko, hp, hn⟩ := dk_of I.hok ha
  obtain ⟨r1, r2⟩ := dc_reads (h := s.heap) rel hp
  obtain ⟨s1, s2, s3⟩ := dc_show hok
  have rd : Reads s.heap (.ref a) (dcD kv) (a :: [] ++ []) := Reads.dict ho hex.1 hdat r1 r2
  have hu := hr.units
  have hlen : (dcD kv).shown.length ≤ sizeLine := by
    show (dictText (PyData.shownKv (kv.map kvP))).length ≤ sizeLine
    have z := dictText_len_le (PyData.shownKv (kv.map kvP))
    rw [s3] at z
    have := line63
    have z2 : (dictText (PyData.shownKv (kv.map kvP))).length ≤ 4000000 := by
      have := Nat.mul_le_mul_right 3000 hl
      omega
    exact Nat.le_trans z2 (by decide)
  have hdep : (dcD kv).depth = 1 := by
    show PyData.depthKv (kv.map kvP) + 1 = 1
    rw [dc_depth]
  refine repr_of_reads' rd s1 (fun _ hm => ?_) hg (by omega) (fun _ _ e => e) (fun h' u tk hkp => ⟨.str (dcD kv).shown, H, I.kept (h' := h') (t' := tk) hkp, ⟨_, rfl⟩, q⟩) hlen
  have hm : sysModules ∈ [a] := hm
  rw [List.mem_singleton] at hm
  rw [← hm] at hsm
  exact absurd hsm (by decide)
end Own

namespace Own
open PySem PySem.Spec PyProof.Rows L2 Evl
/-! ### values of all kinds -/
mutual
/-- data that is tracked; dicts of texts and ints may stand in it -/
inductive Da (H : Hp) : V → PyData → Prop
  | non : Da H .non .none
  | bl (b : Bool) : Da H (.bl b) (.bool b)
  | int (i : Int) : Da H (.int i) (.int i)
  | str (z : Str) : Da H (.str z) (.str z)
  | lst {a : Addr} {xs : List V} {ds : List PyData} : H a = some (.lst xs) → DaAll H xs ds → Da H (.ref a) (.list ds)
  | tup {a : Addr} {xs : List V} {ds : List PyData} : H a = some (.tup xs) → DaAll H xs ds → Da H (.ref a) (.tuple ds)
  | dct {a : Addr} {kv : List (Str × Int)} {ks : List (PyData × PyData)} : H a = some (.dK (kv.map kvV)) → ks = kv.map kvP → Da H (.ref a) (.dict ks)
inductive DaAll (H : Hp) : List V → List PyData → Prop
  | nil : DaAll H [] []
  | cons {v : V} {vs : List V} {d : PyData} {ds : List PyData} : Da H v d → DaAll H vs ds → DaAll H (v :: vs) (d :: ds)
end
mutual
theorem Da.ex {H H' : Hp} (e : Ex H H') : ∀ (d : PyData) {v : V}, Da H v d → Da H' v d
  | .none, _, h => by cases h; exact .non
  | .bool _, _, h => by cases h; exact .bl _
  | .int _, _, h => by cases h; exact .int _
  | .str _, _, h => by cases h; exact .str _
  | .list ds, _, h => by
    cases h with
    | lst h1 h2 => exact .lst (e _ _ h1) (DaAll.ex e ds h2)
  | .tuple ds, _, h => by
    cases h with
    | tup h1 h2 => exact .tup (e _ _ h1) (DaAll.ex e ds h2)
  | .dict _, _, h => by
    cases h with
    | dct h1 h2 => exact .dct (e _ _ h1) h2
theorem DaAll.ex {H H' : Hp} (e : Ex H H') : ∀ (ds : List PyData) {vs : List V}, DaAll H vs ds → DaAll H' vs ds
  | [], _, h => by cases h; exact .nil
  | d :: ds, _, h => by
    cases h with
    | cons h1 h2 => exact .cons (Da.ex e d h1) (DaAll.ex e ds h2)
end
theorem DaAll.len {H : Hp} : ∀ {vs : List V} {ds : List PyData}, DaAll H vs ds → vs.length = ds.length
  | _, _, .nil => rfl
  | _, _, .cons _ h => by rw [List.length_cons, List.length_cons, h.len]
theorem DaAll.at {H : Hp} : ∀ {vs : List V} {ds : List PyData} {i : Nat} {v : V}, DaAll H vs ds → vs[i]? = some v → ∃ d, ds[i]? = some d ∧ Da H v d
  | _, _, _, _, .nil, e => by simp at e
  | _, _, 0, _, .cons h _, e => by cases e; exact ⟨_, rfl, h⟩
  | _, _, i + 1, _, .cons _ h, e => DaAll.at (i := i) h e
theorem DaAll.at2 {H : Hp} : ∀ {vs : List V} {ds : List PyData} {i : Nat} {d : PyData}, DaAll H vs ds → ds[i]? = some d → ∃ v, vs[i]? = some v ∧ Da H v d
  | _, _, _, _, .nil, e => by simp at e
  | _, _, 0, _, .cons h _, e => by cases e; exact ⟨_, rfl, h⟩
  | _, _, i + 1, _, .cons _ h, e => DaAll.at2 (i := i) h e
theorem DaAll.app {H : Hp} : ∀ {vs ws : List V} {ds es : List PyData}, DaAll H vs ds → DaAll H ws es → DaAll H (vs ++ ws) (ds ++ es)
  | _, _, _, _, .nil, k => k
  | _, _, _, _, .cons h t, k => .cons h (t.app k)
theorem DaAll.take {H : Hp} : ∀ {vs : List V} {ds : List PyData} (n : Nat), DaAll H vs ds → DaAll H (vs.take n) (ds.take n)
  | _, _, 0, _ => .nil
  | _, _, _ + 1, .nil => .nil
  | _, _, n + 1, .cons h t => .cons h (t.take n)
theorem DaAll.drop {H : Hp} : ∀ {vs : List V} {ds : List PyData} (n : Nat), DaAll H vs ds → DaAll H (vs.drop n) (ds.drop n)
  | _, _, 0, h => h
  | _, _, _ + 1, .nil => .nil
  | _, _, n + 1, .cons _ t => t.drop n
theorem DaAll.put {H : Hp} {v : V} {d : PyData} (hv : Da H v d) : ∀ {vs : List V} {ds : List PyData} {i : Nat}, DaAll H vs ds → DaAll H (vs.set i v) (ds.set i d)
  | _, _, _, .nil => .nil
  | _, _, 0, .cons _ t => .cons hv t
  | _, _, i + 1, .cons h t => .cons h (DaAll.put hv (i := i) t)
theorem DaAll.snoc {H : Hp} {v : V} {d : PyData} {vs : List V} {ds : List PyData} (h : DaAll H vs ds) (hv : Da H v d) : DaAll H (vs ++ [v]) (ds ++ [d]) := h.app (.cons hv .nil)
/-! kinds -/
def tyD : PyData → String
  | .none => "NoneType"
  | .bool _ => "bool"
  | .int _ => "int"
  | .str _ => "str"
  | .list _ => "list"
  | .tuple _ => "tuple"
  | .dict _ => "dict"
theorem Da.ty {K : PySem.W.Frag} {H : Hp} {v : V} {d : PyData} (h : Da H v d) : TyX K H v (.type (tyD d)) := by
  cases h with
  | non => exact .base .non
  | bl b => exact .base (.bl b)
  | int i => exact .base (.int i)
  | str z => exact .base (.str z)
  | lst h1 h2 => exact .base (.lst h1)
  | tup h1 h2 => exact .base (.tup h1)
  | dct h1 h2 => exact .base (.dK h1)
def isStrD : PyData → Bool | .str _ => true | _ => false
def isTupD : PyData → Bool | .tuple _ => true | _ => false
def isLstD : PyData → Bool | .list _ => true | _ => false
def isBoolD : PyData → Bool | .bool _ => true | _ => false
def isIntD : PyData → Bool | .int _ => true | .bool _ => true | _ => false
theorem kit7 {T : String} {a b c e f g i : Bool} (h1 : kitB "NoneType" T = some a) (h2 : kitB "bool" T = some b) (h3 : kitB "int" T = some c) (h4 : kitB "str" T = some e) (h5 : kitB "list" T = some f) (h6 : kitB "tuple" T = some g) (h7 : kitB "dict" T = some i)
    {p : PyData → Bool} (q1 : p .none = a) (q2 : ∀ x, p (.bool x) = b) (q3 : ∀ x, p (.int x) = c) (q4 : ∀ x, p (.str x) = e) (q5 : ∀ x, p (.list x) = f) (q6 : ∀ x, p (.tuple x) = g) (q7 : ∀ x, p (.dict x) = i) : ∀ d, kitB (tyD d) T = some (p d)
  | .none => by rw [q1]; exact h1
  | .bool x => by rw [q2]; exact h2
  | .int x => by rw [q3]; exact h3
  | .str x => by rw [q4]; exact h4
  | .list x => by rw [q5]; exact h5
  | .tuple x => by rw [q6]; exact h6
  | .dict x => by rw [q7]; exact h7
theorem kit_str : ∀ d, kitB (tyD d) "str" = some (isStrD d) := kit7 (a := false) (b := false) (c := false) (e := true) (f := false) (g := false) (i := false) (by decide +kernel) (by decide +kernel) (by decide +kernel) (by decide +kernel) (by decide +kernel) (by decide +kernel) (by decide +kernel) rfl (fun _ => rfl) (fun _ => rfl) (fun _ => rfl) (fun _ => rfl) (fun _ => rfl) (fun _ => rfl)
theorem kit_tuple : ∀ d, kitB (tyD d) "tuple" = some (isTupD d) := kit7 (a := false) (b := false) (c := false) (e := false) (f := false) (g := true) (i := false) (by decide +kernel) (by decide +kernel) (by decide +kernel) (by decide +kernel) (by decide +kernel) (by decide +kernel) (by decide +kernel) rfl (fun _ => rfl) (fun _ => rfl) (fun _ => rfl) (fun _ => rfl) (fun _ => rfl) (fun _ => rfl)
theorem kit_list : ∀ d, kitB (tyD d) "list" = some (isLstD d) := kit7 (a := false) (b := false) (c := false) (e := false) (f := true) (g := false) (i := false) (by decide +kernel) (by decide +kernel) (by decide +kernel) (by decide +kernel) (by decide +kernel) (by decide +kernel) (by decide +kernel) rfl (fun _ => rfl) (fun _ => rfl) (fun _ => rfl) (fun _ => rfl) (fun _ => rfl) (fun _ => rfl)
theorem kit_bool : ∀ d, kitB (tyD d) "bool" = some (isBoolD d) := kit7 (a := false) (b := true) (c := false) (e := false) (f := false) (g := false) (i := false) (by decide +kernel) (by decide +kernel) (by decide +kernel) (by decide +kernel) (by decide +kernel) (by decide +kernel) (by decide +kernel) rfl (fun _ => rfl) (fun _ => rfl) (fun _ => rfl) (fun _ => rfl) (fun _ => rfl) (fun _ => rfl)
theorem kit_int : ∀ d, kitB (tyD d) "int" = some (isIntD d) := kit7 (a := false) (b := true) (c := true) (e := false) (f := false) (g := false) (i := false) (by decide +kernel) (by decide +kernel) (by decide +kernel) (by decide +kernel) (by decide +kernel) (by decide +kernel) (by decide +kernel) rfl (fun _ => rfl) (fun _ => rfl) (fun _ => rfl) (fun _ => rfl) (fun _ => rfl) (fun _ => rfl)
section
variable {K : PySem.W.Frag} {H : Hp} {v : V} {d : PyData} {Q : VK}
theorem isi_str (h : Da H v d) (q : Q (.bl (isStrD d)) H) : rIsi K [v, .ty "str"] H Q :=
  ⟨v, .ty "str", _, _, isStrD d, rfl, .ty _, h.ty, kit_ty (kit_str d), q⟩
theorem isi_tup (h : Da H v d) (q : Q (.bl (isTupD d)) H) : rIsi K [v, .ty "tuple"] H Q :=
  ⟨v, .ty "tuple", _, _, isTupD d, rfl, .ty _, h.ty, kit_ty (kit_tuple d), q⟩
theorem isi_lst (h : Da H v d) (q : Q (.bl (isLstD d)) H) : rIsi K [v, .ty "list"] H Q :=
  ⟨v, .ty "list", _, _, isLstD d, rfl, .ty _, h.ty, kit_ty (kit_list d), q⟩
theorem isi_bool (h : Da H v d) (q : Q (.bl (isBoolD d)) H) : rIsi K [v, .ty "bool"] H Q :=
  ⟨v, .ty "bool", _, _, isBoolD d, rfl, .ty _, h.ty, kit_ty (kit_bool d), q⟩
theorem isi_int (h : Da H v d) (q : Q (.bl (isIntD d)) H) : rIsi K [v, .ty "int"] H Q :=
  ⟨v, .ty "int", _, _, isIntD d, rfl, .ty _, h.ty, kit_ty (kit_int d), q⟩
theorem isi_two {a b : String} {r1 r2 : Bool} {tp : Addr} (h : Da H v d) (ht : H tp = some (.tup [.ty a, .ty b])) (h1 : PySem.W.kitOne K (.type (tyD d)) (.type a) = some r1) (h2 : PySem.W.kitOne K (.type (tyD d)) (.type b) = some r2) (q : Q (.bl (r1 || r2)) H) : rIsiT K [v, .ref tp] H Q := by
  refine ⟨v, tp, _, _, [.type a, .type b], r1 || r2, rfl, ht, .cons (.ty _) (.cons (.ty _) .nil), h.ty, ?_, q⟩
  refine kitAny_cons h1 (fun e => ?_) (fun e => by rw [e]; rfl)
  rw [e, Bool.false_or]
  exact kitAny_cons h2 (fun e => by rw [e]; exact kitAny_nil) (fun e => by rw [e])
theorem isi_tl {tp : Addr} (h : Da H v d) (ht : H tp = some (.tup [.ty "tuple", .ty "list"])) (q : Q (.bl (isTupD d || isLstD d)) H) : rIsiT K [v, .ref tp] H Q :=
  isi_two h ht (r1 := isTupD d) (r2 := isLstD d) (kit_ty (kit_tuple d)) (kit_ty (kit_list d)) q
theorem isi_lt {tp : Addr} (h : Da H v d) (ht : H tp = some (.tup [.ty "list", .ty "tuple"])) (q : Q (.bl (isLstD d || isTupD d)) H) : rIsiT K [v, .ref tp] H Q :=
  isi_two h ht (r1 := isLstD d) (r2 := isTupD d) (kit_ty (kit_list d)) (kit_ty (kit_tuple d)) q
end
/-! a list beside the empty one -/
def rEq0 (K : PySem.W.Frag) : R2 := fun x y H Q => ∃ (a b : Addr) (xs : List V), x = .ref a ∧ y = .ref b ∧ SqL K H a xs ∧ SqL K H b [] ∧ Q (.bl xs.isEmpty) H
def rNe0 (K : PySem.W.Frag) : R2 := fun x y H Q => ∃ (a b : Addr) (xs : List V), x = .ref a ∧ y = .ref b ∧ SqL K H a xs ∧ SqL K H b [] ∧ Q (.bl (!xs.isEmpty)) H
theorem op_eq0 {X : Cx} {k : Nat} (hr : Room k X.A) : OpR X (compareOp .Eq) (rEq0 X.K) := by
  intro pk s τ H x y v u Q I rx ry h
  obtain ⟨a, b, xs, rfl, rfl, h1, h2, q⟩ := h
  cases rx
  cases ry
  obtain ⟨its, r, pl, hz⟩ := I.list h1
  obtain ⟨its2, r2, pl2, hz2⟩ := I.list h2
  cases r2
  have hu : X.A.units < cLine := by
    have := hr.units
    omega
  have hlen := r.length
  cases xs with
  | nil =>
    cases r
    exact SeqAt.eq_listAt (e := fun _ => true) pl.isList pl2.isList rfl hu (fun j h1 => absurd h1 (by simp)) ⟨.bl true, H, I, rfl, q⟩
  | cons z zs =>
    refine SeqAt.eq_list_lengthsAt pl.isList pl2.isList ?_ hu ⟨.bl false, H, I, rfl, q⟩
    rw [List.length_cons] at hlen
    simp only [List.size_toArray, List.length_nil, bne_iff_ne, ne_eq]
    omega
theorem op_ne0 {X : Cx} {k : Nat} (hr : Room k X.A) : OpR X (compareOp .NotEq) (rNe0 X.K) := by
  intro pk s τ H x y v u Q I rx ry h
  obtain ⟨a, b, xs, rfl, rfl, h1, h2, q⟩ := h
  cases rx
  cases ry
  obtain ⟨its, r, pl, hz⟩ := I.list h1
  obtain ⟨its2, r2, pl2, hz2⟩ := I.list h2
  cases r2
  have hu : X.A.units < cLine := by
    have := hr.units
    omega
  have hlen := r.length
  cases xs with
  | nil =>
    cases r
    exact SeqAt.RcNeAt.lists (e := fun _ => true) pl.isList pl2.isList rfl hu (fun j h1 => absurd h1 (by simp)) _ _ _ _ ⟨.bl false, H, I, rfl, q⟩
  | cons z zs =>
    refine SeqAt.RcNeAt.lists_lengths pl.isList pl2.isList ?_ hu _ _ _ _ ⟨.bl true, H, I, rfl, q⟩
    rw [List.length_cons] at hlen
    simp only [List.size_toArray, List.length_nil, bne_iff_ne, ne_eq]
    omega
theorem op_eq0B {X : Cx} {k : Nat} {s : Shared} {H : Hp} {sc : Scope} {ce : Env} {fp : List Addr} (hr : Room k X.A) : OpR (X.blk s H sc ce fp) (compareOp .Eq) (rEq0 X.K) := op_eq0 hr
theorem op_ne0B {X : Cx} {k : Nat} {s : Shared} {H : Hp} {sc : Scope} {ce : Env} {fp : List Addr} (hr : Room k X.A) : OpR (X.blk s H sc ce fp) (compareOp .NotEq) (rNe0 X.K) := op_ne0 hr
/-! sizes -/
mutual
def gD : PyData → Bool
  | .none => true
  | .bool _ => true
  | .int i => decide (i.natAbs.log2 < 1920)
  | .str x => x.cps.all (· < 0x110000)
  | .list xs => gDs xs
  | .tuple xs => gDs xs
  | .dict ks => gDk ks
def gDs : List PyData → Bool
  | [] => true
  | x :: xs => gD x && gDs xs
def gDk : List (PyData × PyData) → Bool
  | [] => true
  | (k, v) :: r => gD k && (gD v && gDk r)
end
mutual
/-- no text of d is longer -/
def wd : PyData → Nat
  | .none => 5
  | .bool _ => 5
  | .int _ => 1921
  | .str x => 10 * x.length + 5
  | .list xs => wds xs + 3
  | .tuple xs => wds xs + 3
  | .dict ks => wdk ks + 3
def wds : List PyData → Nat
  | [] => 0
  | x :: xs => wd x + 2 + wds xs
def wdk : List (PyData × PyData) → Nat
  | [] => 0
  | (k, v) :: r => wd k + wd v + 4 + wdk r
end
theorem str_wd {x : Str} (h : x.cps.all (· < 0x110000) = true) : (PyData.shown (.str x)).length ≤ 10 * x.length + 5 := by
  have z : (PyData.shown (.str x)).length ≤ 10 * x.length + 2 := by
    refine StrLaws.reprText_len x fun c hc => ?_
    rw [← Array.all_toList] at h
    have q := of_decide_eq_true ((List.all_eq_true.mp h) c hc)
    exact Nat.lt_trans q (by decide)
  omega
mutual
theorem shownD : ∀ d : PyData, gD d = true → d.showable = true ∧ d.shown.length ≤ wd d
  | .none, _ => ⟨rfl, by decide⟩
  | .bool b, _ => ⟨rfl, by cases b <;> decide⟩
  | .int i, h => ⟨h, int_text_len_1921 (of_decide_eq_true h)⟩
  | .str x, h => ⟨rfl, str_wd h⟩
  | .list xs, h => by
    obtain ⟨q1, q2⟩ := shownDs xs h
    have z := listText_le (PyData.shownAll xs)
    refine ⟨q1, ?_⟩
    show (listText (PyData.shownAll xs)).length ≤ wds xs + 3
    omega
  | .tuple xs, h => by
    obtain ⟨q1, q2⟩ := shownDs xs h
    have z := tupleText_le (PyData.shownAll xs)
    refine ⟨q1, ?_⟩
    show (tupleText (PyData.shownAll xs)).length ≤ wds xs + 3
    omega
  | .dict ks, h => by
    obtain ⟨q1, q2⟩ := shownDk ks h
    refine ⟨q1, ?_⟩
    show (dictText (PyData.shownKv ks)).length ≤ wdk ks + 3
    have z := dictText_len_le (PyData.shownKv ks)
    omega
theorem shownDs : ∀ ds : List PyData, gDs ds = true → PyData.showableAll ds = true ∧ piled (PyData.shownAll ds) ≤ wds ds
  | [], _ => ⟨rfl, Nat.le_refl _⟩
  | d :: ds, h => by
    have h' : (gD d && gDs ds) = true := h
    rw [Bool.and_eq_true] at h'
    obtain ⟨a1, a2⟩ := shownD d h'.1
    obtain ⟨b1, b2⟩ := shownDs ds h'.2
    refine ⟨?_, ?_⟩
    · show (d.showable && PyData.showableAll ds) = true
      rw [a1, b1]
      rfl
    · show piled (d.shown :: PyData.shownAll ds) ≤ wd d + 2 + wds ds
      rw [piled_cons]
      omega
theorem shownDk : ∀ ks : List (PyData × PyData), gDk ks = true → PyData.showableKv ks = true ∧ ((PyData.shownKv ks).map (·.length)).sum + 2 * (PyData.shownKv ks).length ≤ wdk ks
  | [], _ => ⟨rfl, Nat.le_refl _⟩
  | (k, v) :: r, h => by
    have h' : (gD k && (gD v && gDk r)) = true := h
    rw [Bool.and_eq_true, Bool.and_eq_true] at h'
    obtain ⟨a1, a2⟩ := shownD k h'.1
    obtain ⟨b1, b2⟩ := shownD v h'.2.1
    obtain ⟨c1, c2⟩ := shownDk r h'.2.2
    refine ⟨?_, ?_⟩
    · show (k.showable && v.showable && PyData.showableKv r) = true
      rw [a1, b1, c1]
      rfl
    · rw [PyData.shownKv_cons, List.map_cons, List.sum_cons, List.length_cons, strLen_append, strLen_append]
      show _ ≤ wd k + wd v + 4 + wdk r
      have : (": " : Str).length = 2 := rfl
      omega
end
end Own

namespace Own
open PySem PySem.Spec PyProof.Rows L2 Evl
/-- the base knows the table of modules (so no tracked list lies there) -/
def SysAt (base : Heap) : Prop := ∃ mm, base.Ns sysModules mm
section
variable {X : Cx} {pins : List (Addr × Obj)} {σ : L2.St} {H : Hp} {s : Shared}
theorem not_sys (I : Inv X pins σ H s) (hs : SysAt X.base) {a : Addr} {o : Obj} {vs : Array Value} {n : Nat} (h : s.heap.get? a = some o) (hd : o.data = .seq vs n) : a ≠ sysModules := by
  intro e
  subst e
  obtain ⟨mm, o2, es, ep, h2, hd2, _⟩ := hs
  have h3 := I.bk _ _ h2
  rw [h] at h3
  cases h3
  rw [hd] at hd2
  cases hd2
mutual
theorem Da.reads (I : Inv X pins σ H s) (hs : SysAt X.base) : ∀ (d : PyData) (v : V) (u : Value), Da H v d → RelV v u → ∃ as, Reads s.heap u d as ∧ sysModules ∉ as
  | .none, _, _, h, r => by
    cases h
    cases r
    exact ⟨_, Reads.none, by simp⟩
  | .bool b, _, _, h, r => by
    cases h
    cases r
    exact ⟨_, Reads.bool b, by simp⟩
  | .int i, _, _, h, r => by
    cases h
    obtain ⟨t, rfl⟩ := r
    exact ⟨_, Reads.int i t, by simp⟩
  | .str x, _, _, h, r => by
    cases h
    obtain ⟨t, rfl⟩ := r
    exact ⟨_, Reads.str x t, by simp⟩
  | .list ds, _, _, h, r => by
    cases h with
    | lst hh ha =>
      cases r
      obtain ⟨its, rv, ⟨o, n, ho, hc, _, hd⟩, _⟩ := I.list (sq_of hh)
      obtain ⟨as, hr, hn⟩ := DaAll.reads I hs ds _ its ha rv
      refine ⟨_, Reads.list ho hc hd hr, ?_⟩
      rw [List.mem_cons, not_or]
      exact ⟨(not_sys I hs ho hd).symm, hn⟩
  | .tuple ds, _, _, h, r => by
    cases h with
    | tup hh ha =>
      cases r
      obtain ⟨its, rv, ⟨o, ho, hc, n, hd⟩, _⟩ := I.tuple (st_of hh)
      obtain ⟨as, hr, hn⟩ := DaAll.reads I hs ds _ its ha rv
      exact ⟨_, Reads.tuple ho hc hd hr, hn⟩
  | .dict ks, _, _, h, r => by
    cases h with
    | dct hh e =>
      cases r
      obtain ⟨hz, hsm, vs, rel, o, es, ep, ho, hex, hdat, hko, hp, hn⟩ := dk_of I.hok hh
      obtain ⟨r1, r2⟩ := dc_reads (h := s.heap) rel hp
      subst e
      refine ⟨_, Reads.dict ho hex.1 hdat r1 r2, ?_⟩
      intro hm
      have hm : sysModules ∈ [_] := hm
      rw [List.mem_singleton] at hm
      rw [← hm] at hsm
      exact absurd hsm (by decide)
theorem DaAll.reads (I : Inv X pins σ H s) (hs : SysAt X.base) : ∀ (ds : List PyData) (vs : List V) (us : List Value), DaAll H vs ds → Vals vs us → ∃ as, ReadsAll s.heap us ds as ∧ sysModules ∉ as
  | [], _, _, h, r => by
    cases h
    cases r
    exact ⟨_, ReadsAll.nil, by simp⟩
  | d :: ds, _, _, h, r => by
    cases h with
    | cons h1 h2 =>
      cases r with
      | cons r1 r2 =>
        obtain ⟨as, q1, n1⟩ := Da.reads I hs d _ _ h1 r1
        obtain ⟨bs, q2, n2⟩ := DaAll.reads I hs ds _ _ h2 r2
        refine ⟨_, ReadsAll.cons q1 q2, ?_⟩
        rw [List.mem_append, not_or]
        exact ⟨n1, n2⟩
end
end
/-- data that may be shown -/
def okD (n W : Nat) (d : PyData) : Prop := gD d = true ∧ d.depth ≤ n ∧ wd d ≤ W
theorem okD.mono {n W n' W' : Nat} {d : PyData} (h : okD n W d) (h1 : n ≤ n') (h2 : W ≤ W') : okD n' W' d := ⟨h.1, Nat.le_trans h.2.1 h1, Nat.le_trans h.2.2 h2⟩
def rReprX : List V → Hp → VK → Prop := fun xs H Q => ∃ v d, xs = [v] ∧ Da H v d ∧ okD 40 16000000 d ∧ Q (.str d.shown) H
theorem callReprX {X : Cx} {k : Nat} (hs : SysAt X.base) (hg : X.A.guards = some []) (hr : Room k X.A) : CallR X (.builtin "repr") rReprX := by
  intro pk s τ H xs us Q I r h
  obtain ⟨v, d, rfl, hd, ⟨g1, g2, g3⟩, q⟩ := h
  obtain ⟨s1, s2⟩ := shownD d g1
  have hlen : d.shown.length ≤ sizeLine := Nat.le_trans s2 (Nat.le_trans g3 (by decide))
  have hu := hr.units
  obtain ⟨u, eu, ru⟩ := vals1 r
  subst eu
  obtain ⟨as, rd, hn⟩ := Da.reads I hs d v u hd ru
  cases hd with
  | lst h1 h2 =>
    cases ru
    exact repr_of_reads' rd s1 (fun _ => hn) hg (by omega) (fun _ _ e => e) (fun h' u tk hkp => ⟨.str _, H, I.kept (h' := h') (t' := tk) hkp, ⟨_, rfl⟩, q⟩) hlen
  | tup h1 h2 =>
    cases ru
    exact repr_of_reads' rd s1 (fun _ => hn) hg (by omega) (fun _ _ e => e) (fun h' u tk hkp => ⟨.str _, H, I.kept (h' := h') (t' := tk) hkp, ⟨_, rfl⟩, q⟩) hlen
  | dct h1 h2 =>
    cases ru
    exact repr_of_reads' rd s1 (fun _ => hn) hg (by omega) (fun _ _ e => e) (fun h' u tk hkp => ⟨.str _, H, I.kept (h' := h') (t' := tk) hkp, ⟨_, rfl⟩, q⟩) hlen
  | non =>
    cases ru
    exact PySem.P.repr_of_none ⟨.str "None", H, I.tok _, ⟨_, rfl⟩, q⟩
  | bl b =>
    cases ru
    exact PySem.P.repr_of_bool ⟨.str (if b then "True" else "False"), H, I.tok _, ⟨_, by cases b <;> rfl⟩, by cases b <;> exact q⟩
  | int i =>
    obtain ⟨t, rfl⟩ := ru
    exact PySem.P.repr_of_int (of_decide_eq_true g1) ⟨.str (toString i), H, I.tok _, ⟨_, rfl⟩, q⟩
  | str x =>
    obtain ⟨t, rfl⟩ := ru
    exact PySem.P.repr_of_str ⟨.str (reprText x), H, I.tok _, ⟨_, rfl⟩, q⟩ hlen
/-! making and taking apart -/
theorem gDs_iff : ∀ {ds : List PyData}, gDs ds = true ↔ ∀ d ∈ ds, gD d = true
  | [] => ⟨fun _ d h => by (cases h), fun _ => rfl⟩
  | x :: xs => by
    show (gD x && gDs xs) = true ↔ _
    rw [Bool.and_eq_true, gDs_iff (ds := xs)]
    refine ⟨fun h d hd => ?_, fun h => ⟨h x List.mem_cons_self, fun d hd => h d (List.mem_cons_of_mem _ hd)⟩⟩
    rcases List.mem_cons.mp hd with e | hd
    · rw [e]
      exact h.1
    · exact h.2 d hd
theorem depthAll_le {n : Nat} : ∀ {ds : List PyData}, PyData.depthAll ds ≤ n ↔ ∀ d ∈ ds, d.depth ≤ n
  | [] => ⟨fun _ d h => by (cases h), fun _ => Nat.zero_le _⟩
  | x :: xs => by
    show max x.depth (PyData.depthAll xs) ≤ n ↔ _
    rw [Nat.max_le, depthAll_le (ds := xs)]
    refine ⟨fun h d hd => ?_, fun h => ⟨h x List.mem_cons_self, fun d hd => h d (List.mem_cons_of_mem _ hd)⟩⟩
    rcases List.mem_cons.mp hd with e | hd
    · rw [e]
      exact h.1
    · exact h.2 d hd
theorem wds_app : ∀ (xs ys : List PyData), wds (xs ++ ys) = wds xs + wds ys
  | [], ys => (Nat.zero_add _).symm
  | x :: xs, ys => by
    show wd x + 2 + wds (xs ++ ys) = wd x + 2 + wds xs + wds ys
    rw [wds_app xs ys]
    omega
theorem wd_mem {d : PyData} : ∀ {ds : List PyData}, d ∈ ds → wd d + 2 ≤ wds ds
  | x :: xs, h => by
    show _ ≤ wd x + 2 + wds xs
    rcases List.mem_cons.mp h with e | h
    · rw [e]
      omega
    · have := wd_mem h
      omega
theorem wds_take (n : Nat) (xs : List PyData) : wds (xs.take n) ≤ wds xs := by
  have h := wds_app (xs.take n) (xs.drop n)
  rw [List.take_append_drop] at h
  omega
theorem wds_drop (n : Nat) (xs : List PyData) : wds (xs.drop n) ≤ wds xs := by
  have h := wds_app (xs.take n) (xs.drop n)
  rw [List.take_append_drop] at h
  omega
theorem wd_pos : ∀ d : PyData, 3 ≤ wd d
  | .none => by show 3 ≤ 5; decide
  | .bool _ => by show 3 ≤ 5; decide
  | .int _ => by show 3 ≤ 1921; decide
  | .str x => by show 3 ≤ 10 * x.length + 5; omega
  | .list xs => by show 3 ≤ wds xs + 3; omega
  | .tuple xs => by show 3 ≤ wds xs + 3; omega
  | .dict ks => by show 3 ≤ wdk ks + 3; omega
theorem len_wds : ∀ ds : List PyData, 5 * ds.length ≤ wds ds
  | [] => Nat.le_refl _
  | x :: xs => by
    have := len_wds xs
    have := wd_pos x
    show 5 * (xs.length + 1) ≤ wd x + 2 + wds xs
    omega
end Own

namespace Own
open PySem PySem.Spec PyProof.Rows L2 Evl
/-! ### data that lies within A -/
theorem none_of {H H' : Hp} {l : Addr} (e : Ex H H') (h : H' l = none) : H l = none := by
  cases hx : H l with
  | none => rfl
  | some o => rw [e _ _ hx] at h; cases h
mutual
inductive DaA (A : Addr → Prop) (H : Hp) : V → PyData → Prop
  | non : DaA A H .non .none
  | bl (b : Bool) : DaA A H (.bl b) (.bool b)
  | int (i : Int) : DaA A H (.int i) (.int i)
  | str (z : Str) : DaA A H (.str z) (.str z)
  | lst {a : Addr} {xs : List V} {ds : List PyData} : A a → H a = some (.lst xs) → DaAA A H xs ds → DaA A H (.ref a) (.list ds)
  | tup {a : Addr} {xs : List V} {ds : List PyData} : A a → H a = some (.tup xs) → DaAA A H xs ds → DaA A H (.ref a) (.tuple ds)
  | dct {a : Addr} {kv : List (Str × Int)} {ks : List (PyData × PyData)} : A a → H a = some (.dK (kv.map kvV)) → ks = kv.map kvP → DaA A H (.ref a) (.dict ks)
inductive DaAA (A : Addr → Prop) (H : Hp) : List V → List PyData → Prop
  | nil : DaAA A H [] []
  | cons {v : V} {vs : List V} {d : PyData} {ds : List PyData} : DaA A H v d → DaAA A H vs ds → DaAA A H (v :: vs) (d :: ds)
end
mutual
theorem DaA.move {A A' : Addr → Prop} {H H' : Hp} (e : ∀ a o, A a → H a = some o → H' a = some o) (w : ∀ a, A a → A' a) : ∀ (d : PyData) {v : V}, DaA A H v d → DaA A' H' v d
  | .none, _, h => by cases h; exact .non
  | .bool _, _, h => by cases h; exact .bl _
  | .int _, _, h => by cases h; exact .int _
  | .str _, _, h => by cases h; exact .str _
  | .list ds, _, h => by
    cases h with
    | lst h0 h1 h2 => exact .lst (w _ h0) (e _ _ h0 h1) (DaAA.move e w ds h2)
  | .tuple ds, _, h => by
    cases h with
    | tup h0 h1 h2 => exact .tup (w _ h0) (e _ _ h0 h1) (DaAA.move e w ds h2)
  | .dict _, _, h => by
    cases h with
    | dct h0 h1 h2 => exact .dct (w _ h0) (e _ _ h0 h1) h2
theorem DaAA.move {A A' : Addr → Prop} {H H' : Hp} (e : ∀ a o, A a → H a = some o → H' a = some o) (w : ∀ a, A a → A' a) : ∀ (ds : List PyData) {vs : List V}, DaAA A H vs ds → DaAA A' H' vs ds
  | [], _, h => by cases h; exact .nil
  | d :: ds, _, h => by
    cases h with
    | cons h1 h2 => exact .cons (DaA.move e w d h1) (DaAA.move e w ds h2)
end
mutual
theorem DaA.da {A : Addr → Prop} {H : Hp} : ∀ (d : PyData) {v : V}, DaA A H v d → Da H v d
  | .none, _, h => by cases h; exact .non
  | .bool _, _, h => by cases h; exact .bl _
  | .int _, _, h => by cases h; exact .int _
  | .str _, _, h => by cases h; exact .str _
  | .list ds, _, h => by
    cases h with
    | lst h0 h1 h2 => exact .lst h1 (DaAA.da ds h2)
  | .tuple ds, _, h => by
    cases h with
    | tup h0 h1 h2 => exact .tup h1 (DaAA.da ds h2)
  | .dict _, _, h => by
    cases h with
    | dct h0 h1 h2 => exact .dct h1 h2
theorem DaAA.da {A : Addr → Prop} {H : Hp} : ∀ (ds : List PyData) {vs : List V}, DaAA A H vs ds → DaAll H vs ds
  | [], _, h => by cases h; exact .nil
  | d :: ds, _, h => by
    cases h with
    | cons h1 h2 => exact .cons (DaA.da d h1) (DaAA.da ds h2)
end
mutual
theorem Da.within {H : Hp} : ∀ (d : PyData) {v : V}, Da H v d → DaA (fun a => H a ≠ none) H v d
  | .none, _, h => by cases h; exact .non
  | .bool _, _, h => by cases h; exact .bl _
  | .int _, _, h => by cases h; exact .int _
  | .str _, _, h => by cases h; exact .str _
  | .list ds, _, h => by
    cases h with
    | lst h1 h2 => exact .lst (by rw [h1]; exact fun z => nomatch z) h1 (DaAll.within ds h2)
  | .tuple ds, _, h => by
    cases h with
    | tup h1 h2 => exact .tup (by rw [h1]; exact fun z => nomatch z) h1 (DaAll.within ds h2)
  | .dict _, _, h => by
    cases h with
    | dct h1 h2 => exact .dct (by rw [h1]; exact fun z => nomatch z) h1 h2
theorem DaAll.within {H : Hp} : ∀ (ds : List PyData) {vs : List V}, DaAll H vs ds → DaAA (fun a => H a ≠ none) H vs ds
  | [], _, h => by cases h; exact .nil
  | d :: ds, _, h => by
    cases h with
    | cons h1 h2 => exact .cons (Da.within d h1) (DaAll.within ds h2)
end
section
variable {A : Addr → Prop} {H : Hp}
theorem DaAA.len : ∀ {vs : List V} {ds : List PyData}, DaAA A H vs ds → vs.length = ds.length
  | _, _, .nil => rfl
  | _, _, .cons _ h => by rw [List.length_cons, List.length_cons, h.len]
theorem DaAA.at2 : ∀ {vs : List V} {ds : List PyData} {i : Nat} {d : PyData}, DaAA A H vs ds → ds[i]? = some d → ∃ v, vs[i]? = some v ∧ DaA A H v d
  | _, _, _, _, .nil, e => by simp at e
  | _, _, 0, _, .cons h _, e => by cases e; exact ⟨_, rfl, h⟩
  | _, _, i + 1, _, .cons _ h, e => DaAA.at2 (i := i) h e
theorem DaAA.at : ∀ {vs : List V} {ds : List PyData} {i : Nat} {v : V}, DaAA A H vs ds → vs[i]? = some v → ∃ d, ds[i]? = some d ∧ DaA A H v d
  | _, _, _, _, .nil, e => by simp at e
  | _, _, 0, _, .cons h _, e => by cases e; exact ⟨_, rfl, h⟩
  | _, _, i + 1, _, .cons _ h, e => DaAA.at (i := i) h e
theorem DaAA.app : ∀ {vs ws : List V} {ds es : List PyData}, DaAA A H vs ds → DaAA A H ws es → DaAA A H (vs ++ ws) (ds ++ es)
  | _, _, _, _, .nil, k => k
  | _, _, _, _, .cons h t, k => .cons h (t.app k)
theorem DaAA.take : ∀ {vs : List V} {ds : List PyData} (n : Nat), DaAA A H vs ds → DaAA A H (vs.take n) (ds.take n)
  | _, _, 0, _ => .nil
  | _, _, _ + 1, .nil => .nil
  | _, _, n + 1, .cons h t => .cons h (t.take n)
theorem DaAA.drop : ∀ {vs : List V} {ds : List PyData} (n : Nat), DaAA A H vs ds → DaAA A H (vs.drop n) (ds.drop n)
  | _, _, 0, h => h
  | _, _, _ + 1, .nil => .nil
  | _, _, n + 1, .cons _ t => t.drop n
theorem DaAA.put {v : V} {d : PyData} (hv : DaA A H v d) : ∀ {vs : List V} {ds : List PyData} {i : Nat}, DaAA A H vs ds → DaAA A H (vs.set i v) (ds.set i d)
  | _, _, _, .nil => .nil
  | _, _, 0, .cons _ t => .cons hv t
  | _, _, i + 1, .cons h t => .cons h (DaAA.put hv (i := i) t)
end
end Own

namespace Own
open PySem PySem.Spec PyProof.Rows L2 Evl
/-! ### a tuple that begins with a text, beside a tuple of one text -/
def rEqTs (K : PySem.W.Frag) : R2 := fun x y H Q => ∃ (a b : Addr) (z u : Str) (xs : List V), x = .ref a ∧ y = .ref b ∧ SqT K H a (.str z :: xs) ∧ SqT K H b [.str u] ∧ Q (.bl (decide (z = u) && xs.isEmpty)) H
theorem op_eqTs {X : Cx} {k : Nat} (hr : Room k X.A) : OpR X (compareOp .Eq) (rEqTs X.K) := by
  intro pk s τ H x y v v2 Q I rx ry h
  obtain ⟨a, b, z, u, xs, rfl, rfl, h1, h2, q⟩ := h
  cases rx
  cases ry
  obtain ⟨its, r, tp, hz⟩ := I.tuple h1
  obtain ⟨its2, r2, tp2, hz2⟩ := I.tuple h2
  cases r2 with
  | cons ru rn =>
    cases rn
    obtain ⟨tu, rfl⟩ := ru
    cases r with
    | @cons _ _ _ its0 rz rr =>
      obtain ⟨tz, rfl⟩ := rz
      have hu : X.A.units < cLine := by
        have := hr.units
        omega
      refine SeqAt.eq_tupleAt (e := fun _ => decide (z = u)) tp tp2 hu (fun j h1 h2 => ?_) ⟨.bl _, H, I, rfl, ?_⟩
      · have hj : j = 0 := by
          have : j < 1 := h2
          omega
        subst hj
        have e : (z == u) = decide (z = u) := by
          by_cases h : z = u
          · rw [h]
            simp
          · rw [decide_eq_false h]
            exact beq_eq_false_iff_ne.mpr h
        rw [← e]
        exact SeqAt.EqAt.str_str z tz u tu
      · have hm : min (Value.str z tz :: its0).toArray.size [Value.str u tu].toArray.size = 1 := by simp
        have hs : ((Value.str z tz :: its0).toArray.size == [Value.str u tu].toArray.size) = xs.isEmpty := by
          have hlen := rr.length
          cases xs with
          | nil => cases rr; rfl
          | cons x xs =>
            rw [List.length_cons] at hlen
            show ((its0.length + 1) == 1) = false
            exact beq_eq_false_iff_ne.mpr (by omega)
        rw [hm, hs]
        show Q (.bl ((decide (z = u) && true) && xs.isEmpty)) H
        rw [Bool.and_true]
        exact q
def rEqB (K : PySem.W.Frag) : R2 := fun x y H Z => rEqA K x y H Z ∨ rEqTs K x y H Z
theorem opEqT {X : Cx} {k : Nat} (hr : Room k X.A) : OpR X (compareOp .Eq) (rEqB X.K) := OpR.or (opEq hr) (op_eqTs hr)
end Own

namespace Own
open PySem PySem.Spec PyProof.Rows L2 Evl
/-! ### a tuple beside the empty one -/
def rEqT0 (K : PySem.W.Frag) : R2 := fun x y H Q => ∃ (a b : Addr) (xs : List V), x = .ref a ∧ y = .ref b ∧ SqT K H a xs ∧ SqT K H b [] ∧ Q (.bl xs.isEmpty) H
theorem op_eqT0 {X : Cx} {k : Nat} (hr : Room k X.A) : OpR X (compareOp .Eq) (rEqT0 X.K) := by
  intro pk s τ H x y v v2 Q I rx ry h
  obtain ⟨a, b, xs, rfl, rfl, h1, h2, q⟩ := h
  cases rx
  cases ry
  obtain ⟨its, r, tp, hz⟩ := I.tuple h1
  obtain ⟨its2, r2, tp2, hz2⟩ := I.tuple h2
  cases r2
  have hu : X.A.units < cLine := by
    have := hr.units
    omega
  refine SeqAt.eq_tupleAt (e := fun _ => true) tp tp2 hu (fun j h1 h2 => absurd h2 (by simp)) ⟨.bl _, H, I, rfl, ?_⟩
  have hm : min its.toArray.size ([] : List Value).toArray.size = 0 := by simp
  have hs : (its.toArray.size == ([] : List Value).toArray.size) = xs.isEmpty := by
    have hlen := r.length
    cases xs with
    | nil => cases r; rfl
    | cons x xs =>
      rw [List.length_cons] at hlen
      show (its.toArray.size == 0) = false
      rw [List.size_toArray]
      exact beq_eq_false_iff_ne.mpr (by omega)
  rw [hm, hs]
  exact q
/-! ### what a dict of the written part has of a text -/
def IsKD (K : PySem.W.Frag) (w : World) (a : Addr) : Prop := ∃ es n, K.lookup a = some ⟨.type "dict", none, .dict es n, #[]⟩ ∧ PySem.W.KeysLit w.params es.toList ∧ (a == sysModules) = false
def tKGet2 (K : PySem.W.Frag) (w : World) (td ty tx : TE) : TE := fun σ H Q => td σ H fun x H1 => ∃ a, x = .ref a ∧ IsKD K w a ∧ ty σ H1 fun y H2 => tx σ H2 fun z H3 => ∃ (k : Str) (v : V), y = .str k ∧ ((∃ u, PySem.W.nsIn K a k = some (some u) ∧ RelV v u) ∨ (PySem.W.nsIn K a k = some none ∧ v = z)) ∧ Q v H3
theorem pe_kget2 {X : Cx} {o e f : Expr} {apos cpos : Pos} {td ty tx : TE} (ho : PE X o td) (he : PE X e ty) (hf : PE X f tx) (m : M2 X o "get" apos e f cpos) : PE X (.Call (.Attribute o "get" apos) [e, f] [] cpos) (tKGet2 X.K X.w td ty tx) := by
  refine ⟨fun pins s σ H Q I h => ?_⟩
  refine wpAny_Call_method m.base m.few m.line PySem.F.plainAttrs_dict PySem.F.slot_dict_get PySem.F.type_dict_get (thn (ho.run pins s σ H _ I h) fun u s1 ⟨x, H1, I1, rx, a, ex, d, q1⟩ => ?_)
  subst ex
  obtain rfl : u = Value.ref a := rx
  obtain ⟨es, n, hl, hk, hd⟩ := d
  refine ⟨(PySem.W.mapOf_K (prog := X.prog) (w := X.w) I1.kIn hl hk).typeIs, fun b q => ?_, ?_⟩
  · cases q
    exact ⟨_, I1.kIn _ _ hl, rfl⟩
  rw [m.trees]
  refine Calls.callWith_builtin rfl (Calls.evalArgs_plain (Calls.spliced_cons (thn (he.run pins s1 σ H1 _ I1 q1) fun iv s2 ⟨y, H2, I2, ry, q2⟩ =>
    Calls.spliced_cons (thn (hf.run pins s2 σ H2 _ I2 q2) fun fv s3 ⟨z, H3, I3, rz, k, v, ey, g, q3⟩ => Calls.spliced_nil ?_))))
  subst ey
  obtain ⟨t, rfl⟩ := (show ∃ t, iv = Value.str k t from ry)
  have hm := PySem.W.mapOf_K (prog := X.prog) (w := X.w) I3.kIn hl hk
  refine call_meetsIn PySem.F.slot_dict_get hm.typeIs PySem.F.entry_dict_get (PySem.F.args_dict_get_3 _ _ _) (meets_dict_get_default (strKind X.prog X.w) a (strKind_is X.prog X.w k t) hd fv) ⟨_, hm, ?_⟩
  rcases g with ⟨u, hn, hv⟩ | ⟨hn, rfl⟩
  · rw [PySem.W.find_K hl hn]
    exact ⟨v, H3, I3.tok _, hv, q3⟩
  · rw [PySem.W.find_K hl hn]
    exact ⟨v, H3, I3.tok _, rz, q3⟩
/-! ### t[::-1], t being a tuple -/
theorem sliceApplied_rev {prog : Program} {w : World} {A : Around} {E : Value → Shared → Prop} {s : Shared} {sl : Addr} {vl vu vs : Value} {n : Nat} {Q : Int × Int × Nat → Shared → Prop} (hs : s.heap.IsSliceOf sl vl vu vs) (pl : IsPart vl none) (pu : IsPart vu none) (ps : IsPart vs (some (-1)))
    (h : Q ((n : Int) - 1, -1, n) s) : wpAny (model prog w) A (Builtin.Slice.sliceApplied (.ref sl) (pure (n : Int))) Q E s := by
  obtain ⟨os, hos, hcs, hds⟩ := id hs
  unfold Builtin.Slice.sliceApplied Builtin.Slice.sliceFields
  refine wpAny_bind (wpAny_bind (wpAny_field hos hds (x := vl) rfl (wpAny_bind (wpAny_field hos hds (x := vu) rfl (wpAny_bind (wpAny_field hos hds (x := vs) rfl (wpAny_pure ?_)))))))
  refine wpAny_bind (HT.slicePart_ ps ?_)
  show wpAny _ _ (if ((-1 : Int) == 0) = true then _ else _) _ _ s
  rw [if_neg (by decide)]
  refine wpAny_bind (HT.slicePart_ pl (wpAny_bind (HT.slicePart_ pu (wpAny_bind (wpAny_pure ?_)))))
  show wpAny _ _ (match Builtin.Slice.sliceAdjust none none (-1) (n : Int) with | (lo, hi) => pure (lo, (-1 : Int), Builtin.Slice.slicePlaces lo hi (-1))) _ _ s
  have e1 : Builtin.Slice.sliceAdjust none none (-1) (n : Int) = ((n : Int) - 1, -1) := rfl
  rw [e1]
  show wpAny _ _ (pure ((n : Int) - 1, (-1 : Int), Builtin.Slice.slicePlaces ((n : Int) - 1) (-1) (-1))) _ _ s
  have e2 : Builtin.Slice.slicePlaces ((n : Int) - 1) (-1) (-1) = n := by
    unfold Builtin.Slice.slicePlaces
    have h1 : ¬ ((-1 : Int) > 0) := by decide
    simp only [h1, if_false]
    split
    · rw [show (- -1 : Int) = 1 by decide, Int.ediv_one]
      omega
    · omega
  rw [e2]
  exact wpAny_pure h
theorem fm_congr {α β : Type} {f g : α → Option β} : ∀ {l : List α}, (∀ x ∈ l, f x = g x) → l.filterMap f = l.filterMap g
  | [], _ => rfl
  | x :: l, h => by
    rw [List.filterMap_cons, List.filterMap_cons, h x List.mem_cons_self, fm_congr fun y hy => h y (List.mem_cons_of_mem _ hy)]
theorem pick_rev (xs : Array Value) : ((List.range xs.size).filterMap fun (m : Nat) => xs[(((xs.size : Int) - 1) + (m : Int) * -1).toNat]?).toArray = xs.toList.reverse.toArray := by
  have e : ((List.range xs.size).filterMap fun (m : Nat) => xs[(((xs.size : Int) - 1) + (m : Int) * -1).toNat]?) = ((List.range xs.size).map fun k => xs.size - 1 - k).filterMap (xs[·]?) := by
    rw [List.filterMap_map]
    refine fm_congr fun m hm => ?_
    have := List.mem_range.mp hm
    show xs[_]? = xs[_]?
    rw [show (((xs.size : Int) - 1) + (m : Int) * -1).toNat = xs.size - 1 - m by omega]
  rw [e, PySem.W.krv_range, List.filterMap_reverse, PySem.W.krv_all]
theorem getItem_tuple_rev {prog : Program} {w : World} {A : Around} {E : Value → Shared → Prop} {s : Shared} {t sl : Addr} {items : Array Value} {vl vu vs : Value} {Q : Value → Shared → Prop} (ht : IsTup s.heap t items) (hs : s.heap.IsSliceOf sl vl vu vs) (pl : IsPart vl none) (pu : IsPart vu none) (ps : IsPart vs (some (-1)))
    (h : Q (.ref s.heap.objs.size) { s with heap := s.heap.push { cls := .type "tuple", data := .seq items.toList.reverse.toArray } })
    (hsz : items.size ≤ sizeLine) : wpAny (model prog w) A (getItem (.ref t) (.ref sl)) Q E s := by
  have htake : sizeOk (.seq items.toList.reverse.toArray) := by
    show items.toList.reverse.toArray.size ≤ sizeLine
    rw [List.size_toArray, List.length_reverse, Array.length_toList]
    exact hsz
  obtain ⟨os, hos, hcs, hds⟩ := id hs
  have hTs : s.TypeIs (.ref sl) "slice" := ⟨os, hos, hcs⟩
  unfold getItem
  try with_reducible refine wpAny_holding ?_
  first | refine wpAny_bind (wpAny_pure ?_) | skip
  refine wpAny_bind (wpAny_sequenceKey ht.typeIs (by decide) ?_)
  refine wpAny_bind (wpAny_callSpecial?_slot (name := Str.ofString "__getitem__") ht.typeIs PyProof.Rows.slot_tuple_getitem
    (wpAny_call_entry PyProof.Rows.slot_tuple_getitem ht.typeIs entry_tuple_getitem ?_ (args_tuple_getitem _ _)))
  show wpAny _ _ (Builtin.Tuple.tupleItemsOf (.ref t) >>= _) _ _ s
  refine wpAny_bind (tupleItemsOf_ ht ?_)
  refine wpAny_bind (wpAny_typeOf hTs ?_)
  rw [if_pos (by decide)]
  refine wpAny_bind (sliceApplied_rev hs pl pu ps ?_)
  have hno : ¬ ((((items.size : Int) - 1) == 0 && (-1 : Int) == 1 && items.size == items.size) = true) := by
    intro q
    rw [Bool.and_eq_true, Bool.and_eq_true] at q
    exact absurd (eq_of_beq q.1.2) (by decide)
  show wpAny _ _ (if (((items.size : Int) - 1) == 0 && (-1 : Int) == 1 && items.size == items.size) = true then _ else _) _ _ s
  rw [if_neg hno, pick_rev]
  first
    | exact wpAny_bind (m := Builtin.Tuple.tupleExact _) (wpAny_newObj_type (wpAny_pure ⟨_, rfl, wpAny_pure h⟩) htake)
    | exact wpAny_bind (m := Builtin.Tuple.tupleExact _) (wpAny_newObj_type (wpAny_bind (wpAny_pure (wpAny_pure ⟨_, rfl, wpAny_pure h⟩))) htake)
    | exact wpAny_bind (wpAny_bind (m := Builtin.Tuple.tupleExact _) (wpAny_newObj_type (wpAny_pure (wpAny_pure ⟨_, rfl, wpAny_pure h⟩)) htake))
    | exact wpAny_bind (wpAny_bind (m := Builtin.Tuple.tupleExact _) (wpAny_newObj_type (wpAny_pure ⟨_, rfl, wpAny_pure h⟩) htake))
def tRevT (K : PySem.W.Frag) (te ts : TE) : TE := fun σ H Q => te σ H fun x H1 => tPart ts σ H1 fun o H2 => ∃ (a : Addr) (xs : List V), x = .ref a ∧ SqT K H2 a xs ∧ o = some (-1) ∧ ∀ p, H2 p = none → Q (.ref p) (upd H2 p (.tup xs.reverse))
theorem pe_revT {X : Cx} {e es : Expr} {te ts : TE} {p3 pos : Pos} (he : PE X e te) (hs : PE X es ts)
    (hsub : ∀ (a l : Addr), subscripted (.Slice none none (some es) p3) false (.ref a) (.ref l) = operate [.ref a, .ref l] (getItem (.ref a) (.ref l)) := by intro _ _; with_unfolding_all rfl) : PE X (.Subscript e (.Slice none none (some es) p3) pos) (tRevT X.K te ts) := by
  refine ⟨fun pins s σ H Q I h => ?_⟩
  refine Subscript_ (thn (he.run pins s σ H _ I h) fun v s1 ⟨x, H1, I1, r1, q1⟩ => ?_)
  refine wpAny_Slice (thn (po_none.run pins s1 σ H1 (fun o H2 => o = none ∧ H2 = H1) I1 ⟨rfl, rfl⟩) fun vl s2 ⟨l, H2, I2, pl, el, e2⟩ => ?_)
  subst el e2
  refine thn (po_none.run pins s2 σ H2 (fun o H3 => o = none ∧ H3 = H2) I2 ⟨rfl, rfl⟩) fun vu s3 ⟨u, H3, I3, pu, eu, e3⟩ => ?_
  subst eu e3
  have hst : PO X (some es) (tPart ts) := po_some hs
  refine thn (hst.run pins s3 σ H3 _ I3 q1) fun vs s4 ⟨o, H4, I4, ps, a, xs, ex, hx, eo, q⟩ => ?_
  subst ex
  cases r1
  subst eo
  have I5 : Inv X pins σ H4 { s4 with heap := s4.heap.push { cls := .type "slice", data := .fields #[vl, vu, vs] } } := I4.kept (t' := s4.toks) fun b ob q => Heap.get?_push_of_some _ q
  obtain ⟨its, r, ht, hz⟩ := I5.tuple hx
  have hlen := r.length
  show wpAny (model X.prog X.w) X.A (subscriptTail e (.Slice none none (some es) p3) (.ref a) (.ref s4.heap.objs.size)) (EP X pins σ Q) X.xe { s4 with heap := s4.heap.push { cls := .type "slice", data := .fields #[vl, vu, vs] } }
  refine tail_any (ops := [.ref a, .ref s4.heap.objs.size]) ht.typeIs (PyProof.Rows.slot_tuple_getitem.lookup) ?_ (hsub _ _)
  refine getItem_tuple_rev ht (Heap.IsSliceOf.new _ vl vu vs) pl pu ps ?_ (by rw [List.size_toArray]; omega)
  refine ⟨.ref _, _, I5.laid (t' := s4.toks) (o := .tup xs.reverse) (fun b ob q => Heap.get?_push_of_some _ q) (Nat.le_refl _) ?_, rfl, q _ (I5.hok.fresh (Nat.le_refl _))⟩
  exact ⟨by rw [List.length_reverse]; exact hz, _, r.reverse, ⟨_, Heap.get?_push_size _ rfl, rfl, _, rfl⟩⟩
/-! ### parts of tuples, and tuples behind one another, whatever is the whole -/
theorem sl_toG {K : PySem.W.Frag} {H : Hp} {Z : VK} {p : Addr} {xs : List V} {j : Nat} (hp : H p = some (.tup xs)) (z : ∀ (t : Addr) (H' : Hp), Ex H H' → H' t = some (.tup (xs.take j)) → Z (.ref t) H') : rSlAny K (.ref p) none (some (j : Int)) H Z := by
  refine .inr (.inl ⟨p, _, rfl, st_of hp, fun hz => ?_, fun hz t ht => ?_⟩)
  · have h1 := hz.2
    rw [HT.sIx_nat] at h1
    refine z p H (Ex.refl _) ?_
    rw [List.take_of_length_le (by omega)]
    exact hp
  · rw [cut_to]
    generalize hq2 : upd H t _ = H2
    obtain ⟨e2, h2⟩ := gen1 hq2 ht
    exact z t _ e2 h2
theorem sl_fromG {K : PySem.W.Frag} {H : Hp} {Z : VK} {p : Addr} {xs : List V} {j : Nat} (hp : H p = some (.tup xs)) (z : ∀ (t : Addr) (H' : Hp), Ex H H' → H' t = some (.tup (xs.drop j)) → Z (.ref t) H') : rSlAny K (.ref p) (some (j : Int)) none H Z := by
  refine .inr (.inl ⟨p, _, rfl, st_of hp, fun hz => ?_, fun hz t ht => ?_⟩)
  · have h1 := hz.1
    rw [HT.sIx_nat] at h1
    refine z p H (Ex.refl _) ?_
    have : j = 0 ∨ xs.length = 0 := by omega
    rcases this with rfl | h
    · exact hp
    · rw [List.drop_of_length_le (by omega)]
      rw [List.length_eq_zero_iff.mp h] at hp
      exact hp
  · rw [cut_from]
    generalize hq2 : upd H t _ = H2
    obtain ⟨e2, h2⟩ := gen1 hq2 ht
    exact z t _ e2 h2
theorem cat_G {K : PySem.W.Frag} {H : Hp} {Z : VK} {a b : Addr} {xs ys : List V} (ha : H a = some (.tup xs)) (hb : H b = some (.tup ys)) (hl : xs.length + ys.length ≤ 1000) (z : ∀ (t : Addr) (H' : Hp), Ex H H' → H' t = some (.tup (xs ++ ys)) → Z (.ref t) H') : rAdd K (.ref a) (.ref b) H Z := by
  refine .inr (.inr (.inr ⟨a, b, xs, ys, rfl, rfl, st_of ha, st_of hb, Nat.le_trans hl (by show 1000 ≤ sizeLine; decide), fun e => ?_, fun _ e => ?_, fun _ _ t ht => ?_⟩))
  · refine z b H (Ex.refl _) ?_
    rw [e, List.nil_append]
    exact hb
  · refine z a H (Ex.refl _) ?_
    rw [e, List.append_nil]
    exact ha
  · generalize hq2 : upd H t _ = H2
    obtain ⟨e2, h2⟩ := gen1 hq2 ht
    exact z t _ e2 h2
def rMulT (K : PySem.W.Frag) : R2 := fun x y H Z => rMul x y H Z ∨ rRepT K x y H Z
theorem opMulT {X : Cx} : OpR X (binaryOp .Mult) (rMulT X.K) := OpR.or opMul op_repT
theorem flat_one {α : Type} (x : α) : ∀ n : Nat, (List.replicate n [x]).flatten = List.replicate n x
  | 0 => rfl
  | n + 1 => by
    rw [List.replicate_succ, List.flatten_cons, flat_one x n]
    rfl
theorem DaAll.rep {H : Hp} {v : V} {d : PyData} (h : Da H v d) : ∀ n : Nat, DaAll H (List.replicate n v) (List.replicate n d)
  | 0 => .nil
  | n + 1 => .cons h (DaAll.rep h n)
end Own

namespace Own
open PySem PySem.Spec PyProof.Rows L2 Evl
/-! ### the end -/
theorem law_callS {P : Program} {w : World} {K : PySem.W.Frag} {mg mb : Str → Option Value} {k : Nat} {fa a : Addr} {fd : FuncData} {x : Str} {sp : Sp} {st : Shared} {vs : List Value} {ns : List Int}
    (inK : K.In st.heap) (gN : st.heap.Ns mainGlobals mg) (bN : st.heap.Ns builtinsNs mb) (bN0 : ∀ x : Str, x ≠ "__name__" → mb x = bootBuiltins x) (noL : st.heap.NoLimit) (g0 : st.gens = #[])
    (at0 : st.heap.get? a = some { cls := .type "list", data := .seq vs.toArray }) (are : IntsAre vs ns) (few : ns.length ≤ sizeLine) (hr : Room k callerA)
    (sysN : ∃ mm, st.heap.Ns sysModules mm) (F : ∀ base : Heap, K.In base → base.Ns mainGlobals mg → SysAt base → FnG P w K mg base k fa fd [x] sp) (bnd : ∀ (s : Shared) (u : Value), BindsTo s fd ⟨[u], []⟩ [(x, u)])
    (want : ∀ H : Hp, Only H → SqL K H a (ns.map V.int) → sp [.ref a] H (fun v _ => v = .bl true) fun _ _ _ => False)
    :
    codeAny (model P w) callerA (.call (.ref fa) ⟨[.ref a], []⟩) (fun r s' => r = .ok (.ret (.bool true)) ∧ OldK st.heap s'.heap ∧ s'.os = st.os ∧ AllBare s'.gens) st := by
  have rvs := vals_ints are
  have lv := are.length
  have main : ∀ H : Hp, Only H → SqL K H a (ns.map V.int) → HOk P w H st.heap → (∀ b, H b ≠ none → b = a) → (H a ≠ none → K.lookup a = none) →
      codeAny (model P w) callerA (.call (.ref fa) ⟨[.ref a], []⟩) (fun r s' => r = .ok (.ret (.bool true)) ∧ OldK st.heap s'.heap ∧ s'.os = st.os ∧ AllBare s'.gens) st := by
    intro H only sq okH ata notK
    have inB : ∀ {b : Addr} {o : Obj}, st.heap.get? b = some o → H b = none → (hidT st.heap H).get? b = some o := fun e n => hidT_get e n
    have nod : ∀ {b : Addr} {o : Obj} {es : Array DictEntry} {ep : Nat}, st.heap.get? b = some o → o.data = .dict es ep → H b = none := fun {b o es ep} e d => by
      cases qq : H b with
      | none => rfl
      | some u =>
        have e' : b = a := ata b (by rw [qq]; simp)
        subst e'
        rw [at0] at e; cases e
        have d' : Data.seq vs.toArray _ = Data.dict es ep := d
        cases d'
    have nsB : ∀ {b : Addr} {m : Str → Option Value}, st.heap.Ns b m → (hidT st.heap H).Ns b m := fun {b m} ⟨o, es, ep, e, d, r⟩ => ⟨o, es, ep, inB e (nod e d), d, r⟩
    have kB : K.In (hidT st.heap H) := fun b o e => inB (inK b o e) (by
      cases qq : H b with
      | none => rfl
      | some u =>
        have e' : b = a := ata b (by rw [qq]; simp)
        subst e'
        rw [notK (by rw [qq]; simp)] at e; cases e)
    have mdl : Mod K mg (hidT st.heap H) := ⟨kB, nsB gN, ⟨mb, nsB bN, bN0⟩, let ⟨mc, h1, h2⟩ := noL; ⟨mc, nsB h1, h2⟩⟩
    have envs : Env0 P w K mg (hidT st.heap H) callerA [] st H := ⟨rfl, mdl, fun b o e => of_hidT e, Nat.le_of_eq (hidT_size _ _), trivial, fun b bN => absurd (show b ∈ ([] : List Addr) from bN) (by simp), okH, .of_eq g0⟩
    refine codeAny_mono ((F _ kB (nsB gN) (let ⟨mm, z⟩ := sysN; ⟨mm, nsB z⟩)).run callerA [] st H ⟨[.ref a], []⟩ [.ref a] [.ref a] _ _ hr rfl envs (bnd st (.ref a)) (.cons rfl .nil) (want H only sq)) fun r s' h => ?_
    cases r with
    | error e => exact (show False from h).elim
    | ok fl =>
      cases fl with
      | next => exact False.elim h
      | brk => exact False.elim h
      | cont => exact False.elim h
      | ret u =>
        obtain ⟨v, H', oss, br, uu, hok', r', qq⟩ := h
        have q' : v = .bl true := qq
        subst q'
        obtain rfl : u = Value.bool true := r'
        refine ⟨rfl, OldK.of_keep fun b o e => ?_, oss, br⟩
        cases qq : H b with
        | none => exact uu.keep b o e qq (by intro zz; exact absurd (show b ∈ ([] : List Addr) from zz) (by simp)) (by simp)
        | some u =>
          rcases only b with zz | ⟨ob, xs, zz⟩
          · rw [qq] at zz; cases zz
          · have zz2 := uu.frzs b ob _ zz
            obtain ⟨e1, _⟩ := okH b _ zz
            obtain ⟨e2, _⟩ := hok' b _ zz2
            rw [e] at e1; cases e1
            exact e2
  cases lkK : K.lookup a with
  | some o =>
    have e := inK a o lkK
    rw [at0] at e
    cases e
    refine main (fun _ => none) (fun _ => .inl rfl) (.inr ⟨_, vs.toArray, _, lkK, rfl, rfl, rfl, by rw [List.size_toArray, lv]; exact few, by simpa using rvs⟩) (fun b u zz => by have z' : (none : Option HO) = some u := zz; cases z') (fun b zz => absurd rfl zz) fun zz => absurd rfl zz
  | none =>
    refine main (fun b => if b = a then some (.frz { cls := .type "list", data := .seq vs.toArray } (.lst (ns.map V.int))) else none) (fun b => ?_) (.inl (.inr ⟨{ cls := .type "list", data := .seq vs.toArray }, if_pos rfl⟩)) (fun b u zz => ?_) (fun b zz => ?_) fun _ => lkK
    · by_cases bN : b = a
      · exact .inr ⟨_, _, if_pos bN⟩
      · exact .inl (if_neg bN)
    · by_cases bN : b = a
      · have z' := (if_pos bN).symm.trans zz
        cases z'
        subst bN
        exact ⟨at0, by rw [List.length_map]; exact few, vs, _, rvs, at0⟩
      · have z' := (if_neg bN).symm.trans zz
        cases z'
    · by_cases bN : b = a
      · exact bN
      · exact absurd (if_neg bN) zz
theorem walk_S {l : PySem.W.OpenLaw} {n k : Nat} {q : Program} {loose : List Str} {XP : (Str → Option Value) → Heap → Prop} {YP : World → Heap → Prop} {d : DefRec} {K : Params → PySem.W.Frag} {sp : World → Sp} {x : Str}
    (most : l.most = some n) (small : n ≤ sizeLine) (nodf : d.params.defaults = []) (room : Room k callerA) (imps : importsNone q = true) (inn : ∀ (w : World) (h : Heap), YP w h → (K w.params).In h)
    (F : ∀ (w : World) (mg : Str → Option Value) (fa : Addr) (h : Heap), (K w.params).In h → h.Ns mainGlobals mg → mg d.name = some (.ref fa) →
      ∃ fd : FuncData, (∀ (s : Shared) (u : Value), BindsTo s fd ⟨[u], []⟩ [(x, u)]) ∧ ∀ base : Heap, (K w.params).In base → base.Ns mainGlobals mg → SysAt base → FnG l.prog w (K w.params) mg base k fa fd [x] (sp w))
    (want : ∀ (w : World) (H : Hp) (a : Addr) (ns : List Int), ns.length ≤ n → SqL (K w.params) H a (ns.map V.int) → sp w [.ref a] H (fun v _ => v = .bl true) fun _ _ _ => False) :
    PySem.W.WalkO q loose XP YP l.row.toRowW d [] (fun f vs => PySem.call f vs) := by
  refine Att.attach_call most nodf fun w s₀ st mg mb fa o pm cd doc a vs ns G Y ho hd hcd hmg hobj hints hlen g0 => ?_
  have KI := inn w _ Y
  obtain ⟨fd, bd, good⟩ := F w mg fa _ KI G.T.g hmg
  exact law_callS KI G.T.g G.T.b G.T.builtins G.T.nolimit g0 hobj hints (Nat.le_trans hlen small) room (let ⟨mm, z, _⟩ := (G.T.seer imps).mods; ⟨mm, z⟩) good bd (fun H _ hS => want w H a ns hlen hS)
theorem df_mk {K : PySem.W.Frag} {h : Heap} {mg : Str → Option Value} {x : Str} {st : Stmt} {f : Addr} {oc : Value} {od an : Option Addr} {sl : Array (Option Value)} {kV doc pm cdv ct : Value} (X : K.In h) (G : h.Ns mainGlobals mg)
    (a : PySem.W.nsIn K mainGlobals x = some (some (.ref f))) (l : K.lookup f = some ⟨oc, od, .func (PySem.W.fnOf x x (defArgs st) (defBody st) (defScope st) .none kV doc pm an cdv ct), sl⟩) (c : PySem.W.codeIn K cdv x = true) (kp : PySem.W.keepIn K (.ref f) = true) : Df K mg x st :=
  ⟨f, _, PySem.W.mg_of X G a, fun_mk l c kp⟩
end Own

namespace Own
open PySem PySem.Spec PyProof.Rows L2 Evl
def top (i : Nat) : Stmt := PySem.Challenge.pw_scriptpicks_k50_edits_known.main.body.getD i (.Pass ⟨0, 0, 0, 0⟩)
/-- all but b stands -/
def ExB (b : Addr) (H H' : Hp) : Prop := ∀ a o, a ≠ b → H a = some o → H' a = some o
theorem ExB.refl (b : Addr) (H : Hp) : ExB b H H := fun _ _ _ h => h
theorem ExB.set {b : Addr} {H H' : Hp} {o : HO} (e : ExB b H H') : ExB b H (upd H' b o) := fun a u n h => by
  rw [upd_ne n]
  exact e a u n h
theorem ExB.new {b p : Addr} {H H' : Hp} {o : HO} (e : ExB b H H') (hp : H' p = none) : ExB b H (upd H' p o) := fun a u n h => by
  have q := e a u n h
  rw [upd_ne (ne_of_none q hp)]
  exact q
theorem ints_ne4 {ns : List Int} {i j k : Int} {c : Addr} (z : HO.lst (ns.map V.int) = .lst [.int i, .int j, .int k, .ref c]) : False := by
  have z2 : ns.map V.int = [.int i, .int j, .int k, .ref c] := by injection z
  match ns, z2 with
  | [], z2 => cases z2
  | [_], z2 => cases z2
  | [_, _], z2 => cases z2
  | [_, _, _], z2 => cases z2
  | _ :: _ :: _ :: _ :: _, z2 =>
    simp only [List.map_cons] at z2
    injection z2 with _ z2
    injection z2 with _ z2
    injection z2 with _ z2
    injection z2 with z2 _
    cases z2
theorem first_int (ns : List Int) (lo hi : Option Int) : ∃ z, atI (cutV (ns.map V.int) lo hi ++ [V.int 0]) 0 = some (V.int z) := by
  unfold cutV
  rw [← List.map_drop, ← List.map_take]
  generalize (List.take _ (List.drop _ ns)) = l
  cases l with
  | nil => exact ⟨0, rfl⟩
  | cons a r => exact ⟨a, atI_nat (j := 0) rfl⟩
theorem genB {H H3 H4 : Hp} {b : Addr} {o : HO} (hq : upd H3 b o = H4) (e : ExB b H H3) : ExB b H H4 ∧ H4 b = some o := by
  subst hq
  exact ⟨e.set, upd_same⟩
structure Txt0 (mg : Str → Option Value) : Prop where
  abs : mg "abs" = none
  int : mg "int" = none
  len : mg "len" = none
  tuple : mg "tuple" = none
  list : mg "list" = none
  all : mg "all" = none
  any : mg "any" = none
  zip : mg "zip" = none
  range : mg "range" = none
  repr : mg "repr" = none
  dict : mg "dict" = none
abbrev s_l_bag : Stmt := top 17
theorem sc_l_bag : FnScope ["_law_script", "_law_cell"] ["_law_script"] (defScope s_l_bag) := ⟨rfl, rfl, rfl, by decide +kernel, rfl, by decide +kernel, by decide +kernel⟩
abbrev s_l_take : Stmt := top 18
theorem sc_l_take : FnScope ["_law_bag_here", "_law_many", "_law_cell", "_law_mixed", "_law_value", "_law_begin", "_law_second"] ["_law_bag_here", "_law_many"] (defScope s_l_take) := ⟨rfl, rfl, rfl, by decide +kernel, rfl, by decide +kernel, by decide +kernel⟩
abbrev s_l_some : Stmt := top 20
theorem sc_l_some : FnScope ["_law_bag_here", "_law_things"] ["_law_bag_here", "_law_things"] (defScope s_l_some) := ⟨rfl, rfl, rfl, by decide +kernel, rfl, by decide +kernel, by decide +kernel⟩
section
variable {P : Program} {w : World} {K : PySem.W.Frag} {mg : Str → Option Value} {base : Heap}
/-- the bag as a list -/
def spTakeL : Sp := fun vs H Q _ => ∃ (b c : Addr) (m i j k : Int) (ns : List Int), vs = [.ref b, .int m] ∧ H b = some (.lst [.int i, .int j, .int k, .ref c]) ∧ H c = some (.lst (ns.map V.int)) ∧ ns.length ≤ 63 ∧ 0 < m ∧ m < 1000000000 ∧
  ∀ (H' : Hp) (r i' j' k' : Int), 0 ≤ r → r < m → ExB b H H' → H' b = some (.lst [.int i', .int j', .int k', .ref c]) → Q (.int r) H'
theorem ok_takeL (T : Txt0 mg) (D : Df K mg "_law_take" s_l_take) : CalG P w K mg base 1 "_law_take" spTakeL := by
  refine cal_mk D sc_l_take (fun _ _ _ _ _ _ us hl => match us, hl with | [_, _], _ => rfl) (fun vs H Q E h => ?_) (fun f cdv A outer s H vs Q E hr hG h => ?_)
  · obtain ⟨b, c, m, i, j, k, ns, rfl, _⟩ := h
    rfl
  · obtain ⟨b, c, m, i, j, k, ns, rfl, hb, hc, h63, hm, hm9, q⟩ := h
    have nbc : c ≠ b := ne_of hc hb (fun z => ints_ne4 z)
    refine ⟨_, (Evl.pss_cut (ps_if (pt_cmpR (opEq hr) (pe_ix ixAny (pv 0) pe_int (fun _ _ => rfl)) pe_int (nomark _)) (pss_cons (ps_set (i := 2) sc_l_take.nd rfl (Or.inl rfl) (pe_ix ixAny (pe_op opAdd (pe_slice slAny (pe_ix ixAny (pv 0) pe_int (fun _ _ => rfl)) (po_some (pe_ix ixAny (pv 0) pe_int (fun _ _ => rfl))) po_none) (pe_lst (pa_cons pe_int pa_nil))) pe_int (fun _ _ => rfl)))
      (pss_cons (ps_augS (pv 0) pe_int pgetL pe_int ip_add set_list)
      (Evl.pss_cut (ps_if (pt_cmpR opGe (pv 2) pe_int (nomark _)) (pss_one (ps_asg (pv 2) (pg_sub (pv 0) pe_int set_list))) pss_nil)
      (pss_cons (ps_set (i := 3) sc_l_take.nd rfl (Or.inl rfl) (pe_op opAdd (pe_op opAdd (pe_op opMul (pe_ix ixAny (pv 0) pe_int (fun _ _ => rfl)) pe_int) (pe_op op_mod (pe_callTy call_int1 (by rfl) T.int (by decide +kernel) (pa_cons (pv 2) pa_nil)) pe_int)) (pe_op opMul pe_int (pe_ix ixAny (pv 0) pe_int (fun _ _ => rfl)))))
      (pss_one (ps_asg (pe_op op_mod (pe_callTy call_int1 (by rfl) T.int (by decide +kernel) (pa_cons (pv 3) pa_nil)) pe_int) (pg_sub (pv 0) pe_int set_list))))))) pss_nil)
      (pss_cons (ps_if (pt_cmpR opGt (pe_ix ixAny (pv 0) pe_int (fun _ _ => rfl)) pe_int (nomark _)) (pss_cons (ps_set (i := 4) sc_l_take.nd rfl (Or.inl rfl) (pe_op op_mod (pe_callTy call_int1 (by rfl) T.int (by decide +kernel) (pa_cons (pe_ix ixAny (pv 0) pe_int (fun _ _ => rfl)) pa_nil)) (pv 1)))
      (pss_cons (ps_asg (pe_op op_fdivW (pe_ix ixAny (pv 0) pe_int (fun _ _ => rfl)) (pv 1)) (pg_sub (pv 0) pe_int set_list))
      (pss_one (ps_ret (pv 4))))) pss_nil)
      (pss_cons (ps_set (i := 5) sc_l_take.nd rfl (Or.inl rfl) (pe_op op_mod (pe_callTy call_int1 (by rfl) T.int (by decide +kernel) (pa_cons (pe_op opMul (pe_op opAdd (pe_ix ixAny (pv 0) pe_int (fun _ _ => rfl)) pe_int) pe_int) pa_nil)) pe_int))
      (pss_cons (ps_set (i := 6) sc_l_take.nd rfl (Or.inl rfl) (pe_op op_mod (pe_callTy call_int1 (by rfl) T.int (by decide +kernel) (pa_cons (pe_op opMul (pe_op op_mod (pe_callTy call_int1 (by rfl) T.int (by decide +kernel) (pa_cons (pe_op opMul (pv 5) (pv 5)) pa_nil)) pe_int) pe_int) pa_nil)) pe_int))
      (pss_one (ps_ret (pe_op op_mod (pe_callTy call_int1 (by rfl) T.int (by decide +kernel) (pa_cons (pe_op op_fdivW (pv 6) pe_int) pa_nil)) (pv 1)))))))), ?_⟩
    refine ⟨fun σ' H' => ∃ (i j k : Int) (x2 x3 : Option V), σ' = [some (.ref b), some (.int m), x2, x3, none, none, none] ∧ ExB b H H' ∧ H' b = some (.lst [.int i, .int j, .int k, .ref c]), ?_, ?_⟩
    · refine ⟨_, rfl, .inl ⟨b, _, 0, _, rfl, rfl, sq_of hb, rfl, .inl ⟨rfl, _, rfl, ?_⟩⟩⟩
      refine ite2 (fun _ => ?_) (fun _ => ⟨i, j, k, none, none, rfl, ExB.refl b H, hb⟩)
      -- cell = (bag[3][bag[2]:] + [0])[0]
      refine ⟨_, rfl, .inl ⟨b, _, 3, _, rfl, rfl, sq_of hb, rfl, ⟨_, rfl, .inl ⟨b, _, 2, _, rfl, rfl, sq_of hb, rfl, k, rfl, .inl ⟨c, _, rfl, sq_of hc, fun p hp => ?_⟩⟩⟩⟩⟩
      refine ⟨by show 1 ≤ sizeLine; decide, fun p2 hp2 => .inr (.inr (.inl ⟨p, p2, _, _, rfl, rfl, up_old hp2 upd_same, upd_same, ?_, fun p3 hp3 => ?_⟩))⟩
      · refine sz_of ?_
        have q1 := cutV_length (ns.map V.int) (some k) none
        rw [List.length_map] at q1
        show _ + 1 ≤ 100000
        omega
      obtain ⟨z, hz⟩ := first_int ns (some k) none
      refine .inl ⟨p3, _, 0, _, rfl, rfl, sq_of upd_same, hz, ?_⟩
      have e3 := (((ExB.refl b H).new (o := .lst (cutV (ns.map V.int) (some k) none)) hp).new (o := .lst [V.int 0]) hp2).new (o := .lst (cutV (ns.map V.int) (some k) none ++ [V.int 0])) hp3
      have hb3 := up_old (o := .lst (cutV (ns.map V.int) (some k) none ++ [V.int 0])) hp3 (up_old (o := .lst [V.int 0]) hp2 (up_old (o := .lst (cutV (ns.map V.int) (some k) none)) hp hb))
      generalize upd (upd (upd H p _) p2 _) p3 _ = H3 at e3 hb3 ⊢
      -- bag[2] += 1
      refine ⟨_, rfl, b, _, 2, _, rfl, rfl, sq_of hb3, rfl, k, 1, rfl, rfl, b, _, 2, 2, rfl, rfl, hb3, rfl, ?_⟩
      generalize hq4 : upd H3 b _ = H4
      obtain ⟨e4, hb4⟩ := genB hq4 e3
      -- if cell >= ..: bag[0] = cell
      refine ⟨fun σ' H' => ∃ (i : Int), σ' = [some (.ref b), some (.int m), some (.int z), none, none, none, none] ∧ ExB b H H' ∧ H' b = some (.lst [.int i, .int j, .int (k + 1), .ref c]), ?_, ?_⟩
      · refine ⟨_, rfl, z, _, rfl, rfl, _, rfl, ?_⟩
        refine ite2 (fun _ => ?_) (fun _ => ⟨i, rfl, e4, hb4⟩)
        exact ⟨_, rfl, _, rfl, b, _, 0, 0, rfl, rfl, hb4, rfl, z, rfl, e4.set, upd_same⟩
      · rintro σ5 H5 ⟨i5, rfl, e5, hb5⟩
        -- mixed
        refine ⟨_, rfl, .inl ⟨b, _, 1, _, rfl, rfl, sq_of hb5, rfl, .inl ⟨j, 48271, rfl, rfl, .inr (by decide), ?_⟩⟩⟩
        refine ⟨_, rfl, .inl ⟨z, rfl, ?_⟩⟩
        refine ⟨_, _, rfl, rfl, (show (0 : Int) < 2147483647 by decide), .inl ⟨_, _, rfl, rfl, ?_⟩⟩
        refine ⟨_, rfl, .inl ⟨b, _, 2, _, rfl, rfl, sq_of hb5, rfl, .inl ⟨7919, _, rfl, rfl, .inl (by decide), .inl ⟨_, _, rfl, rfl, ?_⟩⟩⟩⟩
        refine ⟨_, rfl, .inl ⟨_, rfl, ?_⟩⟩
        refine ⟨_, _, rfl, rfl, (show (0 : Int) < 2147483647 by decide), _, rfl, b, _, 1, 1, rfl, rfl, hb5, rfl, ?_⟩
        exact ⟨i5, _, k + 1, _, _, rfl, e5.set, upd_same⟩
    · rintro σ' H' ⟨i, j, k, x2, x3, rfl, e, hb⟩
      refine ⟨_, rfl, .inl ⟨b, _, 0, _, rfl, rfl, sq_of hb, rfl, i, 0, rfl, rfl, _, rfl, ?_⟩⟩
      refine ite2 (fun _ => ?_) (fun _ => ?_)
      · refine ⟨_, rfl, .inl ⟨b, _, 0, _, rfl, rfl, sq_of hb, rfl, .inl ⟨_, rfl, ?_⟩⟩⟩
        refine ⟨_, rfl, _, _, rfl, rfl, hm, ?_⟩
        refine ⟨_, rfl, .inl ⟨b, _, 0, _, rfl, rfl, sq_of hb, rfl, ?_⟩⟩
        refine ⟨_, rfl, _, _, rfl, rfl, wide_div hm (b := 30) (by omega) (by decide) (by decide), ?_⟩
        refine ⟨_, rfl, b, _, 0, 0, rfl, rfl, hb, rfl, ?_⟩
        exact ⟨_, rfl, q _ _ _ _ _ (Int.emod_nonneg _ (by omega)) (Int.emod_lt_of_pos _ hm) e.set upd_same⟩
      · refine ⟨_, rfl, .inl ⟨b, _, 1, _, rfl, rfl, sq_of hb, rfl, .inl ⟨j, 1, rfl, rfl, .inl ⟨_, 39373, rfl, rfl, .inr (by decide), .inl ⟨_, rfl, ?_⟩⟩⟩⟩⟩
        refine ⟨_, _, rfl, rfl, (show (0 : Int) < 1000000007 by decide), ?_⟩
        have h0 : 0 ≤ (j + 1) * 39373 % 1000000007 := Int.emod_nonneg _ (by decide)
        have h1 : (j + 1) * 39373 % 1000000007 < 1000000007 := Int.emod_lt_of_pos _ (by decide)
        refine ⟨_, rfl, _, rfl, .inl ⟨_, _, rfl, rfl, .inl ⟨Int.lt_of_lt_of_le (by decide) h0, Int.lt_trans h1 (by decide)⟩, .inl ⟨_, rfl, ?_⟩⟩⟩
        refine ⟨_, _, rfl, rfl, (show (0 : Int) < 998244353 by decide), .inl ⟨_, 30011, rfl, rfl, .inr (by decide), .inl ⟨_, rfl, ?_⟩⟩⟩
        refine ⟨_, _, rfl, rfl, (show (0 : Int) < 998244353 by decide), ?_⟩
        refine ⟨_, rfl, _, _, rfl, rfl, wide_div (b := 30) (by decide) (by decide) (by decide) (by decide), .inl ⟨_, rfl, ?_⟩⟩
        exact ⟨_, rfl, _, _, rfl, rfl, hm, q _ _ _ _ _ (Int.emod_nonneg _ (by omega)) (Int.emod_lt_of_pos _ hm) e hb⟩
end
/-- the bag, its numbers left open -/
def bagF (b c : Addr) (h : Heap) : Prop := ∃ (i j k : Int) (t u v : Tok) (n : Nat), h.get? b = some { cls := .type "list", data := .seq #[.int i t, .int j u, .int k v, .ref c] n }
def bagO (b c : Addr) : HO := .ext (bagF b c)
def BagAt (H : Hp) (b : Addr) : Prop := ∃ (c : Addr) (ns : List Int), H b = some (bagO b c) ∧ H c = some (.lst (ns.map V.int)) ∧ ns.length ≤ 63
theorem BagAt.ex {H H' : Hp} {b : Addr} (e : Ex H H') (h : BagAt H b) : BagAt H' b := by
  obtain ⟨c, ns, h1, h2, h3⟩ := h
  exact ⟨c, ns, e _ _ h1, e _ _ h2, h3⟩
theorem objOk_swap {P : Program} {w : World} {H H' : Hp} {h : Heap} (ht : ∀ a xs, H a = some (.tup xs) → H' a = some (.tup xs)) (ho : ∀ a x, H a = some (.own x) → H' a = some (.own x)) : ∀ (o : HO) (a : Addr), ObjOk P w H h a o → ObjOk P w H' h a o
  | .lst _, _, q => q
  | .tup _, _, q => q
  | .dK _, _, q => q
  | .dT kvs, a, q => by
    obtain ⟨q1, q2, xs, q3, q4⟩ := q
    exact ⟨q1, q2, xs, Paired.mapP q3 fun x y z => ⟨z.1, ht _ _ z.2.1, z.2.2⟩, q4⟩
  | .set _ _, _, q => q
  | .ins _ _ _, a, q => by
    obtain ⟨q1, q2⟩ := q
    exact ⟨ho _ _ q1, q2⟩
  | .own _, _, q => q
  | .xd _, _, q => q
  | .met _ _, _, q => q
  | .rng _ _, _, q => q
  | .frz o u, a, q => ⟨q.1, objOk_swap ht ho u a q.2⟩
  | .tbl _, _, q => q
  | .ext _, _, q => q
theorem hOk_set {P : Program} {w : World} {H : Hp} {h : Heap} {b : Addr} {o1 o2 : HO} (hk : HOk P w H h) (h1 : H b = some o1) (nt : ∀ xs, o1 ≠ .tup xs) (no : ∀ x, o1 ≠ .own x) (h2 : ObjOk P w (upd H b o2) h b o2) : HOk P w (upd H b o2) h := fun a o e => by
  by_cases ea : a = b
  · subst ea
    rw [upd_same] at e
    cases e
    exact h2
  · rw [upd_ne ea] at e
    refine objOk_swap (fun a' xs q => ?_) (fun a' x q => ?_) o a (hk a o e)
    · have n : a' ≠ b := fun z => by
        rw [z, h1] at q
        exact nt _ (Option.some.inj q)
      rw [upd_ne n]
      exact q
    · have n : a' ≠ b := fun z => by
        rw [z, h1] at q
        exact no _ (Option.some.inj q)
      rw [upd_ne n]
      exact q
def spTake : Sp := fun vs H Q _ => ∃ (b : Addr) (m : Int), vs = [.ref b, .int m] ∧ BagAt H b ∧ 0 < m ∧ m < 1000000000 ∧ ∀ (H' : Hp) (r : Int), 0 ≤ r → r < m → Ex H H' → Q (.int r) H'
section
variable {P : Program} {w : World} {K : PySem.W.Frag} {mg : Str → Option Value} {base : Heap}
theorem bag_shut {P : Program} {w : World} {H : Hp} {h : Heap} {b c : Addr} {i j k : Int} (q : ObjOk P w H h b (.lst [.int i, .int j, .int k, .ref c])) : bagF b c h := by
  obtain ⟨_, its, n, rv, ho⟩ := q
  cases rv with
  | cons r1 rv => cases rv with
    | cons r2 rv => cases rv with
      | cons r3 rv => cases rv with
        | cons r4 rv =>
          cases rv
          obtain ⟨t, rfl⟩ := r1
          obtain ⟨u, rfl⟩ := r2
          obtain ⟨v, rfl⟩ := r3
          cases r4
          exact ⟨i, j, k, t, u, v, n, ho⟩
theorem take_ext (C : CalG P w K mg base 1 "_law_take" spTakeL) : CalG P w K mg base 1 "_law_take" spTake := by
  obtain ⟨f, fd, ps, F, a, kp, bd⟩ := C.ex
  have hps : ps.length = 2 := (F.len [.ref 0, .int 1] (fun x => if x = 0 then some (.lst [.int 0, .int 0, .int 0, .ref 1]) else if x = 1 then some (.lst ([].map V.int)) else none) (fun _ _ => True) (fun _ _ _ => True) ⟨0, 1, 1, 0, 0, 0, [], rfl, rfl, rfl, by decide, by decide, by decide, fun _ _ _ _ _ _ _ _ _ => trivial⟩).symm
  refine ⟨f, fd, ps, ⟨fun vs H Q E h => ?_, fun A outer s H args us vs Q E hr hg e0 hb rv h => ?_⟩, a, kp, bd⟩
  · obtain ⟨b, m, rfl, _⟩ := h
    exact hps.symm
  · obtain ⟨b, m, rfl, ⟨c, ns, h1, h2, h3⟩, hm, hm9, q⟩ := h
    obtain ⟨⟨i, j, k, t, u, v, n, ho⟩, _, _⟩ := e0.hok b _ h1
    have nbc : c ≠ b := ne_of h2 h1 (by intro z; cases z)
    have hok : HOk P w (upd H b (.lst [.int i, .int j, .int k, .ref c])) s.heap := hOk_set e0.hok h1 (fun _ z => by cases z) (fun _ z => by cases z)
      ⟨by show 4 ≤ sizeLine; decide, [.int i t, .int j u, .int k v, .ref c], n, .cons ⟨t, rfl⟩ (.cons ⟨u, rfl⟩ (.cons ⟨v, rfl⟩ (.cons rfl .nil))), ho⟩
    have nb : ∀ x, H x = none → (upd H b (.lst [.int i, .int j, .int k, .ref c])) x = none := fun x e => by
      rw [upd_ne (fun z => by rw [z, h1] at e; cases e)]
      exact e
    have e1 : Env0 P w K mg base A outer s (upd H b (.lst [.int i, .int j, .int k, .ref c])) :=
      ⟨e0.frames, e0.mod, fun x o e => ⟨(e0.bs x o e).1, nb _ (e0.bs x o e).2⟩, e0.bsz, e0.funs, fun x hx => nb _ (e0.frf x hx), hok, e0.bare⟩
    have run := F.run A outer s _ args us [.ref b, .int m] (fun v H'' => (∃ i j k, H'' b = some (.lst [.int i, .int j, .int k, .ref c])) ∧ Q v (upd H'' b (bagO b c))) E hr hg e1 hb rv
      ⟨b, c, m, i, j, k, ns, rfl, upd_same, by rw [upd_ne nbc]; exact h2, h3, hm, hm9, fun H' r i' j' k' r0 r1 e2 hb' => ⟨⟨_, _, _, hb'⟩, q _ r r0 r1 fun x o hx => by
        by_cases ex : x = b
        · rw [ex] at hx ⊢
          rw [upd_same, ← h1]
          exact hx
        · rw [upd_ne ex]
          exact e2 x o ex (by rw [upd_ne ex]; exact hx)⟩⟩
    refine codeAny_mono run fun r s' hq => ?_
    cases r with
    | error e => exact hq
    | ok fl =>
      cases fl with
      | next => exact hq
      | brk => exact hq
      | cont => exact hq
      | ret u' =>
        obtain ⟨v', H'', q1, q2, q3, q4, q5, ⟨i2, j2, k2, q6⟩, q7⟩ := hq
        refine ⟨v', upd H'' b (bagO b c), q1, q2, ⟨?_, ?_, ?_, ?_, ?_, ?_, ?_⟩, ?_, q5, q7⟩
        · exact fun x o e n f g => q3.keep x o e (nb x n) f g
        · exact fun x o e n f g => q3.slot x o e (nb x n) f g
        · intro x o e n g
          have nx : x ≠ b := fun z => by
            rw [z, h1] at n
            cases n
          rw [upd_ne nx]
          exact q3.free x o e (nb x n) g
        · exact q3.there
        · intro x xs e
          have nx : x ≠ b := fun z => by
            rw [z, h1] at e
            cases e
          rw [upd_ne nx]
          exact q3.tups x xs (by rw [upd_ne nx]; exact e)
        · intro x o u e
          have nx : x ≠ b := fun z => by
            rw [z, h1] at e
            cases e
          rw [upd_ne nx]
          exact q3.frzs x o u (by rw [upd_ne nx]; exact e)
        · intro x ps e
          have nx : x ≠ b := fun z => by
            rw [z, h1] at e
            cases e
          rw [upd_ne nx]
          exact q3.tbls x ps (by rw [upd_ne nx]; exact e)
        · refine hOk_set q4 q6 (fun _ z => by cases z) (fun _ z => by cases z) ?_
          have q8 := bag_shut (q4 b _ q6)
          refine ⟨q8, ?_, fun ha hb ⟨i, j, k, t, u, v, n, x⟩ y => ⟨i, j, k, t, u, v, n, y _ x⟩⟩
          obtain ⟨_, _, _, _, _, _, _, x⟩ := q8
          exact ⟨_, x⟩
def spBagL (K : PySem.W.Frag) : Sp := fun vs H Q _ => ∃ (a : Addr) (ns : List Int), vs = [.ref a] ∧ SqL K H a (ns.map V.int) ∧ ns.length ≤ 63 ∧
  ∀ (H' : Hp) (b c : Addr) (ms : List Int), Ex H H' → H' b = some (.lst [.int 0, .int 1234567891, .int 0, .ref c]) → H' c = some (.lst (ms.map V.int)) → ms.length ≤ 63 → H b = none → Q (.ref b) H'
theorem all_ints : ∀ (ys : List V), (∀ (i : Nat) y, ys[i]? = some y → ∃ z : Int, y = .int z) → ∃ ms : List Int, ys = ms.map V.int
  | [], _ => ⟨[], rfl⟩
  | y :: ys, h => by
    obtain ⟨z, rfl⟩ := h 0 y rfl
    obtain ⟨ms, e⟩ := all_ints ys fun i y q => h (i + 1) y q
    exact ⟨z :: ms, by rw [e]; rfl⟩
theorem cut_at {xs : List V} {lo hi : Option Int} {i : Nat} {x : V} (h : (cutV xs lo hi)[i]? = some x) : ∃ j : Nat, xs[j]? = some x := by
  unfold cutV at h
  rw [List.getElem?_take] at h
  split at h
  · rw [List.getElem?_drop] at h
    exact ⟨_, h⟩
  · cases h
theorem map_at {ns : List Int} {i : Nat} {x : V} (h : (ns.map V.int)[i]? = some x) : ∃ z : Int, x = .int z := by
  rw [List.getElem?_map] at h
  cases e : ns[i]? with
  | none => rw [e] at h; cases h
  | some z => rw [e] at h; exact ⟨z, (Option.some.inj h).symm⟩
theorem ok_bagL (T : Txt0 mg) (D : Df K mg "_law_bag" s_l_bag) : CalG P w K mg base 1 "_law_bag" (spBagL K) := by
  refine cal_mk D sc_l_bag (fun _ _ _ _ _ _ us hl => match us, hl with | [_], _ => rfl) (fun vs H Q E h => ?_) (fun f cdv A outer s H vs Q E hr hG h => ?_)
  · obtain ⟨a, ns, rfl, _⟩ := h
    rfl
  · obtain ⟨a, ns, rfl, ha, h63, q⟩ := h
    refine ⟨_, (pss_one (ps_ret (pe_lst (pa_cons pe_int (pa_cons pe_int (pa_cons pe_int (pa_cons (pe_lcO (pe_lc (own := [("_law_cell", 1)]) rfl sc_l_bag.nd (piAny (pe_slice slAny (pv 0) po_none (po_some pe_int))) (blkOk_by (own := [("_law_cell", 1)]) (N := ["_law_script", "_law_cell"]) (sc := defScope s_l_bag) (by first | decide +kernel | kernel_rfl)) (fun _ _ _ _ _ => pg_name (i := 1) sc_l_bag.nd rfl (Or.inl rfl)) (fun _ _ _ _ _ => pts_nil) (fun _ _ _ _ _ => pe_callB call_abs (by rfl) T.abs (by decide +kernel) (pa_cons (pv 1) pa_nil)))) pa_nil))))))), ?_⟩
    refine .inl ⟨_, rfl, 63, rfl, .inl ⟨a, _, rfl, ha, fun p hp => ?_⟩⟩
    generalize hq1 : upd H p _ = H1
    obtain ⟨e1, h1⟩ := gen1 hq1 hp
    have hlen := cutV_length (ns.map V.int) none (some 63)
    rw [List.length_map] at hlen
    refine ⟨p, rfl, ⟨_, sq_of h1⟩, ?_⟩
    refine lcG (walk_list (xs := cutV (ns.map V.int) none (some 63))) (by omega) (sq_of h1) (fun _ _ e h => ex_l e h) yAt_ex (fun i ys _ => ∀ (j : Nat) y, ys[j]? = some y → ∃ z : Int, y = .int z) (fun _ _ _ _ _ h => h) (fun j y z => by simp at z) ?_ ?_
    · rintro i x H2 H3 ys hi e2 ⟨rfl, hx⟩ hp N N0 kN kN0
      obtain ⟨j, hj⟩ := cut_at hx
      obtain ⟨z, rfl⟩ := map_at hj
      refine ⟨rfl, ?_⟩
      refine ⟨_, rfl, z, rfl, ?_⟩
      refine kN _ _ (Ex.refl _) fun j y hy => ?_
      rw [List.getElem?_append] at hy
      split at hy
      · exact hp j y hy
      · rw [List.getElem?_singleton] at hy
        split at hy
        · exact ⟨_, (Option.some.inj hy).symm⟩
        · cases hy
    · intro D H2 ys hD e2 h2 hl hp
      obtain ⟨ms, rfl⟩ := all_ints ys hp
      refine ⟨by show 4 ≤ sizeLine; decide, fun b hb => ?_⟩
      generalize hq3 : upd H2 b _ = H3
      obtain ⟨e3, h3⟩ := gen1 hq3 hb
      rw [List.length_map] at hl
      exact q _ b D ms ((e1.trans e2).trans e3) h3 (e3 _ _ h2) (by omega) (fresh_back (e1.trans e2) hb)
/-- script: any list of ints -/
def spBag (K : PySem.W.Frag) : Sp := fun vs H Q _ => ∃ (a : Addr) (ns : List Int), vs = [.ref a] ∧ SqL K H a (ns.map V.int) ∧ ns.length ≤ 63 ∧ ∀ (H' : Hp) (b : Addr), Ex H H' → BagAt H' b → Q (.ref b) H'
theorem bag_ext (C : CalG P w K mg base 1 "_law_bag" (spBagL K)) : CalG P w K mg base 1 "_law_bag" (spBag K) := by
  obtain ⟨f, fd, ps, F, a, kp, bd⟩ := C.ex
  refine ⟨f, fd, ps, ⟨fun vs H Q E h => ?_, fun A outer s H args us vs Q E hr hg e0 hb rv h => ?_⟩, a, kp, bd⟩
  · obtain ⟨a, ns, rfl, ha, hl, _⟩ := h
    exact F.len [.ref a] H (fun _ _ => True) E ⟨a, ns, rfl, ha, hl, fun _ _ _ _ _ _ _ _ _ => trivial⟩
  · obtain ⟨a, ns, rfl, ha, hl, q⟩ := h
    have run := F.run A outer s _ args us [.ref a] (fun v H'' => ∃ (b c : Addr) (ms : List Int), v = .ref b ∧ Ex H H'' ∧ H'' b = some (.lst [.int 0, .int 1234567891, .int 0, .ref c]) ∧ H'' c = some (.lst (ms.map V.int)) ∧ ms.length ≤ 63 ∧ H b = none) E hr hg e0 hb rv
      ⟨a, ns, rfl, ha, hl, fun H' b c ms e h1 h2 h3 h4 => ⟨b, c, ms, rfl, e, h1, h2, h3, h4⟩⟩
    refine codeAny_mono run fun r s' hq => ?_
    cases r with
    | error e => exact hq
    | ok fl =>
      cases fl with
      | next => exact hq
      | brk => exact hq
      | cont => exact hq
      | ret u' =>
        obtain ⟨v', H'', q1, q2, q3, q4, q5, b, c, ms, rfl, e, h1, h2, h3, h4⟩ := hq
        have nbc : c ≠ b := ne_of h2 h1 (fun z => ints_ne4 z)
        have no : ∀ x o, H x = some o → x ≠ b := fun x o hx z => by
          rw [z, h4] at hx
          cases hx
        refine ⟨.ref b, upd H'' b (bagO b c), q1, q2, ⟨q3.keep, q3.slot, ?_, q3.there, ?_, ?_, ?_⟩, ?_, q5, q _ b (Ex.mut e h4) ⟨c, ms, upd_same, ?_, h3⟩⟩
        · intro x o ho n g
          have z := q3.free x o ho n g
          have nx : x ≠ b := fun y => by
            rw [y, h1] at z
            cases z
          rw [upd_ne nx]
          exact z
        · intro x xs hx
          rw [upd_ne (no _ _ hx)]
          exact q3.tups x xs hx
        · intro x o u hx
          rw [upd_ne (no _ _ hx)]
          exact q3.frzs x o u hx
        · intro x ps hx
          rw [upd_ne (no _ _ hx)]
          exact q3.tbls x ps hx
        · refine hOk_set q4 h1 (fun _ z => by cases z) (fun _ z => by cases z) ?_
          have q8 := bag_shut (q4 b _ h1)
          refine ⟨q8, ?_, fun ha hb ⟨i, j, k, t, u, v, n, x⟩ y => ⟨i, j, k, t, u, v, n, y _ x⟩⟩
          obtain ⟨_, _, _, _, _, _, _, x⟩ := q8
          exact ⟨_, x⟩
        · rw [upd_ne nbc]
          exact h2
def spSome (K : PySem.W.Frag) : Sp := fun vs H Q _ => ∃ (b a : Addr) (xs : List V), vs = [.ref b, .ref a] ∧ BagAt H b ∧ (SqL K H a xs ∨ SqT K H a xs) ∧ xs ≠ [] ∧ xs.length ≤ 100000 ∧
  ∀ (H' : Hp) (i : Nat) (x : V), Ex H H' → xs[i]? = some x → Q x H'
theorem ok_some (T : Txt0 mg) (D : Df K mg "_law_some" s_l_some) (c_l_take : CalG P w K mg base 1 "_law_take" spTake) : CalG P w K mg base 2 "_law_some" (spSome K) := by
  refine cal_mk D sc_l_some (fun _ _ _ _ _ _ us hl => match us, hl with | [_, _], _ => rfl) (fun vs H Q E h => ?_) (fun f cdv A outer s H vs Q E hr hG h => ?_)
  · obtain ⟨b, a, xs, rfl, _⟩ := h
    rfl
  · obtain ⟨b, a, xs, rfl, hb, ha, hne, hl, q⟩ := h
    have hpos : 0 < xs.length := List.length_pos_iff.mpr hne
    refine ⟨_, (pss_one (ps_ret (pe_ix ixAny (pv 1) (pe_cG c_l_take hr hG (by decide) rfl (pa_cons (pv 0) (pa_cons (pe_callB callLen (by rfl) T.len PySem.boot_len (pa_cons (pv 1) pa_nil)) pa_nil))) (fun _ _ => rfl)))), ?_⟩
    refine ⟨_, rfl, _, rfl, _, rfl, .inl ⟨a, xs, rfl, ha, ?_⟩⟩
    refine ⟨b, _, rfl, hb, by omega, by omega, fun H' r r0 r1 e => ?_⟩
    obtain ⟨j, rfl⟩ : ∃ j : Nat, r = (j : Int) := ⟨r.toNat, by omega⟩
    have hj : j < xs.length := by omega
    rcases ha with ha | ha
    · exact .inl ⟨a, xs, _, xs[j], rfl, rfl, ex_l e ha, atI_nat (List.getElem?_eq_getElem hj), q H' j _ e (List.getElem?_eq_getElem hj)⟩
    · exact .inr (.inl ⟨a, xs, _, xs[j], rfl, rfl, ex_t e ha, atI_nat (List.getElem?_eq_getElem hj), q H' j _ e (List.getElem?_eq_getElem hj)⟩)
end
abbrev s_l_names : Stmt := top 21
theorem sc_l_names : FnScope ["_law_bag_here", "_law_many", "_law_letters", "_law_found", "_law_words", "_law_k", "_law_signs", "_law_spin", "_law_at", "_law_rest", "_law_some_here", "_law_one"] ["_law_bag_here", "_law_many"] (defScope s_l_names) := ⟨rfl, rfl, rfl, by decide +kernel, rfl, by decide +kernel, by decide +kernel⟩
section
variable {P : Program} {w : World} {K : PySem.W.Frag} {mg : Str → Option Value} {base : Heap}
/-! ### names -/
def LET : Str := "abcdefghijklmnopqrstuvwxyz"
def WRD : Str := "at as last like all name book goal with turn part drop call copy chain close eq lt gt put"
def WL : List Str := ["at", "as", "last", "like", "all", "name", "book", "goal", "with", "turn", "part", "drop", "call", "copy", "chain", "close", "eq", "lt", "gt", "put"]
def lowc (c : Nat) : Bool := decide (97 ≤ c) && decide (c ≤ 122)
def isNm (z : Str) : Bool := decide (1 ≤ z.length) && decide (z.length ≤ 8) && (TL.tl z).all lowc
theorem wl_split : Txt.split WRD " " = WL := by decide +kernel
theorem wl_nm : WL.all isNm = true := by decide +kernel
theorem let_at : ∀ j : Fin 26, atI LET.cps.toList ((j.val : Nat) : Int) = some (97 + j.val) := by decide +kernel
theorem let_occ : ∀ j : Fin 26, Builtin.Str.occurrences LET (sgn (97 + j.val)) 0 LET.length 1 = [j.val] := by decide +kernel
theorem let_rot : ∀ j : Fin 26, (TL.tl (cutS LET (some (j.val : Int)) none ++ cutS LET none (some (j.val : Int)))).Nodup ∧ (TL.tl (cutS LET (some (j.val : Int)) none ++ cutS LET none (some (j.val : Int)))).all lowc = true ∧ (TL.tl (cutS LET (some (j.val : Int)) none ++ cutS LET none (some (j.val : Int)))).length = 26 := by decide +kernel
theorem let_cut : ∀ j : Fin 26, (cutS LET (some (j.val : Int)) none).length + (cutS LET none (some (j.val : Int))).length ≤ 26 := by decide +kernel
theorem four_at {r : Int} (h0 : 0 ≤ r) (h1 : r < 4) : ∃ n : Nat, 1 ≤ n ∧ n ≤ 8 ∧ atI [V.int 1, V.int 2, V.int 8, V.int 4] r = some (.int (n : Int)) := by
  have q : r = 0 ∨ r = 1 ∨ r = 2 ∨ r = 3 := by omega
  rcases q with rfl | rfl | rfl | rfl
  · exact ⟨1, by decide, by decide, rfl⟩
  · exact ⟨2, by decide, by decide, rfl⟩
  · exact ⟨8, by decide, by decide, rfl⟩
  · exact ⟨4, by decide, by decide, rfl⟩
/-- of more different names than stand in a list one is none of it -/
theorem more_left {α : Type} [DecidableEq α] : ∀ (xs ys : List α), xs.Nodup → ys.length < xs.length → ∃ x ∈ xs, x ∉ ys
  | [], ys, _, h => by simp at h
  | x :: xs, ys, hn, h => by
    by_cases hx : x ∈ ys
    · have hn2 := (List.nodup_cons.mp hn)
      obtain ⟨z, hz, hz2⟩ := more_left xs (ys.erase x) hn2.2 (by
        rw [List.length_erase_of_mem hx]
        rw [List.length_cons] at h
        have : 0 < ys.length := List.length_pos_of_mem hx
        omega)
      refine ⟨z, List.mem_cons_of_mem _ hz, fun q => hz2 ?_⟩
      have ne : z ≠ x := fun e => hn2.1 (e ▸ hz)
      exact (List.mem_erase_of_ne ne).mpr q
    · exact ⟨x, List.mem_cons_self, hx⟩
def spNames : Sp := fun vs H Q _ => ∃ (b : Addr) (m : Int), vs = [.ref b, .int m] ∧ BagAt H b ∧ 0 ≤ m ∧ m ≤ 25 ∧
  ∀ (H' : Hp) (p : Addr) (ns : List Str), Ex H H' → H p = none → H' p = some (.lst (ns.map V.str)) → (ns.length : Int) = m → ns.Nodup → (∀ z ∈ ns, isNm z = true) → Q (.ref p) H'
theorem ok_names (T : Txt0 mg) (D : Df K mg "_law_names" s_l_names) (c_l_take : CalG P w K mg base 1 "_law_take" spTake) : CalG P w K mg base 2 "_law_names" spNames := by
  refine cal_mk D sc_l_names (fun _ _ _ _ _ _ us hl => match us, hl with | [_, _], _ => rfl) (fun vs H Q E h => ?_) (fun f cdv A outer s H vs Q E hr hG h => ?_)
  · obtain ⟨b, m, rfl, _⟩ := h
    rfl
  · obtain ⟨b, m, rfl, hb, m0, m25, q⟩ := h
    refine ⟨_, (pss_cons (ps_asg (pe_tup (pa_cons pe_str (pa_cons (pe_lst pa_nil) pa_nil))) (pg_tup rfl (pgs_cons (pg_name (i := 2) sc_l_names.nd rfl (Or.inr rfl)) (pgs_cons (pg_name (i := 3) sc_l_names.nd rfl (Or.inr rfl)) pgs_nil))))
      (pss_cons (ps_set (i := 4) sc_l_names.nd rfl (Or.inl rfl) (pe_split pe_str pe_str))
      (pss_cons (ps_forO (ps_for PassesOwn.never rfl (pi_range1 rfl T.range (pa_cons (pv 1) pa_nil)) (pg_name (i := 5) sc_l_names.nd rfl (Or.inl rfl))
        (pss_cons (ps_setLcO (ps_setLc (i := 6) (own := [("_law_spin", 7)]) rfl sc_l_names.nd rfl rfl (sw_true rfl rfl rfl (by decide +kernel)) (pi_range1 rfl T.range (pa_cons (pe_ix ixAny (pe_lst (pa_cons pe_int (pa_cons pe_int (pa_cons pe_int (pa_cons pe_int pa_nil))))) (pe_cG c_l_take hr hG (by decide) rfl (pa_cons (pv 0) (pa_cons pe_int pa_nil))) (fun _ _ => rfl)) pa_nil)) (blkOk_by (own := [("_law_spin", 7)]) (N := ["_law_bag_here", "_law_many", "_law_letters", "_law_found", "_law_words", "_law_k", "_law_signs", "_law_spin", "_law_at", "_law_rest", "_law_some_here", "_law_one"]) (sc := defScope s_l_names) (by first | decide +kernel | kernel_rfl)) (fun _ _ _ _ _ => pg_name (i := 7) sc_l_names.nd rfl (Or.inl rfl)) (fun _ _ _ _ _ => pts_nil) (fun _ _ _ _ _ => pe_ix ixAnyB (pv 2) (pe_cG c_l_take hr hG (by decide) rfl (pa_cons (pv 0) (pa_cons pe_int pa_nil))) (fun _ _ => rfl))))
      (pss_cons (ps_asg (pe_tup (pa_cons (pe_bm PySem.F.plainAttrs_str PySem.F.slot_str_index PySem.F.type_str_index mt_sindex (pv 2) (pa_cons (pe_ix ixAny (pv 6) pe_int (fun _ _ => rfl)) pa_nil)) (pa_cons (pe_join pe_str (pe_slice slAny (pv 6) (po_some pe_int) po_none)) pa_nil))) (pg_tup rfl (pgs_cons (pg_name (i := 8) sc_l_names.nd rfl (Or.inl rfl)) (pgs_cons (pg_name (i := 9) sc_l_names.nd rfl (Or.inr rfl)) pgs_nil))))
      (pss_cons (ps_set (i := 10) sc_l_names.nd rfl (Or.inl rfl) (pe_op opAdd (pe_op opMul (pe_slice slAny (pv 4) (po_some (pv 8)) po_none) (pe_callTy call_int1 (by rfl) T.int (by decide +kernel) (pa_cons (pe_cmpR (opEq hr) (pe_cG c_l_take hr hG (by decide) rfl (pa_cons (pv 0) (pa_cons pe_int pa_nil))) pe_int (nomark _)) pa_nil))) (pe_lcO (pe_lc (own := [("_law_one", 11)]) rfl sc_l_names.nd (piAny (pe_op opAdd (pe_slice slAny (pv 2) (po_some (pv 8)) po_none) (pe_slice slAny (pv 2) po_none (po_some (pv 8))))) (blkOk_by (own := [("_law_one", 11)]) (N := ["_law_bag_here", "_law_many", "_law_letters", "_law_found", "_law_words", "_law_k", "_law_signs", "_law_spin", "_law_at", "_law_rest", "_law_some_here", "_law_one"]) (sc := defScope s_l_names) (by first | decide +kernel | kernel_rfl)) (fun _ _ _ _ _ => pg_name (i := 11) sc_l_names.nd rfl (Or.inl rfl)) (fun _ _ _ _ _ => pts_nil) (fun _ _ _ _ _ => pe_op opAddB (pv 11) (pv 9))))))
      (pss_one (ps_expr (pe_bm PySem.F.plainAttrs_list PySem.F.slot_list_append PySem.F.type_list_append mt_append (pv 3) (pa_cons (pe_ix ixAny (pe_lcO (pe_lc (own := [("_law_one", 11)]) rfl sc_l_names.nd (piAny (pv 10)) (blkOk_by (own := [("_law_one", 11)]) (N := ["_law_bag_here", "_law_many", "_law_letters", "_law_found", "_law_words", "_law_k", "_law_signs", "_law_spin", "_law_at", "_law_rest", "_law_some_here", "_law_one"]) (sc := defScope s_l_names) (by first | decide +kernel | kernel_rfl)) (fun _ _ _ _ _ => pg_name (i := 11) sc_l_names.nd rfl (Or.inl rfl)) (fun _ _ _ _ _ => pts_one (pt_cmpR opNotInB (pv 11) (pv 3) rfl)) (fun _ _ _ _ _ => pv 11))) pe_int (fun _ _ => rfl)) pa_nil)))))))))
      (pss_one (ps_ret (pv 3)))))), ?_⟩
    -- letters, found = '..', []
    refine ⟨Nat.zero_le _, fun fp hfp => ?_⟩
    generalize hq1 : upd H fp _ = H0
    obtain ⟨e0, h0⟩ := gen1 hq1 hfp
    refine ⟨by show 2 ≤ sizeLine; decide, fun tp htp => ?_⟩
    generalize hqt : upd H0 tp _ = H1
    obtain ⟨et, ht⟩ := gen1 hqt htp
    have e1 := e0.trans et
    have h1 := et _ _ h0
    refine ⟨tp, _, rfl, st_of ht, rfl, _, _, rfl, _, _, rfl, rfl, ?_⟩
    -- words
    refine ⟨⟨_, rfl⟩, _, _, rfl, rfl, (by decide), (by decide), fun wp hwp => ?_⟩
    generalize hq2 : upd H1 wp _ = H2
    obtain ⟨e2, h2⟩ := gen1 hq2 hwp
    have h2 : H2 wp = some (.lst (WL.map V.str)) := h2.trans (by rw [← wl_split]; rfl)
    refine ⟨_, rfl, m, rfl, by omega, by omega, ?_⟩
    refine frG (walk_range (lo := 0) (n := m.toNat)) (fun i σ H' => ∃ (ns : List Str) (x5 x6 x8 x9 x10 : Option V), σ = [some (.ref b), some (.int m), some (.str LET), some (.ref fp), some (.ref wp), x5, x6, none, x8, x9, x10, none] ∧ Ex H H' ∧
      H' fp = some (.lst (ns.map V.str)) ∧ H' wp = some (.lst (WL.map V.str)) ∧ ns.length = i ∧ ns.Nodup ∧ ∀ z ∈ ns, isNm z = true) ?_ (fun _ _ _ _ _ => trivial) ?_ ?_
    · exact ⟨[], none, none, none, none, none, rfl, e1.trans e2, e2 _ _ h1, h2, rfl, List.nodup_nil, fun z hz => by cases hz⟩
    · rintro i x σ H3 H4 hi ⟨ns, x5, x6, x8, x9, x10, rfl, e3, hf, hw, hl, hnd, hnm⟩ ⟨rfl, rfl⟩
      -- signs
      refine ⟨by show 4 ≤ sizeLine; decide, fun l4 hl4 => ?_⟩
      generalize hq5 : upd H4 l4 _ = H5
      obtain ⟨e5, h5⟩ := gen1 hq5 hl4
      refine ⟨_, rfl, b, 4, rfl, hb.ex (e3.trans e5), by decide, by decide, fun H6 r r0 r1 e6 => ?_⟩
      obtain ⟨n, n1, n8, hn⟩ := four_at r0 r1
      refine .inl ⟨l4, _, r, _, rfl, rfl, sq_of (e6 _ _ h5), hn, ?_⟩
      refine ⟨(n : Int), rfl, by omega, by omega, ?_⟩
      refine lcG (walk_range (lo := 0) (n := (n : Int).toNat)) (by omega) trivial (fun _ _ _ _ => trivial) yFn_ex (fun i ys _ => ∃ cl : List Nat, ys = (cl.map sgn).map V.str ∧ cl.length = i ∧ cl.all lowc = true) (fun _ _ _ _ _ h => h) ⟨[], rfl, rfl, rfl⟩ ?_ ?_
      · rintro j x H7 H8 ys hj e7 ⟨rfl, rfl⟩ ⟨cl, rfl, hcl, hlow⟩ N N0 kN kN0
        refine ⟨rfl, ?_⟩
        refine ⟨_, rfl, _, rfl, b, 26, rfl, hb.ex (((e3.trans e5).trans e6).trans e7), by decide, by decide, fun H9 r r0 r1 e9 => ?_⟩
        obtain ⟨j, rfl⟩ : ∃ j : Nat, r = (j : Int) := ⟨r.toNat, by omega⟩
        have ha := let_at ⟨j, by omega⟩
        refine .inr (.inr (.inl ⟨_, _, 97 + j, rfl, rfl, by decide, ha, ?_⟩))
        refine kN _ _ e9 ⟨cl ++ [97 + j], by simp [sgn], by simp [hcl], ?_⟩
        rw [List.all_append, hlow]
        simp [lowc]
        omega
      · rintro sp H7 ys hsp e7 h7 _ ⟨cl, rfl, hcl, hlow⟩
        -- at, rest
        have hcn : cl.length = n := by rw [hcl]; rfl
        obtain ⟨c0, cr, rfl⟩ : ∃ c0 cr, cl = c0 :: cr := by
          cases cl with
          | nil => rw [List.length_nil] at hcn; omega
          | cons c r => exact ⟨c, r, rfl⟩
        rw [List.all_cons, Bool.and_eq_true] at hlow
        obtain ⟨hc0, hcr⟩ := hlow
        obtain ⟨j0, rfl⟩ : ∃ j : Fin 26, c0 = 97 + j.val := by
          simp only [lowc, Bool.and_eq_true, decide_eq_true_eq] at hc0
          exact ⟨⟨c0 - 97, by omega⟩, by show c0 = 97 + (c0 - 97); omega⟩
        have hcrl : cr.length ≤ 7 := by rw [List.length_cons] at hcn; omega
        refine ⟨_, rfl, rfl, _, rfl, .inl ⟨sp, _, 0, .str (sgn (97 + j0.val)), rfl, rfl, sq_of h7, atI_nat (j := 0) rfl, ?_⟩⟩
        refine ⟨LET, sgn (97 + j0.val), j0.val, [], rfl, rfl, let_occ j0, ?_⟩
        refine ⟨⟨_, rfl⟩, _, rfl, 1, rfl, .inl ⟨sp, _, rfl, sq_of h7, fun l8 hl8 => ?_⟩⟩
        generalize hq8 : upd H7 l8 _ = H8
        obtain ⟨e8, h8⟩ := gen1 hq8 hl8
        have h8 : H8 l8 = some (.lst ((cr.map sgn).map V.str)) := by
          rw [h8]
          have z := cut_from (((((97 + j0.val) :: cr : List Nat)).map sgn).map V.str) 1
          rw [show (some (1 : Int)) = some ((1 : Nat) : Int) from rfl, z]
          rfl
        refine ⟨_, l8, cr.map sgn, rfl, rfl, .inl (sq_of h8), ?_, ?_⟩
        · have z := sum_sgn cr
          rw [z, List.length_map]
          show cr.length + cr.length * 0 ≤ 16777216
          omega
        generalize hR : Txt.join _ (cr.map sgn) = R
        have hR : R = SX.S cr := hR.symm.trans (join_sgn cr)
        refine ⟨by show 2 ≤ sizeLine; decide, fun t9 ht9 => ?_⟩
        generalize hq9 : upd H8 t9 _ = H9
        obtain ⟨e9, h9⟩ := gen1 hq9 ht9
        refine ⟨t9, _, rfl, st_of h9, rfl, _, _, rfl, _, _, rfl, rfl, ?_⟩
        have ee := (((e5.trans e6).trans e7).trans e8).trans e9
        -- some = words[at:] * int(take(8) == 0) + ..
        refine ⟨_, rfl, _, rfl, _, rfl, .inl ⟨wp, _, rfl, sq_of (ee _ _ hw), fun l10 hl10 => ?_⟩⟩
        generalize hq10 : upd H9 l10 _ = H10
        obtain ⟨e10, h10⟩ := gen1 hq10 hl10
        refine ⟨_, rfl, b, 8, rfl, hb.ex ((e3.trans ee).trans e10), by decide, by decide, fun H11 r r0 r1 e11 => ?_⟩
        refine .inl ⟨rfl, .inr ⟨_, rfl, ?_⟩⟩
        have hz10 : H10 l10 = some (.lst ((WL.drop j0.val).map V.str)) := by
          rw [h10, cut_from, List.map_drop]
        obtain ⟨kk, hkk⟩ : ∃ kk : Nat, (kk = 0 ∨ kk = 1) ∧ (if decide (V.int r = V.int 0) = true then (1 : Int) else 0) = (kk : Int) := by
          by_cases hz : decide (V.int r = V.int 0) = true
          · exact ⟨1, .inr rfl, by rw [if_pos hz]; rfl⟩
          · exact ⟨0, .inl rfl, by rw [if_neg hz]; rfl⟩
        refine .inr ⟨l10, (kk : Int), (WL.drop j0.val).map V.str, rfl, by rw [hkk.2], e11 _ _ hz10, by omega, by omega, ?_, fun l12 hl12 => ?_⟩
        · refine sz_of ?_
          rw [List.length_map, List.length_drop, Int.toNat_natCast]
          have z : WL.length = 20 := rfl
          rw [z]
          rcases hkk.1 with rfl | rfl <;> omega
        generalize hq12 : upd H11 l12 _ = H12
        obtain ⟨e12, h12⟩ := gen1 hq12 hl12
        obtain ⟨W0, hW0, hW1, hW2⟩ : ∃ W0 : List Str, H12 l12 = some (.lst (W0.map V.str)) ∧ W0.length ≤ 20 ∧ W0.all isNm = true := by
          rw [h12, Int.toNat_natCast]
          rcases hkk.1 with rfl | rfl
          · exact ⟨[], rfl, by decide, rfl⟩
          · refine ⟨WL.drop j0.val, by simp, ?_, ?_⟩
            · rw [List.length_drop]
              have z : WL.length = 20 := rfl
              omega
            · rw [List.all_eq_true]
              exact fun x hx => (List.all_eq_true.mp wl_nm) x (List.drop_subset _ _ hx)
        refine .inr (.inr ⟨_, rfl, _, rfl, _, rfl, .inr (.inr ⟨LET, rfl, by decide, ?_⟩)⟩)
        refine ⟨_, rfl, _, rfl, _, rfl, .inr (.inr ⟨LET, rfl, by decide, ?_⟩)⟩
        refine .inr (.inl ⟨_, _, rfl, rfl, sz_of (Nat.le_trans (let_cut j0) (by decide)), _, rfl, ?_⟩)
        obtain ⟨rnd, rlow, rlen⟩ := let_rot j0
        generalize hrot : (cutS LET (some (j0.val : Int)) none ++ cutS LET none (some (j0.val : Int))) = ROT at rnd rlow rlen
        have eW := (ee.trans e10).trans (e11.trans e12)
        have hrotl : ROT.cps.size = 26 := by rw [← rlen, Array.length_toList]
        refine lcG (walk_str (z := ROT)) (by rw [hrotl]; decide) trivial (fun _ _ _ _ => trivial) (fun _ _ _ _ h => ex_eq h.1) (fun i ys _ => ys = (((TL.tl ROT).take i).map fun c => sgn c ++ R).map V.str) (fun _ _ _ _ _ h => h) rfl ?_ ?_
        · rintro j x H13 H14 ys hj e13 ⟨rfl, c, hc, rfl⟩ rfl N N0 kN kN0
          refine ⟨rfl, ?_⟩
          refine ⟨_, rfl, _, rfl, .inr (.inl ⟨sgn c, R, rfl, rfl, ?_, ?_⟩)⟩
          · rw [hR]
            show 1 + cr.toArray.size ≤ sizeLine
            refine sz_of ?_
            rw [List.size_toArray]
            omega
          · refine kN _ _ (Ex.refl _) ?_
            have hc' : (TL.tl ROT)[j]? = some c := by rw [Array.getElem?_toList]; exact hc
            rw [List.take_add_one, hc', List.map_append, List.map_append]
            rfl
        · rintro l15 H15 ys hl15 e15 h15 _ rfl
          rw [hrotl, List.take_of_length_le (by rw [rlen]; decide)] at h15
          have c2l : ((TL.tl ROT).map fun c => sgn c ++ R).length = 26 := by rw [List.length_map]; exact rlen
          refine .inr (.inr (.inl ⟨l12, l15, W0.map V.str, ((TL.tl ROT).map fun c => sgn c ++ R).map V.str, rfl, rfl, e15 _ _ hW0, h15, ?_, fun l16 hl16 => ?_⟩))
          · rw [List.length_map, List.length_map]
            refine sz_of ?_
            omega
          generalize hq16 : upd H15 l16 _ = H16
          obtain ⟨e16, h16⟩ := gen1 hq16 hl16
          rw [← List.map_append] at h16
          have eA := (eW.trans e15).trans e16
          have hf16 := eA _ _ hf
          have hcl2 : (W0 ++ (TL.tl ROT).map fun c => sgn c ++ R).length ≤ 46 := by
            rw [List.length_append, c2l]
            omega
          have hcn2 : ∀ z ∈ (W0 ++ (TL.tl ROT).map fun c => sgn c ++ R), isNm z = true := by
            intro z hz
            rcases List.mem_append.mp hz with hz | hz
            · exact (List.all_eq_true.mp hW2) z hz
            · obtain ⟨c, hc, rfl⟩ := List.mem_map.mp hz
              have lc := (List.all_eq_true.mp rlow) c hc
              have e1 : TL.tl (sgn c ++ R) = c :: cr := by
                rw [TL.tl_append, hR]
                rfl
              unfold isNm
              rw [TL.len_tl, e1, List.all_cons, lc, hcr, List.length_cons]
              simp
              omega
          have hmore : ∃ z ∈ (W0 ++ (TL.tl ROT).map fun c => sgn c ++ R), z ∉ ns := by
            obtain ⟨z, hz, hz2⟩ := more_left ((TL.tl ROT).map fun c => sgn c ++ R) ns (by
              rw [List.Nodup, List.pairwise_map]
              refine List.Pairwise.imp (fun {a b} hab e => hab ?_) rnd
              have q := congrArg TL.tl e
              rw [TL.tl_append, TL.tl_append] at q
              exact (List.cons.inj q).1) (by rw [c2l]; omega)
            exact ⟨z, List.mem_append_right _ hz, hz2⟩
          generalize (W0 ++ (TL.tl ROT).map fun c => sgn c ++ R) = C at h16 hcl2 hcn2 hmore
          refine ⟨_, rfl, .inl ⟨rfl, _, sq_of hf16⟩, .inl ⟨_, rfl, l16, rfl, ⟨_, sq_of h16⟩, ?_⟩⟩
          refine lcG (walk_list (xs := C.map V.str)) (by rw [List.length_map]; omega) (sq_of h16) (fun _ _ e h => ex_l e h) yAt_ex (fun i ys _ => ys = ((C.take i).filter fun z => !decide (z ∈ ns)).map V.str) (fun _ _ _ _ _ h => h) rfl ?_ ?_
          · rintro j x H17 H18 ys hj e17 ⟨rfl, hx⟩ rfl N N0 kN kN0
            obtain ⟨z, hz, rfl⟩ := str_at hx
            refine ⟨rfl, ?_⟩
            refine ⟨_, rfl, _, rfl, .inl ⟨fp, _, rfl, .inl (sq_of (e17 _ _ hf16)), rfl, flat_strs ns, _, rfl, ?_⟩⟩
            have hin : (if true = true then !inV (V.str z) (ns.map V.str) else inV (V.str z) (ns.map V.str)) = !decide (z ∈ ns) := by
              rw [if_pos rfl, in_strs]
            rw [hin]
            by_cases hm : (!decide (z ∈ ns)) = true
            · rw [hm]
              refine iteT ⟨_, rfl, kN _ _ (Ex.refl _) ?_⟩
              rw [List.take_add_one, hz, List.filter_append, Option.toList, List.filter_cons, if_pos hm, List.map_append]
              rfl
            · rw [show (!decide (z ∈ ns)) = false by simpa using hm]
              refine iteF (kN0 _ (Ex.refl _) ?_)
              rw [List.take_add_one, hz, List.filter_append, Option.toList, List.filter_cons, if_neg hm, List.map_append]
              simp
          · rintro l17 H17 ys hl17 e17 h17 _ rfl
            rw [List.take_of_length_le (by rw [List.length_map]; exact Nat.le_refl _)] at h17
            obtain ⟨z0, zr, hz0⟩ : ∃ z0 zr, (C.filter fun z => !decide (z ∈ ns)) = z0 :: zr := by
              cases hc : (C.filter fun z => !decide (z ∈ ns)) with
              | nil =>
                obtain ⟨z, hz, hz2⟩ := hmore
                have q : z ∈ C.filter fun z => !decide (z ∈ ns) := List.mem_filter.mpr ⟨hz, by simpa using hz2⟩
                rw [hc] at q
                cases q
              | cons z0 zr => exact ⟨z0, zr, rfl⟩
            rw [hz0] at h17
            have hm0 : z0 ∈ C.filter fun z => !decide (z ∈ ns) := by rw [hz0]; exact List.mem_cons_self
            obtain ⟨hz1, hz2⟩ := List.mem_filter.mp hm0
            have hz2 : z0 ∉ ns := by simpa using hz2
            refine .inl ⟨l17, _, 0, .str z0, rfl, rfl, sq_of h17, atI_nat (j := 0) rfl, ?_⟩
            have hf17 := e17 _ _ hf16
            refine ⟨fp, _, .str z0, rfl, rfl, hf17, ?_, ?_⟩
            · rw [List.length_map]
              refine sz_lt ?_
              omega
            · have fe := (e3.trans eA).trans e17
              have nfw : wp ≠ fp := fun z => by
                have q := fe wp
                rw [z] at hwp
                rw [h1] at hwp
                cases hwp
              refine ⟨ns ++ [z0], _, _, _, _, _, rfl, Ex.mut fe hfp, ?_, ?_, ?_, ?_, ?_⟩
              · rw [upd_same, List.map_append]
                rfl
              · rw [upd_ne nfw]
                exact e17 _ _ (eA _ _ hw)
              · rw [List.length_append, hl]
                rfl
              · rw [List.nodup_append]
                refine ⟨hnd, by simp, fun a ha b hb e => hz2 ?_⟩
                rw [List.mem_singleton] at hb
                rw [← hb, ← e]
                exact ha
              · intro z hz
                rcases List.mem_append.mp hz with hz | hz
                · exact hnm z hz
                · rw [List.mem_singleton] at hz
                  rw [hz]
                  exact hcn2 z0 hz1
    · rintro σ H3 ⟨ns, x5, x6, x8, x9, x10, rfl, e3, hf, hw, hl, hnd, hnm⟩
      exact ⟨_, rfl, q _ fp ns e3 hfp hf (by omega) hnd hnm⟩
end
/-! ### atoms and facts as data -/
abbrev A3 := Str × Str × Str
def sl3 (a : A3) : List Str := [a.1, a.2.1, a.2.2]
def AtomAt (H : Hp) (v : V) (a : A3) : Prop := ∃ p, v = .ref p ∧ H p = some (.tup ((sl3 a).map V.str))
theorem AtomAt.tex {H H' : Hp} {v : V} {a : A3} (e : TEx H H') (h : AtomAt H v a) : AtomAt H' v a := by
  obtain ⟨p, h1, h2⟩ := h
  exact ⟨p, h1, e _ _ h2⟩
theorem AtomAt.ex {H H' : Hp} {v : V} {a : A3} (e : Ex H H') (h : AtomAt H v a) : AtomAt H' v a := h.tex (TEx.of e)
def AllAt (H : Hp) : List V → List A3 → Prop
  | [], [] => True
  | v :: vs, a :: as => AtomAt H v a ∧ AllAt H vs as
  | _, _ => False
theorem AllAt.tex {H H' : Hp} (e : TEx H H') : ∀ {vs : List V} {as : List A3}, AllAt H vs as → AllAt H' vs as
  | [], [], _ => trivial
  | _ :: _, _ :: _, h => ⟨h.1.tex e, AllAt.tex e h.2⟩
  | [], _ :: _, h => h.elim
  | _ :: _, [], h => h.elim
theorem AllAt.len {H : Hp} : ∀ {vs : List V} {as : List A3}, AllAt H vs as → vs.length = as.length
  | [], [], _ => rfl
  | _ :: vs, _ :: as, h => by rw [List.length_cons, List.length_cons, AllAt.len h.2]
  | [], _ :: _, h => h.elim
  | _ :: _, [], h => h.elim
theorem AllAt.at {H : Hp} : ∀ {vs : List V} {as : List A3} {i : Nat} {v : V}, AllAt H vs as → vs[i]? = some v → ∃ a, as[i]? = some a ∧ AtomAt H v a
  | _ :: _, a :: _, 0, _, h, e => ⟨a, rfl, by cases e; exact h.1⟩
  | _ :: vs, _ :: as, i + 1, v, h, e => AllAt.at (vs := vs) (as := as) (i := i) h.2 e
  | [], [], _, _, _, e => by simp at e
  | [], _ :: _, _, _, h, _ => h.elim
  | _ :: _, [], _, _, h, _ => h.elim
theorem AllAt.snoc {H : Hp} {v : V} {a : A3} (hv : AtomAt H v a) : ∀ {vs : List V} {as : List A3}, AllAt H vs as → AllAt H (vs ++ [v]) (as ++ [a])
  | [], [], _ => ⟨hv, trivial⟩
  | _ :: vs, _ :: as, h => ⟨h.1, AllAt.snoc hv h.2⟩
  | [], _ :: _, h => h.elim
  | _ :: _, [], h => h.elim
def FactAt (H : Hp) (v : V) (as : List A3) : Prop := ∃ p xs, v = .ref p ∧ H p = some (.tup xs) ∧ AllAt H xs as
theorem FactAt.ex {H H' : Hp} {v : V} {as : List A3} (e : Ex H H') (h : FactAt H v as) : FactAt H' v as := by
  obtain ⟨p, xs, h1, h2, h3⟩ := h
  exact ⟨p, xs, h1, e _ _ h2, h3.tex (TEx.of e)⟩
def atD (a : A3) : PyData := .tuple ((sl3 a).map PyData.str)
theorem dp_strs {K : PySem.W.Frag} {H : Hp} : ∀ ns : List Str, DpAll K H (ns.map V.str) (ns.map PyData.str)
  | [] => .nil
  | n :: ns => .cons (.str n) (dp_strs ns)
theorem AtomAt.dp {K : PySem.W.Frag} {H : Hp} {v : V} {a : A3} (h : AtomAt H v a) : Dp K H v (atD a) := by
  obtain ⟨p, rfl, h2⟩ := h
  exact .tup (st_of h2) (dp_strs _)
theorem AllAt.dp {K : PySem.W.Frag} {H : Hp} : ∀ {vs : List V} {as : List A3}, AllAt H vs as → DpAll K H vs (as.map atD)
  | [], [], _ => .nil
  | _ :: vs, _ :: as, h => .cons h.1.dp (AllAt.dp h.2)
  | [], _ :: _, h => h.elim
  | _ :: _, [], h => h.elim
def faD (as : List A3) : PyData := .tuple (as.map atD)
theorem FactAt.dp {K : PySem.W.Frag} {H : Hp} {v : V} {as : List A3} (h : FactAt H v as) : Dp K H v (faD as) := by
  obtain ⟨p, xs, rfl, h2, h3⟩ := h
  exact .tup (st_of h2) h3.dp
/-! ### the mathematics -/
def isR (r : Str) : Bool := r == "eq" || r == "lt" || r == "gt" || r == ""
def trR (r : Str) : Str := if r = "lt" then "gt" else if r = "gt" then "lt" else r
def trA (a : A3) : A3 := (trR a.1, a.2.2, a.2.1)
def okp (p a : Str) : Bool := (("" : Str) == p) || (a == p)
def fitL (p a : A3) : List Bool := List.zipWith okp (sl3 p) (sl3 a)
def fitB (p a : A3) : Bool := (fitL p a).all id
theorem isR_cases {r : Str} (h : isR r = true) : r = "eq" ∨ r = "lt" ∨ r = "gt" ∨ r = "" := by
  simp only [isR, Bool.or_eq_true, beq_iff_eq] at h
  rcases h with ((h | h) | h) | h
  · exact .inl h
  · exact .inr (.inl h)
  · exact .inr (.inr (.inl h))
  · exact .inr (.inr (.inr h))
theorem trR_trR {r : Str} (h : isR r = true) : trR (trR r) = r := by
  rcases isR_cases h with rfl | rfl | rfl | rfl <;> decide +kernel
theorem trR_isR {r : Str} (h : isR r = true) : isR (trR r) = true := by
  rcases isR_cases h with rfl | rfl | rfl | rfl <;> decide +kernel
theorem trA_trA {a : A3} (h : isR a.1 = true) : trA (trA a) = a := by
  obtain ⟨r, l, t⟩ := a
  show (trR (trR r), l, t) = (r, l, t)
  rw [trR_trR h]
theorem okp_trR {p a : Str} (hp : isR p = true) (ha : isR a = true) : okp (trR p) a = okp p (trR a) := by
  rcases isR_cases hp with rfl | rfl | rfl | rfl <;> rcases isR_cases ha with rfl | rfl | rfl | rfl <;> decide +kernel
theorem fitB_eq (p a : A3) : fitB p a = (okp p.1 a.1 && (okp p.2.1 a.2.1 && okp p.2.2 a.2.2)) := by
  show (okp p.1 a.1 && (okp p.2.1 a.2.1 && (okp p.2.2 a.2.2 && true))) = _
  rw [Bool.and_true]
theorem fitB_tr {p a : A3} (hp : isR p.1 = true) (ha : isR a.1 = true) : fitB (trA p) a = fitB p (trA a) := by
  rw [fitB_eq, fitB_eq]
  show (okp (trR p.1) a.1 && (okp p.2.2 a.2.1 && okp p.2.1 a.2.2)) = (okp p.1 (trR a.1) && (okp p.2.1 a.2.2 && okp p.2.2 a.2.1))
  rw [okp_trR hp ha, Bool.and_comm (okp p.2.2 a.2.1)]
theorem okp_self (a : Str) : okp a a = true := by simp [okp]
theorem fitB_self (a : A3) : fitB a a = true := by
  rw [fitB_eq, okp_self, okp_self, okp_self]
  rfl
def lay (z : Str) : Bool := (PyData.str z).canLay0
def sOk (a : A3) : Bool := lay a.1 && (lay a.2.1 && lay a.2.2)
theorem shp_at {a : A3} (h : sOk a = true) : SeqAt.shaped (atD a) = true := by
  show ((lay a.1 && (lay a.2.1 && (lay a.2.2 && true))) && true) = true
  rw [Bool.and_true, Bool.and_true]
  exact h
theorem nm_ok {z : Str} (h : isNm z = true) : lay z = true := by
  unfold isNm at h
  rw [Bool.and_eq_true] at h
  show z.cps.all (· < 0x110000) = true
  rw [← Array.all_toList, List.all_eq_true]
  intro c hc
  have q := (List.all_eq_true.mp h.2) c hc
  simp only [lowc, Bool.and_eq_true, decide_eq_true_eq] at q
  exact decide_eq_true (by omega)
theorem rel_ok {r : Str} (h : isR r = true) : lay r = true := by
  rcases isR_cases h with rfl | rfl | rfl | rfl <;> decide +kernel
theorem eqv_at (a b : A3) : PyData.eqv (atD a) (atD b) = decide (a = b) := by
  obtain ⟨a1, a2, a3⟩ := a
  obtain ⟨b1, b2, b3⟩ := b
  show (a1 == b1 && (a2 == b2 && (a3 == b3 && true))) = decide ((a1, a2, a3) = (b1, b2, b3))
  rw [Bool.and_true]
  by_cases h1 : a1 = b1 <;> by_cases h2 : a2 = b2 <;> by_cases h3 : a3 = b3 <;> simp [h1, h2, h3]
theorem eqv_ats : ∀ as bs : List A3, PyData.eqvAll (as.map atD) (bs.map atD) = decide (as = bs)
  | [], [] => rfl
  | [], _ :: _ => rfl
  | _ :: _, [] => rfl
  | a :: as, b :: bs => by
    show (PyData.eqv (atD a) (atD b) && PyData.eqvAll (as.map atD) (bs.map atD)) = decide (a :: as = b :: bs)
    rw [eqv_at, eqv_ats as bs]
    by_cases h1 : a = b <;> by_cases h2 : as = bs <;> simp [h1, h2]
theorem shp_fa {as : List A3} (h : as.length ≤ 2) (hs : ∀ a ∈ as, sOk a = true) : SeqAt.shaped (faD as) = true := by
  have hk : ∀ a ∈ as, (atD a).canLay0 = true := fun a ha => (Bool.and_eq_true_iff.mp (shp_at (hs a ha))).1
  match as, h, hk with
  | [], _, _ => rfl
  | [a], _, hk =>
    show (((atD a).canLay0 && true) && true) = true
    rw [hk a (by simp)]
    rfl
  | [a, b], _, hk =>
    show (((atD a).canLay0 && ((atD b).canLay0 && true)) && true) = true
    rw [hk a (by simp), hk b (by simp)]
    rfl
  | _ :: _ :: _ :: _, h, _ => simp at h
theorem eqv_fa (as bs : List A3) : PyData.eqv (faD as) (faD bs) = decide (as = bs) := eqv_ats as bs
def isR3 (r : Str) : Bool := r == "eq" || r == "lt" || r == "gt"
theorem isR_of {r : Str} (h : isR3 r = true) : isR r = true := by
  unfold isR
  unfold isR3 at h
  rw [h]
  rfl
theorem rel_at {r : Int} (h0 : 0 ≤ r) (h1 : r < 4) : ∃ z : Str, isR3 z = true ∧ atI [V.str "eq", V.str "lt", V.str "gt", V.str "lt"] r = some (.str z) := by
  have q : r = 0 ∨ r = 1 ∨ r = 2 ∨ r = 3 := by omega
  rcases q with rfl | rfl | rfl | rfl
  · exact ⟨"eq", by decide +kernel, rfl⟩
  · exact ⟨"lt", by decide +kernel, rfl⟩
  · exact ⟨"gt", by decide +kernel, rfl⟩
  · exact ⟨"lt", by decide +kernel, rfl⟩
theorem okp_full {p a : Str} (h : p ≠ "") : okp p a = decide (p = a) := by
  unfold okp
  have h1 : (("" : Str) == p) = false := beq_eq_false_iff_ne.mpr fun e => h e.symm
  rw [h1, Bool.false_or]
  by_cases e : p = a
  · subst e
    simp
  · have e2 : ¬ a = p := fun z => e z.symm
    have e3 : (a == p) = false := beq_eq_false_iff_ne.mpr e2
    rw [e3]
    simp [e]
theorem fitB_full {p a : A3} (h1 : p.1 ≠ "") (h2 : p.2.1 ≠ "") (h3 : p.2.2 ≠ "") : fitB p a = decide (p = a) := by
  obtain ⟨p1, p2, p3⟩ := p
  obtain ⟨a1, a2, a3⟩ := a
  rw [fitB_eq]
  show (okp p1 a1 && (okp p2 a2 && okp p3 a3)) = _
  rw [okp_full h1, okp_full h2, okp_full h3]
  by_cases e1 : p1 = a1 <;> by_cases e2 : p2 = a2 <;> by_cases e3 : p3 = a3 <;> simp [e1, e2, e3]
theorem fitB_none (a : A3) : fitB ("", "", "") a = true := by
  rw [fitB_eq]
  show ((("" : Str) == "" || _) && (((("" : Str) == "") || _) && ((("" : Str) == "") || _))) = true
  rw [show (("" : Str) == "") = true from by decide +kernel]
  rfl
theorem isR3_ne {r : Str} (h : isR3 r = true) : r ≠ "" := by
  intro e
  subst e
  revert h
  decide +kernel
theorem nm_ne {z : Str} (h : isNm z = true) : z ≠ "" := by
  intro e
  subst e
  revert h
  decide +kernel
abbrev s_l_atom : Stmt := top 23
theorem sc_l_atom : FnScope ["_law_bag_here", "_law_things"] ["_law_bag_here", "_law_things"] (defScope s_l_atom) := ⟨rfl, rfl, rfl, by decide +kernel, rfl, by decide +kernel, by decide +kernel⟩
section
variable {P : Program} {w : World} {K : PySem.W.Frag} {mg : Str → Option Value} {base : Heap}
def spAtom : Sp := fun vs H Q _ => ∃ (b p : Addr) (ns : List Str), vs = [.ref b, .ref p] ∧ BagAt H b ∧ H p = some (.lst (ns.map V.str)) ∧ ns ≠ [] ∧ ns.length ≤ 30 ∧
  ∀ (H' : Hp) (v : V) (a : A3), Ex H H' → AtomAt H' v a → isR3 a.1 = true → a.2.1 ∈ ns → a.2.2 ∈ ns → Q v H'
theorem ok_atom (T : Txt0 mg) (D : Df K mg "_law_atom" s_l_atom) (c_l_take : CalG P w K mg base 1 "_law_take" spTake) (c_l_some : CalG P w K mg base 2 "_law_some" (spSome K)) : CalG P w K mg base 3 "_law_atom" spAtom := by
  refine cal_mk D sc_l_atom (fun _ _ _ _ _ _ us hl => match us, hl with | [_, _], _ => rfl) (fun vs H Q E h => ?_) (fun f cdv A outer s H vs Q E hr hG h => ?_)
  · obtain ⟨b, p, ns, rfl, _⟩ := h
    rfl
  · obtain ⟨b, p, ns, rfl, hb, hp, hne, hl, q⟩ := h
    refine ⟨_, (pss_one (ps_ret (pe_tup (pa_cons (pe_ix ixAny (pe_lst (pa_cons pe_str (pa_cons pe_str (pa_cons pe_str (pa_cons pe_str pa_nil))))) (pe_cG c_l_take hr hG (by decide) rfl (pa_cons (pv 0) (pa_cons pe_int pa_nil))) (fun _ _ => rfl)) (pa_cons (pe_cG c_l_some hr hG (by decide) rfl (pa_cons (pv 0) (pa_cons (pv 1) pa_nil))) (pa_cons (pe_cG c_l_some hr hG (by decide) rfl (pa_cons (pv 0) (pa_cons (pv 1) pa_nil))) pa_nil)))))), ?_⟩
    refine ⟨by show 4 ≤ sizeLine; decide, fun l hl1 => ?_⟩
    generalize hq1 : upd H l _ = H1
    obtain ⟨e1, h1⟩ := gen1 hq1 hl1
    refine ⟨_, rfl, b, 4, rfl, hb.ex e1, by decide, by decide, fun H2 r r0 r1 e2 => ?_⟩
    obtain ⟨z, hz, hat⟩ := rel_at r0 r1
    refine .inl ⟨l, _, r, _, rfl, rfl, sq_of (e2 _ _ h1), hat, ?_⟩
    have e12 := e1.trans e2
    have hne' : ns.map V.str ≠ [] := fun e => hne (List.map_eq_nil_iff.mp e)
    refine ⟨_, rfl, _, rfl, b, p, _, rfl, hb.ex e12, .inl (sq_of (e12 _ _ hp)), hne', by rw [List.length_map]; omega, fun H3 i x e3 hx => ?_⟩
    obtain ⟨x1, hx1, rfl⟩ := str_at hx
    refine ⟨_, rfl, _, rfl, b, p, _, rfl, hb.ex (e12.trans e3), .inl (sq_of (e3 _ _ (e12 _ _ hp))), hne', by rw [List.length_map]; omega, fun H4 j y e4 hy => ?_⟩
    obtain ⟨y1, hy1, rfl⟩ := str_at hy
    refine ⟨by show 3 ≤ sizeLine; decide, fun t ht => ?_⟩
    exact q _ _ (z, x1, y1) (((e12.trans e3).trans e4).trans (Ex.new ht)) ⟨t, rfl, upd_same⟩ hz (List.mem_of_getElem? hx1) (List.mem_of_getElem? hy1)
end
abbrev s_l_fact : Stmt := top 24
theorem sc_l_fact : FnScope ["_law_bag_here", "_law_things", "_law_k"] ["_law_bag_here", "_law_things"] (defScope s_l_fact) := ⟨rfl, rfl, rfl, by decide +kernel, rfl, by decide +kernel, by decide +kernel⟩
section
variable {P : Program} {w : World} {K : PySem.W.Frag} {mg : Str → Option Value} {base : Heap}
def spFact : Sp := fun vs H Q _ => ∃ (b p : Addr) (ns : List Str), vs = [.ref b, .ref p] ∧ BagAt H b ∧ H p = some (.lst (ns.map V.str)) ∧ ns ≠ [] ∧ ns.length ≤ 30 ∧
  ∀ (H' : Hp) (v : V) (as : List A3), Ex H H' → FactAt H' v as → 1 ≤ as.length → as.length ≤ 2 → (∀ a ∈ as, isR3 a.1 = true ∧ a.2.1 ∈ ns ∧ a.2.2 ∈ ns) → Q v H'
theorem ok_fact (T : Txt0 mg) (D : Df K mg "_law_fact" s_l_fact) (c_l_take : CalG P w K mg base 1 "_law_take" spTake) (c_l_atom : CalG P w K mg base 3 "_law_atom" spAtom) : CalG P w K mg base 4 "_law_fact" spFact := by
  refine cal_mk D sc_l_fact (fun _ _ _ _ _ _ us hl => match us, hl with | [_, _], _ => rfl) (fun vs H Q E h => ?_) (fun f cdv A outer s H vs Q E hr hG h => ?_)
  · obtain ⟨b, p, ns, rfl, _⟩ := h
    rfl
  · obtain ⟨b, p, ns, rfl, hb, hp, hne, hl, q⟩ := h
    refine ⟨_, (pss_one (ps_ret (pe_callTy call_tuple_of (by rfl) T.tuple (by decide +kernel) (pa_cons (pe_lcO (pe_lc (own := [("_law_k", 2)]) rfl sc_l_fact.nd (pi_range1 rfl T.range (pa_cons (pe_op opAdd pe_int (pe_op op_fdivW (pe_cG c_l_take hr hG (by decide) rfl (pa_cons (pv 0) (pa_cons pe_int pa_nil))) pe_int)) pa_nil)) (blkOk_by (own := [("_law_k", 2)]) (N := ["_law_bag_here", "_law_things", "_law_k"]) (sc := defScope s_l_fact) (by first | decide +kernel | kernel_rfl)) (fun _ _ _ _ _ => pg_name (i := 2) sc_l_fact.nd rfl (Or.inl rfl)) (fun _ _ _ _ _ => pts_nil) (fun _ _ _ _ _ => pe_cG c_l_atom hr hG (by decide) rfl (pa_cons (pv 0) (pa_cons (pv 1) pa_nil))))) pa_nil)))), ?_⟩
    refine ⟨_, rfl, b, 3, rfl, hb, by decide, by decide, fun H1 r r0 r1 e1 => ?_⟩
    refine ⟨_, _, rfl, rfl, wide_div (b := 30) (by decide) (by decide) (by decide) (by decide), .inl ⟨1, _, rfl, rfl, ?_⟩⟩
    obtain ⟨n, hn, hn1, hn2⟩ : ∃ n : Nat, 1 + r / 2 = (n : Int) ∧ 1 ≤ n ∧ n ≤ 2 := ⟨(1 + r / 2).toNat, by omega, by omega, by omega⟩
    refine ⟨(n : Int), by show [V.int (1 + r / 2)] = _; rw [hn], by omega, by omega, ?_⟩
    refine lcG (walk_range (lo := 0) (n := (n : Int).toNat)) (by omega) trivial (fun _ _ _ _ => trivial) yFn_ex (fun i ys H' => ∃ as : List A3, AllAt H' ys as ∧ as.length = i ∧ ∀ a ∈ as, isR3 a.1 = true ∧ a.2.1 ∈ ns ∧ a.2.2 ∈ ns)
      (fun _ _ _ _ e ⟨as, h1, h2⟩ => ⟨as, h1.tex e, h2⟩) ⟨[], trivial, rfl, fun a ha => by cases ha⟩ ?_ ?_
    · rintro i x H2 H3 ys hi e2 ⟨rfl, rfl⟩ ⟨as, hA, hal, hR⟩ N N0 kN kN0
      refine ⟨rfl, ?_⟩
      have e12 := e1.trans e2
      refine ⟨_, rfl, _, rfl, b, p, ns, rfl, hb.ex e12, e12 _ _ hp, hne, hl, fun H4 v a e4 ha h1 h2 h3 => ?_⟩
      refine kN _ _ e4 ⟨as ++ [a], AllAt.snoc ha (hA.tex (TEx.of e4)), by rw [List.length_append, hal]; rfl, fun x hx => ?_⟩
      rcases List.mem_append.mp hx with hx | hx
      · exact hR x hx
      · rw [List.mem_singleton] at hx
        rw [hx]
        exact ⟨h1, h2, h3⟩
    · rintro l H2 ys hl2 e2 h2 _ ⟨as, hA, hal, hR⟩
      refine ⟨l, _, rfl, .inl ⟨sq_of h2, fun x hx => ?_⟩⟩
      have hal : as.length = n := by rw [hal]; rfl
      exact q _ _ as ((e1.trans e2).trans (Ex.new hx)) ⟨x, ys, rfl, upd_same, hA.tex (TEx.of (Ex.new hx))⟩ (by omega) (by omega) hR
end
abbrev s_l_alike : Stmt := top 19
theorem sc_l_alike : FnScope ["_law_found", "_law_due"] ["_law_found", "_law_due"] (defScope s_l_alike) := ⟨rfl, rfl, rfl, by decide +kernel, rfl, by decide +kernel, by decide +kernel⟩
section
variable {P : Program} {w : World} {K : PySem.W.Frag} {mg : Str → Option Value} {base : Heap}
theorem ok_alike (T : Txt0 mg) (D : Df K mg "_law_alike" s_l_alike) : CalG P w K mg base 1 "_law_alike" (spAlike K) := by
  refine cal_mk D sc_l_alike (fun _ _ _ _ _ _ us hl => match us, hl with | [_, _], _ => rfl) (fun vs H Q E h => ?_) (fun f cdv A outer s H vs Q E hr hG h => ?_)
  · obtain ⟨a, b, d, rfl, _⟩ := h
    rfl
  · obtain ⟨a, b, d, rfl, ha, hb, hf, q⟩ := h
    refine ⟨_, (pss_one (ps_ret (pe_and (pe_cmpR (opEq hr) (pv 0) (pv 1) (nomark _)) (pe_one (pe_cmpR (opEq hr) (pe_callB (callReprA hG hr) (by rfl) T.repr (by decide +kernel) (pa_cons (pv 0) pa_nil)) (pe_callB (callReprA hG hr) (by rfl) T.repr (by decide +kernel) (pa_cons (pv 1) pa_nil)) (nomark _)))))), ?_⟩
    refine ⟨_, rfl, _, rfl, .inr ⟨d, d, ha, hb, hf.shp, hf.shp, _, rfl, ?_⟩⟩
    rw [PySem.SeqAt.eqv_refl d hf.1]
    refine ⟨_, rfl, a, d, rfl, ha, hf, ?_⟩
    refine ⟨_, rfl, b, d, rfl, hb, hf, ?_⟩
    refine .inl ⟨rfl, ?_⟩
    rw [decide_eq_true rfl]
    exact q
end
theorem fin_at {a : A3} (h : sOk a = true) (h1 : a.1.length ≤ 8) (h2 : a.2.1.length ≤ 8) (h3 : a.2.2.length ≤ 8) : fin 1 300 (atD a) := by
  unfold sOk lay at h
  rw [Bool.and_eq_true, Bool.and_eq_true] at h
  refine (fin_tup (n := 0) (W := 82) (m := 3) (fun d hd => ?_) (Nat.le_refl _)).mono (by decide) (by decide)
  have hd : d ∈ [PyData.str a.1, PyData.str a.2.1, PyData.str a.2.2] := hd
  simp only [List.mem_cons, List.not_mem_nil, or_false] at hd
  rcases hd with rfl | rfl | rfl
  · exact fin_str (L := 8) h.1 h1
  · exact fin_str (L := 8) h.2.1 h2
  · exact fin_str (L := 8) h.2.2 h3
def gA (a : A3) : Prop := sOk a = true ∧ a.1.length ≤ 8 ∧ a.2.1.length ≤ 8 ∧ a.2.2.length ≤ 8
theorem gA.fin {a : A3} (h : gA a) : fin 1 300 (atD a) := fin_at h.1 h.2.1 h.2.2.1 h.2.2.2
theorem fin_fa {as : List A3} (h : ∀ a ∈ as, gA a) (h2 : as.length ≤ 2) : Own.fin 2 700 (faD as) := by
  refine (fin_tup (n := 1) (W := 300) (m := 2) (fun d hd => ?_) (by rw [List.length_map]; exact h2)).mono (by decide) (by decide)
  obtain ⟨a, ha, rfl⟩ := List.mem_map.mp hd
  exact (h a ha).fin
theorem rel_len {r : Str} (h : isR r = true) : r.length ≤ 8 := by
  rcases isR_cases h with rfl | rfl | rfl | rfl <;> decide
theorem nm_len {z : Str} (h : isNm z = true) : z.length ≤ 8 := by
  unfold isNm at h
  simp only [Bool.and_eq_true, decide_eq_true_eq] at h
  exact h.1.2
theorem gA_of {ns : List Str} (hnm : ∀ z ∈ ns, isNm z = true) {a : A3} (h0 : isR a.1 = true) (h1 : a.2.1 = "" ∨ a.2.1 ∈ ns) (h2 : a.2.2 = "" ∨ a.2.2 ∈ ns) : gA a := by
  have ok : ∀ z : Str, (z = "" ∨ z ∈ ns) → lay z = true ∧ z.length ≤ 8 := fun z hz => by
    rcases hz with rfl | hz
    · exact ⟨by decide +kernel, by decide⟩
    · exact ⟨nm_ok (hnm z hz), nm_len (hnm z hz)⟩
  refine ⟨?_, rel_len h0, (ok _ h1).2, (ok _ h2).2⟩
  show (lay a.1 && (lay a.2.1 && lay a.2.2)) = true
  rw [rel_ok h0, (ok _ h1).1, (ok _ h2).1]
  rfl
theorem gA.tr {a : A3} (h : gA a) (hr : isR a.1 = true) : gA (trA a) := by
  obtain ⟨h1, h2, h3, h4⟩ := h
  have hr2 := trR_isR hr
  unfold sOk at h1
  rw [Bool.and_eq_true, Bool.and_eq_true] at h1
  refine ⟨?_, rel_len hr2, h4, h3⟩
  show (lay (trR a.1) && (lay a.2.2 && lay a.2.1)) = true
  rw [rel_ok hr2, h1.2.1, h1.2.2]
  rfl
end Own

namespace Own
open PySem PySem.Spec PyProof.Rows L2 Evl
/-! ### what data is -/
structure TxtI (K : PySem.W.Frag) (mg : Str → Option Value) (rel : Addr) : Prop where
  isinstance : mg "isinstance" = none
  str : mg "str" = none
  bool : mg "bool" = none
  tuple : mg "tuple" = none
  g_LONGEST_NAME : ∃ t, mg "LONGEST_NAME" = some (.int 8 t)
  g_RELATIONS : mg "RELATIONS" = some (.ref rel)
  rels : ∀ H, SqT K H rel [.str "eq", .str "lt", .str "gt"]
def rLeA : R2 := fun x y H Z => rLeI x y H Z ∨ ∃ i j, x = .str i ∧ y = .str j ∧ Z (.bl (!decide (j.cps.toList < i.cps.toList))) H
theorem opLeA {X : Cx} : OpR X (compareOp .LtE) rLeA := OpR.or op_le op_le_str
def nmD : PyData → Bool | .str z => isNm z | _ => false
def relD : PyData → Bool | .str z => isR3 z | _ => false
def blankD : PyData → Bool | .str z => decide (z = "") | _ => false
def atomD : PyData → Bool | .tuple [a, b, c] => relD a && (nmD b && nmD c) | _ => false
def partD (d : PyData) : Bool := blankD d || nmD d
def patD : PyData → Bool | .tuple [a, b, c] => (blankD a || relD a) && (partD b && partD c) | _ => false
def factD : PyData → Bool | .tuple ds => decide (1 ≤ ds.length) && (decide (ds.length ≤ 2) && ds.all atomD) | _ => false
def rowD : PyData → Bool | .tuple [a, b] => nmD a && factD b | _ => false
theorem str_of {d : PyData} (h : isStrD d = true) : ∃ z, d = .str z := by cases d <;> first | exact ⟨_, rfl⟩ | cases h
theorem tup_of {d : PyData} (h : isTupD d = true) : ∃ ds, d = .tuple ds := by cases d <;> first | exact ⟨_, rfl⟩ | cases h
theorem nmD_no {d : PyData} (h : isStrD d = false) : nmD d = false := by cases d <;> first | rfl | cases h
theorem relD_no {d : PyData} (h : isStrD d = false) : relD d = false := by cases d <;> first | rfl | cases h
theorem blankD_no {d : PyData} (h : isStrD d = false) : blankD d = false := by cases d <;> first | rfl | cases h
theorem atomD_no {d : PyData} (h : isTupD d = false) : atomD d = false := by cases d <;> first | rfl | cases h
theorem patD_no {d : PyData} (h : isTupD d = false) : patD d = false := by cases d <;> first | rfl | cases h
theorem factD_no {d : PyData} (h : isTupD d = false) : factD d = false := by cases d <;> first | rfl | cases h
theorem rowD_no {d : PyData} (h : isTupD d = false) : rowD d = false := by cases d <;> first | rfl | cases h
theorem atomD_len : ∀ {ds : List PyData}, ds.length ≠ 3 → atomD (.tuple ds) = false
  | [], _ => rfl
  | [_], _ => rfl
  | [_, _], _ => rfl
  | [_, _, _], h => absurd rfl h
  | _ :: _ :: _ :: _ :: _, _ => rfl
theorem patD_len : ∀ {ds : List PyData}, ds.length ≠ 3 → patD (.tuple ds) = false
  | [], _ => rfl
  | [_], _ => rfl
  | [_, _], _ => rfl
  | [_, _, _], h => absurd rfl h
  | _ :: _ :: _ :: _ :: _, _ => rfl
theorem rowD_len : ∀ {ds : List PyData}, ds.length ≠ 2 → rowD (.tuple ds) = false
  | [], _ => rfl
  | [_], _ => rfl
  | [_, _], h => absurd rfl h
  | _ :: _ :: _ :: _, _ => rfl
theorem Da.str_inv {H : Hp} {v : V} {z : Str} (h : Da H v (.str z)) : v = .str z := by cases h; rfl
theorem Da.tup_inv {H : Hp} {v : V} {ds : List PyData} (h : Da H v (.tuple ds)) : ∃ p xs, v = .ref p ∧ H p = some (.tup xs) ∧ DaAll H xs ds := by cases h with | tup h1 h2 => exact ⟨_, _, rfl, h1, h2⟩
theorem Da.lst_inv {H : Hp} {v : V} {ds : List PyData} (h : Da H v (.list ds)) : ∃ p xs, v = .ref p ∧ H p = some (.lst xs) ∧ DaAll H xs ds := by cases h with | lst h1 h2 => exact ⟨_, _, rfl, h1, h2⟩
theorem three {H : Hp} {xs : List V} {ds : List PyData} (h : DaAll H xs ds) (hl : ds.length = 3) : ∃ x y z a b c, xs = [x, y, z] ∧ ds = [a, b, c] ∧ Da H x a ∧ Da H y b ∧ Da H z c := by
  match ds, xs, h, hl with
  | [a, b, c], _, .cons h1 (.cons h2 (.cons h3 .nil)), _ => exact ⟨_, _, _, _, _, _, rfl, rfl, h1, h2, h3⟩
theorem two {H : Hp} {xs : List V} {ds : List PyData} (h : DaAll H xs ds) (hl : ds.length = 2) : ∃ x y a b, xs = [x, y] ∧ ds = [a, b] ∧ Da H x a ∧ Da H y b := by
  match ds, xs, h, hl with
  | [a, b], _, .cons h1 (.cons h2 .nil), _ => exact ⟨_, _, _, _, rfl, rfl, h1, h2⟩
theorem okD.memT {n W : Nat} {ds : List PyData} (h : okD n W (.tuple ds)) {d : PyData} (hd : d ∈ ds) : okD n W d := by
  obtain ⟨h1, h2, h3⟩ := h
  have q2 : PyData.depthAll ds + 1 ≤ n := h2
  have q3 : wds ds + 3 ≤ W := h3
  have z := wd_mem hd
  exact ⟨gDs_iff.mp h1 d hd, Nat.le_trans (depthAll_le.mp (Nat.le_refl _) d hd) (by omega), by omega⟩
theorem okD.memL {n W : Nat} {ds : List PyData} (h : okD n W (.list ds)) {d : PyData} (hd : d ∈ ds) : okD n W d := okD.memT (ds := ds) h hd
theorem okD.lenT {n W : Nat} {ds : List PyData} (h : okD n W (.tuple ds)) : 5 * ds.length ≤ W := by
  have q3 : wds ds + 3 ≤ W := h.2.2
  have := len_wds ds
  omega
theorem int_ne (n m : Nat) : (!decide (V.int (n : Int) = V.int (m : Int))) = !decide (n = m) := by
  by_cases h : n = m
  · rw [h]
    simp
  · rw [decide_eq_false h, decide_eq_false (show ¬ V.int (n : Int) = V.int (m : Int) from fun e => h (Int.ofNat.inj (V.int.inj e)))]
theorem int_eq (n m : Nat) : decide (V.int (n : Int) = V.int (m : Int)) = decide (n = m) := by
  by_cases h : n = m
  · rw [h]
    simp
  · rw [decide_eq_false h, decide_eq_false (show ¬ V.int (n : Int) = V.int (m : Int) from fun e => h (Int.ofNat.inj (V.int.inj e)))]
theorem one_lt (a b : Nat) : decide (([a] : List Nat) < [b]) = decide (a < b) := by
  by_cases h : a < b
  · rw [decide_eq_true h, decide_eq_true (List.cons_lt_cons_iff.mpr (.inl h))]
  · rw [decide_eq_false h, decide_eq_false]
    intro e
    rcases List.cons_lt_cons_iff.mp e with e | ⟨_, e⟩
    · exact h e
    · exact absurd e (by simp)
theorem le_a (c : Nat) : (!decide ((sgn c).cps.toList < (Str.ofString "a").cps.toList)) = decide (97 ≤ c) := by
  show (!decide (([c] : List Nat) < [97])) = _
  rw [one_lt]
  by_cases h : c < 97
  · rw [decide_eq_true h, decide_eq_false (by omega)]
    rfl
  · rw [decide_eq_false h, decide_eq_true (by omega)]
    rfl
theorem le_z (c : Nat) : (!decide ((Str.ofString "z").cps.toList < (sgn c).cps.toList)) = decide (c ≤ 122) := by
  show (!decide (([122] : List Nat) < [c])) = _
  rw [one_lt]
  by_cases h : 122 < c
  · rw [decide_eq_true h, decide_eq_false (by omega)]
    rfl
  · rw [decide_eq_false h, decide_eq_true (by omega)]
    rfl
theorem rel_in (z : Str) : inV (.str z) [.str "eq", .str "lt", .str "gt"] = isR3 z := by
  rw [show [V.str "eq", V.str "lt", V.str "gt"] = (["eq", "lt", "gt"] : List Str).map V.str from rfl, in_strs]
  unfold isR3
  by_cases h1 : z = "eq" <;> by_cases h2 : z = "lt" <;> by_cases h3 : z = "gt" <;> simp [h1, h2, h3]
theorem tk {α : Type} {l : List α} {i : Nat} {x : α} (h : l[i]? = some x) : l.take (i + 1) = l.take i ++ [x] := by
  rw [List.take_add_one, h]
  rfl
section
variable {P : Program} {w : World} {K : PySem.W.Frag} {mg : Str → Option Value} {base : Heap} {rel : Addr}
def spIs (p : PyData → Bool) : Sp := fun vs H Q _ => ∃ (v : V) (d : PyData), vs = [v] ∧ Da H v d ∧ okD 40 16000000 d ∧ ∀ H', Ex H H' → Q (.bl (p d)) H'
end
abbrev s_is_name : Stmt := top 5
theorem sc_is_name : FnScope ["thing", "letter"] ["thing"] (defScope s_is_name) := ⟨rfl, rfl, rfl, by decide +kernel, rfl, by decide +kernel, by decide +kernel⟩
abbrev s_is_relation : Stmt := top 6
theorem sc_is_relation : FnScope ["thing"] ["thing"] (defScope s_is_relation) := ⟨rfl, rfl, rfl, by decide +kernel, rfl, by decide +kernel, by decide +kernel⟩
abbrev s_is_atom : Stmt := top 9
theorem sc_is_atom : FnScope ["thing"] ["thing"] (defScope s_is_atom) := ⟨rfl, rfl, rfl, by decide +kernel, rfl, by decide +kernel, by decide +kernel⟩
abbrev s_is_fact : Stmt := top 10
theorem sc_is_fact : FnScope ["thing", "atom"] ["thing"] (defScope s_is_fact) := ⟨rfl, rfl, rfl, by decide +kernel, rfl, by decide +kernel, by decide +kernel⟩
abbrev s_is_row : Stmt := top 11
theorem sc_is_row : FnScope ["thing"] ["thing"] (defScope s_is_row) := ⟨rfl, rfl, rfl, by decide +kernel, rfl, by decide +kernel, by decide +kernel⟩
section
variable {P : Program} {w : World} {K : PySem.W.Frag} {mg : Str → Option Value} {base : Heap} {rel : Addr}
theorem ok_is_name (T : Txt0 mg) (TI : TxtI K mg rel) (D : Df K mg "is_name" s_is_name) : CalG P w K mg base 1 "is_name" (spIs nmD) := by
  obtain ⟨t0, g_LONGEST_NAME⟩ := TI.g_LONGEST_NAME
  refine cal_mk D sc_is_name (fun _ _ _ _ _ _ us hl => match us, hl with | [_], _ => rfl) (fun vs H Q E h => ?_) (fun f cdv A outer s H vs Q E hr hG h => ?_)
  · obtain ⟨v, d, rfl, _⟩ := h
    rfl
  · obtain ⟨v, d, rfl, hv, hok, q⟩ := h
    refine ⟨_, (pss_cons (ps_if (PW.pt (pw_or (pt_not (pt_val (pe_callB call_isi (by rfl) TI.isinstance (by decide +kernel) (pa_cons (pv 0) (pa_cons (pe_bltn (v := .ty "str") (by rfl) TI.str (by decide +kernel) rfl) pa_nil))))) (pw_or1 (pt_not (pt_chain opLeA opLeA pe_int (pe_callB callLen (by rfl) T.len PySem.boot_len (pa_cons (pv 0) pa_nil)) (pe_glob (v := .int _) rfl g_LONGEST_NAME ⟨_, rfl⟩)))))) (pss_one (ps_ret pe_bl)) pss_nil)
      (pss_one (ps_ret (pe_callB (cr_all rfl) (by rfl) T.all (by decide +kernel) (pa_cons (pe_lcO (pe_lc (own := [("letter", 1)]) rfl sc_is_name.nd (piAny (pv 0)) (blkOk_by (own := [("letter", 1)]) (N := ["thing", "letter"]) (sc := defScope s_is_name) (by first | decide +kernel | kernel_rfl)) (fun _ _ _ _ _ => pg_name (i := 1) sc_is_name.nd rfl (Or.inl rfl)) (fun _ _ _ _ _ => pts_nil) (fun _ _ _ _ _ => pe_chain opLeA opLeA pe_str (pv 1) pe_str))) pa_nil))))), ?_⟩
    refine ⟨_, rfl, v, .ty "str", _, _, _, rfl, .ty _, hv.ty, kit_ty (kit_str d), _, rfl, ?_⟩
    cases hs : isStrD d with
    | false =>
      refine iteT ?_
      rw [← nmD_no hs]
      exact q _ (Ex.refl _)
    | true =>
      obtain ⟨z, rfl⟩ := str_of hs
      have ev := hv.str_inv
      subst ev
      have hw : 10 * z.length + 5 ≤ 16000000 := hok.2.2
      refine iteF ⟨_, rfl, .inr ⟨z, rfl, by show z.length ≤ 16777216; omega, ?_⟩⟩
      refine .inl ⟨_, _, rfl, rfl, _, rfl, ite2 (fun h1 => .inl ⟨_, _, rfl, rfl, _, rfl, ite2 (fun h2 => ?_) (fun h2 => ?_)⟩) (fun h1 => ⟨_, rfl, ifT (by rfl) ?_⟩)⟩
      · have e : nmD (.str z) = false := by
          show (_ && decide (z.length ≤ 8) && _) = false
          have z2 : ¬ ((z.length : Int) ≤ (8 : Int)) := by simpa using h2
          rw [decide_eq_false (show ¬ z.length ≤ 8 by omega), Bool.and_false, Bool.false_and]
        rw [← e]
        exact q _ (Ex.refl _)
      · have z1 : ((1 : Int) ≤ (z.length : Int)) := by simpa using h1
        have z2 : ((z.length : Int) ≤ (8 : Int)) := by simpa using h2
        refine .inr (.inr ⟨_, rfl, z, rfl, ?_⟩)
        refine lcG walk_str (by have z2 : z.cps.size = z.length := rfl; omega) trivial (fun _ _ _ _ => trivial) (fun i H x H' h => by rw [h.1]; exact Ex.refl _) (fun i ys _ => ys = (((TL.tl z).take i).map lowc).map V.bl) (fun _ _ _ _ _ h => h) rfl ?_ ?_
        · rintro i x H1 H2 ys hi e ⟨rfl, c, hc, rfl⟩ rfl N N0 kN kN0
          have hc2 : (TL.tl z)[i]? = some c := by
            show z.cps.toList[i]? = some c
            rw [Array.getElem?_toList]
            exact hc
          have fin : ∀ b : Bool, b = lowc c → N (.bl b) H2 := fun b hb => kN _ _ (Ex.refl _) (by
            rw [tk hc2, List.map_append, List.map_append, hb]
            rfl)
          refine ⟨rfl, ?_⟩
          refine ⟨_, rfl, .inr ⟨_, _, rfl, rfl, _, congrArg V.bl (le_a c), ite2 (fun k1 => .inr ⟨_, _, rfl, rfl, ?_⟩) (fun k1 => fin _ ?_)⟩⟩
          · refine fin _ ?_
            rw [show (!decide ((Str.ofString "z").cps.toList < (⟨#[c]⟩ : Str).cps.toList)) = decide (c ≤ 122) from le_z c]
            unfold lowc
            rw [k1, Bool.true_and]
          · unfold lowc
            rw [show decide (97 ≤ c) = false from by simpa using k1, Bool.false_and]
        · rintro l H1 ys hl e1 h1' _ rfl
          refine ⟨l, _, rfl, sq_of h1', ?_⟩
          have e : ((((TL.tl z).take z.cps.size).map lowc).all id) = nmD (.str z) := by
            rw [show z.cps.size = (TL.tl z).length from by simp, List.take_length, List.all_map]
            show _ = (decide (1 ≤ z.length) && decide (z.length ≤ 8) && (TL.tl z).all lowc)
            rw [decide_eq_true (show 1 ≤ z.length by omega), decide_eq_true (show z.length ≤ 8 by omega)]
            rfl
          rw [e]
          exact q _ e1
      · have e : nmD (.str z) = false := by
          show (decide (1 ≤ z.length) && _ && _) = false
          have z1 : ¬ ((1 : Int) ≤ (z.length : Int)) := by simpa using h1
          rw [decide_eq_false (show ¬ 1 ≤ z.length by omega), Bool.false_and, Bool.false_and]
        rw [← e]
        exact q _ (Ex.refl _)
theorem ok_is_relation (T : Txt0 mg) (TI : TxtI K mg rel) (D : Df K mg "is_relation" s_is_relation) : CalG P w K mg base 1 "is_relation" (spIs relD) := by
  refine cal_mk D sc_is_relation (fun _ _ _ _ _ _ us hl => match us, hl with | [_], _ => rfl) (fun vs H Q E h => ?_) (fun f cdv A outer s H vs Q E hr hG h => ?_)
  · obtain ⟨v, d, rfl, _⟩ := h
    rfl
  · obtain ⟨v, d, rfl, hv, hok, q⟩ := h
    refine ⟨_, (pss_one (ps_ret (pe_and (pe_callB call_isi (by rfl) TI.isinstance (by decide +kernel) (pa_cons (pv 0) (pa_cons (pe_bltn (v := .ty "str") (by rfl) TI.str (by decide +kernel) rfl) pa_nil))) (pe_one (pe_cmpR opIn (pv 0) (pe_glob (v := .ref _) rfl TI.g_RELATIONS rfl) rfl))))), ?_⟩
    refine ⟨_, rfl, v, .ty "str", _, _, _, rfl, .ty _, hv.ty, kit_ty (kit_str d), _, rfl, ?_⟩
    cases hs : isStrD d with
    | false =>
      refine iteF ?_
      rw [← relD_no hs]
      exact q _ (Ex.refl _)
    | true =>
      obtain ⟨z, rfl⟩ := str_of hs
      have ev := hv.str_inv
      subst ev
      refine iteT ⟨_, rfl, .inl ⟨rel, _, rfl, .inr (TI.rels H), rfl, rfl, ?_⟩⟩
      show Q (.bl (inV (.str z) [.str "eq", .str "lt", .str "gt"])) H
      rw [rel_in]
      exact q _ (Ex.refl _)
theorem ok_is_atom (T : Txt0 mg) (TI : TxtI K mg rel) (D : Df K mg "is_atom" s_is_atom) (c_is_relation : CalG P w K mg base 1 "is_relation" (spIs relD)) (c_is_name : CalG P w K mg base 1 "is_name" (spIs nmD)) : CalG P w K mg base 2 "is_atom" (spIs atomD) := by
  refine cal_mk D sc_is_atom (fun _ _ _ _ _ _ us hl => match us, hl with | [_], _ => rfl) (fun vs H Q E h => ?_) (fun f cdv A outer s H vs Q E hr hG h => ?_)
  · obtain ⟨v, a, rfl, _⟩ := h
    rfl
  · obtain ⟨v, d, rfl, hv, hok, q⟩ := h
    refine ⟨_, (pss_cons (ps_if (PW.pt (pw_or (pt_not (pt_val (pe_callB call_isi (by rfl) TI.isinstance (by decide +kernel) (pa_cons (pv 0) (pa_cons (pe_bltn (v := .ty "tuple") (by rfl) T.tuple (by decide +kernel) rfl) pa_nil))))) (pw_or1 (pt_cmpR (opNe hr) (pe_callB callLen (by rfl) T.len PySem.boot_len (pa_cons (pv 0) pa_nil)) pe_int (nomark _))))) (pss_one (ps_ret pe_bl)) pss_nil)
      (pss_one (ps_ret (pe_and (pe_cG c_is_relation hr hG (by decide) rfl (pa_cons (pe_ix ixAny (pv 0) pe_int (fun _ _ => rfl)) pa_nil)) (pe_and (pe_cG c_is_name hr hG (by decide) rfl (pa_cons (pe_ix ixAny (pv 0) pe_int (fun _ _ => rfl)) pa_nil)) (pe_one (pe_cG c_is_name hr hG (by decide) rfl (pa_cons (pe_ix ixAny (pv 0) pe_int (fun _ _ => rfl)) pa_nil)))))))), ?_⟩
    refine ⟨_, rfl, v, .ty "tuple", _, _, _, rfl, .ty _, hv.ty, kit_ty (kit_tuple d), _, rfl, ?_⟩
    cases hs : isTupD d with
    | false =>
      refine iteT ?_
      rw [← atomD_no hs]
      exact q _ (Ex.refl _)
    | true =>
      obtain ⟨ds, rfl⟩ := tup_of hs
      obtain ⟨p, xs, rfl, hp, hA⟩ := hv.tup_inv
      have hl := hA.len
      refine iteF ⟨_, rfl, .inl ⟨p, _, rfl, .inr (st_of hp), .inl ⟨rfl, _, rfl, ?_⟩⟩⟩
      by_cases h3 : ds.length = 3
      · obtain ⟨x, y, z, a, b, c, rfl, rfl, ha, hb, hc⟩ := three hA h3
        refine ifF (b := !decide (V.int 3 = V.int 3)) (by decide +kernel) ?_
        refine ⟨_, rfl, .inr (.inl ⟨p, _, 0, _, rfl, rfl, st_of hp, atI_nat (j := 0) rfl, ?_⟩)⟩
        refine ⟨x, a, rfl, ha, hok.memT (by simp), fun H1 e1 => ⟨_, rfl, ?_⟩⟩
        cases r1 : relD a with
        | false =>
          refine iteF ?_
          have e : atomD (.tuple [a, b, c]) = false := by show (relD a && _) = false; rw [r1]; rfl
          rw [← e]
          exact q _ e1
        | true =>
          refine iteT ⟨_, rfl, .inr (.inl ⟨p, _, 1, _, rfl, rfl, st_of (e1 _ _ hp), atI_nat (j := 1) rfl, ?_⟩)⟩
          refine ⟨y, b, rfl, hb.ex e1, hok.memT (by simp), fun H2 e2 => ⟨_, rfl, ?_⟩⟩
          cases r2 : nmD b with
          | false =>
            refine iteF ?_
            have e : atomD (.tuple [a, b, c]) = false := by show (relD a && (nmD b && _)) = false; rw [r1, r2]; rfl
            rw [← e]
            exact q _ (e1.trans e2)
          | true =>
            refine iteT ⟨_, rfl, .inr (.inl ⟨p, _, 2, _, rfl, rfl, st_of (e2 _ _ (e1 _ _ hp)), atI_nat (j := 2) rfl, ?_⟩)⟩
            refine ⟨z, c, rfl, hc.ex (e1.trans e2), hok.memT (by simp), fun H3 e3 => ?_⟩
            have e : atomD (.tuple [a, b, c]) = nmD c := by show (relD a && (nmD b && nmD c)) = nmD c; rw [r1, r2]; rfl
            rw [← e]
            exact q _ ((e1.trans e2).trans e3)
      · refine ifT (b := !decide (V.int (xs.length : Int) = V.int ((3 : Nat) : Int))) (by rw [int_ne, decide_eq_false (by omega)]; rfl) ?_
        rw [← atomD_len h3]
        exact q _ (Ex.refl _)
theorem ok_is_fact (T : Txt0 mg) (TI : TxtI K mg rel) (D : Df K mg "is_fact" s_is_fact) (c_is_atom : CalG P w K mg base 2 "is_atom" (spIs atomD)) : CalG P w K mg base 3 "is_fact" (spIs factD) := by
  refine cal_mk D sc_is_fact (fun _ _ _ _ _ _ us hl => match us, hl with | [_], _ => rfl) (fun vs H Q E h => ?_) (fun f cdv A outer s H vs Q E hr hG h => ?_)
  · obtain ⟨v, a, rfl, _⟩ := h
    rfl
  · obtain ⟨v, d, rfl, hv, hok, q⟩ := h
    refine ⟨_, (pss_cons (ps_if (PW.pt (pw_or (pt_not (pt_val (pe_callB call_isi (by rfl) TI.isinstance (by decide +kernel) (pa_cons (pv 0) (pa_cons (pe_bltn (v := .ty "tuple") (by rfl) T.tuple (by decide +kernel) rfl) pa_nil))))) (pw_or1 (pt_not (pt_chain opLeA opLeA pe_int (pe_callB callLen (by rfl) T.len PySem.boot_len (pa_cons (pv 0) pa_nil)) pe_int))))) (pss_one (ps_ret pe_bl)) pss_nil)
      (pss_one (ps_ret (pe_callB (cr_all rfl) (by rfl) T.all (by decide +kernel) (pa_cons (pe_lcO (pe_lc (own := [("atom", 1)]) rfl sc_is_fact.nd (piAny (pv 0)) (blkOk_by (own := [("atom", 1)]) (N := ["thing", "atom"]) (sc := defScope s_is_fact) (by first | decide +kernel | kernel_rfl)) (fun _ _ _ _ _ => pg_name (i := 1) sc_is_fact.nd rfl (Or.inl rfl)) (fun _ _ _ _ _ => pts_nil) (fun _ _ _ _ _ => pe_cG c_is_atom hr hG (by decide) rfl (pa_cons (pv 1) pa_nil)))) pa_nil))))), ?_⟩
    refine ⟨_, rfl, v, .ty "tuple", _, _, _, rfl, .ty _, hv.ty, kit_ty (kit_tuple d), _, rfl, ?_⟩
    cases hs : isTupD d with
    | false =>
      refine iteT ?_
      rw [← factD_no hs]
      exact q _ (Ex.refl _)
    | true =>
      obtain ⟨ds, rfl⟩ := tup_of hs
      obtain ⟨p, xs, rfl, hp, hA⟩ := hv.tup_inv
      have hl := hA.len
      refine iteF ⟨_, rfl, .inl ⟨p, _, rfl, .inr (st_of hp), ?_⟩⟩
      have no : ¬ (1 ≤ ds.length ∧ ds.length ≤ 2) → Q (.bl false) H := fun hn => by
        have e : factD (.tuple ds) = false := by
          show (decide (1 ≤ ds.length) && (decide (ds.length ≤ 2) && _)) = false
          by_cases h1 : 1 ≤ ds.length
          · rw [decide_eq_false (show ¬ ds.length ≤ 2 from fun h => hn ⟨h1, h⟩), Bool.false_and, Bool.and_false]
          · rw [decide_eq_false h1, Bool.false_and]
        rw [← e]
        exact q _ (Ex.refl _)
      refine .inl ⟨_, _, rfl, rfl, _, rfl, ite2 (fun h1 => .inl ⟨_, _, rfl, rfl, _, rfl, ite2 (fun h2 => no ?_) (fun h2 => ?_)⟩) (fun h1 => ⟨_, rfl, ifT (by rfl) (no ?_)⟩)⟩
      · have z2 : ¬ ((xs.length : Int) ≤ (2 : Int)) := by simpa using h2
        omega
      · have z1 : ((1 : Int) ≤ (xs.length : Int)) := by simpa using h1
        have z2 : ((xs.length : Int) ≤ (2 : Int)) := by simpa using h2
        refine .inr (.inl ⟨_, rfl, p, rfl, ⟨_, st_of hp⟩, ?_⟩)
        refine lcG (walk_tup (xs := xs)) (by omega) (st_of hp) (fun _ _ e h => ex_t e h) yAt_ex (fun i ys _ => ys = ((ds.take i).map atomD).map V.bl) (fun _ _ _ _ _ h => h) rfl ?_ ?_
        · rintro i x H1 H2 ys hi e ⟨rfl, hx⟩ rfl N N0 kN kN0
          obtain ⟨a, ha, hat⟩ := (DaAll.ex e ds hA).at hx
          refine ⟨rfl, ?_⟩
          refine ⟨_, rfl, x, a, rfl, hat, hok.memT (List.mem_of_getElem? ha), fun H3 e3 => ?_⟩
          refine kN _ _ e3 ?_
          rw [tk ha, List.map_append, List.map_append]
          rfl
        · rintro l H1 ys hl1 e1 h1' _ rfl
          refine ⟨l, _, rfl, sq_of h1', ?_⟩
          have e : (((ds.take xs.length).map atomD).all id) = factD (.tuple ds) := by
            rw [hl, List.take_length, List.all_map]
            show _ = (decide (1 ≤ ds.length) && (decide (ds.length ≤ 2) && ds.all atomD))
            rw [decide_eq_true (show 1 ≤ ds.length by omega), decide_eq_true (show ds.length ≤ 2 by omega)]
            rfl
          rw [e]
          exact q _ e1
      · have z1 : ¬ ((1 : Int) ≤ (xs.length : Int)) := by simpa using h1
        omega
theorem ok_is_row (T : Txt0 mg) (TI : TxtI K mg rel) (D : Df K mg "is_row" s_is_row) (c_is_name : CalG P w K mg base 1 "is_name" (spIs nmD)) (c_is_fact : CalG P w K mg base 3 "is_fact" (spIs factD)) : CalG P w K mg base 4 "is_row" (spIs rowD) := by
  refine cal_mk D sc_is_row (fun _ _ _ _ _ _ us hl => match us, hl with | [_], _ => rfl) (fun vs H Q E h => ?_) (fun f cdv A outer s H vs Q E hr hG h => ?_)
  · obtain ⟨v, a, rfl, _⟩ := h
    rfl
  · obtain ⟨v, d, rfl, hv, hok, q⟩ := h
    refine ⟨_, (pss_one (ps_ret (pe_and (pe_callB call_isi (by rfl) TI.isinstance (by decide +kernel) (pa_cons (pv 0) (pa_cons (pe_bltn (v := .ty "tuple") (by rfl) T.tuple (by decide +kernel) rfl) pa_nil))) (pe_and (pe_cmpR (opEq hr) (pe_callB callLen (by rfl) T.len PySem.boot_len (pa_cons (pv 0) pa_nil)) pe_int (nomark _)) (pe_and (pe_cG c_is_name hr hG (by decide) rfl (pa_cons (pe_ix ixAny (pv 0) pe_int (fun _ _ => rfl)) pa_nil)) (pe_one (pe_cG c_is_fact hr hG (by decide) rfl (pa_cons (pe_ix ixAny (pv 0) pe_int (fun _ _ => rfl)) pa_nil)))))))), ?_⟩
    refine ⟨_, rfl, v, .ty "tuple", _, _, _, rfl, .ty _, hv.ty, kit_ty (kit_tuple d), _, rfl, ?_⟩
    cases hs : isTupD d with
    | false =>
      refine iteF ?_
      rw [← rowD_no hs]
      exact q _ (Ex.refl _)
    | true =>
      obtain ⟨ds, rfl⟩ := tup_of hs
      obtain ⟨p, xs, rfl, hp, hA⟩ := hv.tup_inv
      have hl := hA.len
      refine iteT ⟨_, rfl, .inl ⟨p, _, rfl, .inr (st_of hp), .inl ⟨rfl, _, rfl, ?_⟩⟩⟩
      by_cases h2 : ds.length = 2
      · obtain ⟨x, y, a, b, rfl, rfl, ha, hb⟩ := two hA h2
        refine ifT (b := decide (V.int 2 = V.int 2)) (by decide +kernel) ?_
        refine ⟨_, rfl, .inr (.inl ⟨p, _, 0, _, rfl, rfl, st_of hp, atI_nat (j := 0) rfl, ?_⟩)⟩
        refine ⟨x, a, rfl, ha, hok.memT (by simp), fun H1 e1 => ⟨_, rfl, ?_⟩⟩
        cases r1 : nmD a with
        | false =>
          refine iteF ?_
          have e : rowD (.tuple [a, b]) = false := by show (nmD a && _) = false; rw [r1]; rfl
          rw [← e]
          exact q _ e1
        | true =>
          refine iteT ⟨_, rfl, .inr (.inl ⟨p, _, 1, _, rfl, rfl, st_of (e1 _ _ hp), atI_nat (j := 1) rfl, ?_⟩)⟩
          refine ⟨y, b, rfl, hb.ex e1, hok.memT (by simp), fun H2 e2 => ?_⟩
          have e : rowD (.tuple [a, b]) = factD b := by show (nmD a && factD b) = factD b; rw [r1]; rfl
          rw [← e]
          exact q _ (e1.trans e2)
      · have e0 : decide (V.int (xs.length : Int) = V.int ((2 : Nat) : Int)) = false := by rw [int_eq, decide_eq_false (by omega)]
        refine ifF (b := decide (V.int (xs.length : Int) = V.int ((2 : Nat) : Int))) e0 ?_
        rw [← rowD_len h2]
        exact q _ (Ex.refl _)
end
theorem call_isiB {X : Cx} {s : Shared} {H : Hp} {sc : Scope} {ce : Env} {fp : List Addr} : CallR (X.blk s H sc ce fp) (.builtin "isinstance") (rIsi X.K) := call_isi
theorem low_mem (c : Nat) : decide (c ∈ List.range' 97 26) = lowc c := by
  unfold lowc
  by_cases h : 97 ≤ c ∧ c ≤ 122
  · rw [decide_eq_true h.1, decide_eq_true h.2, decide_eq_true (List.mem_range'_1.mpr ⟨h.1, by omega⟩)]
    rfl
  · rw [decide_eq_false (fun z => h ⟨(List.mem_range'_1.mp z).1, by have := (List.mem_range'_1.mp z).2; omega⟩)]
    by_cases h1 : 97 ≤ c
    · rw [decide_eq_false (show ¬ c ≤ 122 from fun z => h ⟨h1, z⟩), Bool.and_false]
    · rw [decide_eq_false h1, Bool.false_and]
theorem let_S : (("abcdefghijklmnopqrstuvwxyz" : Str)) = SX.S (List.range' 97 26) := by decide +kernel
theorem let_in (c : Nat) : (!(Builtin.Str.occurrences ("abcdefghijklmnopqrstuvwxyz" : Str) ⟨#[c]⟩ 0 ("abcdefghijklmnopqrstuvwxyz" : Str).length 1).isEmpty) = lowc c := by
  rw [let_S, ← low_mem]
  exact StrLaws.found_one _ c
theorem emp_snoc {α : Type} (ys : List α) (y : α) : (ys ++ [y]).isEmpty = false := by cases ys <;> rfl
/-- what the law's own look says of an atom (L = 1), of a pattern (L = 0) -/
def lookD (L : Int) (d : PyData) : Bool := if L = 1 then atomD d else patD d
theorem lookD_no {L : Int} {d : PyData} (h : isTupD d = false) : lookD L d = false := by
  unfold lookD
  rw [atomD_no h, patD_no h]
  split <;> rfl
theorem lookD_len {L : Int} {ds : List PyData} (h : ds.length ≠ 3) : lookD L (.tuple ds) = false := by
  unfold lookD
  rw [atomD_len h, patD_len h]
  split <;> rfl
theorem rel_str {d : PyData} (h : isStrD d = false) : (blankD d || relD d) = false := by rw [blankD_no h, relD_no h]; rfl
theorem part_str {d : PyData} (h : isStrD d = false) : partD d = false := by unfold partD; rw [blankD_no h, nmD_no h]; rfl
theorem lookD_str {L : Int} {a b c : PyData} (h : [a, b, c].all isStrD = false) : lookD L (.tuple [a, b, c]) = false := by
  have h : (isStrD a && (isStrD b && (isStrD c && true))) = false := h
  rw [Bool.and_true] at h
  have e1 : atomD (.tuple [a, b, c]) = (relD a && (nmD b && nmD c)) := rfl
  have e2 : patD (.tuple [a, b, c]) = ((blankD a || relD a) && (partD b && partD c)) := rfl
  unfold lookD
  rw [e1, e2]
  cases ha : isStrD a with
  | false =>
    rw [rel_str ha, relD_no ha]
    split <;> rfl
  | true =>
    cases hb : isStrD b with
    | false =>
      rw [nmD_no hb, part_str hb, Bool.false_and, Bool.false_and, Bool.and_false, Bool.and_false]
      split <;> rfl
    | true =>
      have hc : isStrD c = false := by
        rw [ha, hb] at h
        exact h
      rw [nmD_no hc, part_str hc, Bool.and_false, Bool.and_false, Bool.and_false, Bool.and_false]
      split <;> rfl
/-- the part k is as it should be -/
def okAt (L : Int) (g : Bool) (z : Str) : Bool := g || (!decide (L = 1) && decide (z = ""))
theorem lookD_three {L : Int} (hL : L = 0 ∨ L = 1) (a b c : Str) : (okAt L (isR3 a) a && (okAt L (isNm b) b && okAt L (isNm c) c)) = lookD L (.tuple [.str a, .str b, .str c]) := by
  unfold lookD okAt
  rcases hL with rfl | rfl
  · rw [if_neg (by decide)]
    show ((isR3 a || decide (a = "")) && ((isNm b || decide (b = "")) && (isNm c || decide (c = "")))) = ((decide (a = "") || isR3 a) && ((decide (b = "") || isNm b) && (decide (c = "") || isNm c)))
    rw [Bool.or_comm (isR3 a), Bool.or_comm (isNm b), Bool.or_comm (isNm c)]
  · rw [if_pos rfl]
    show ((isR3 a || false) && ((isNm b || false) && (isNm c || false))) = (isR3 a && (isNm b && isNm c))
    rw [Bool.or_false, Bool.or_false, Bool.or_false]
theorem str_eq0 (z : Str) : (!decide (V.str z = V.str "")) = !decide (z = "") := by
  by_cases h : z = ""
  · rw [h]
    simp
  · rw [decide_eq_false h, decide_eq_false (fun e => h (V.str.inj e))]
theorem int_one (L : Int) : decide (V.int L = V.int 1) = decide (L = 1) := by
  by_cases h : L = 1
  · rw [h]
    simp
  · rw [decide_eq_false h, decide_eq_false (fun e => h (V.int.inj e))]
abbrev s_l_is_name : Stmt := top 33
theorem sc_l_is_name : FnScope ["_law_thing", "_law_sign"] ["_law_thing"] (defScope s_l_is_name) := ⟨rfl, rfl, rfl, by decide +kernel, rfl, by decide +kernel, by decide +kernel⟩
abbrev s_l_is_atom : Stmt := top 34
theorem sc_l_is_atom : FnScope ["_law_thing", "_law_least", "_law_piece", "_law_good", "_law_k"] ["_law_thing", "_law_least"] (defScope s_l_is_atom) := ⟨rfl, rfl, rfl, by decide +kernel, rfl, by decide +kernel, by decide +kernel⟩
abbrev s_l_is_fact : Stmt := top 35
theorem sc_l_is_fact : FnScope ["_law_thing", "_law_atom_here"] ["_law_thing"] (defScope s_l_is_fact) := ⟨rfl, rfl, rfl, by decide +kernel, rfl, by decide +kernel, by decide +kernel⟩
abbrev s_l_is_row : Stmt := top 36
theorem sc_l_is_row : FnScope ["_law_thing"] ["_law_thing"] (defScope s_l_is_row) := ⟨rfl, rfl, rfl, by decide +kernel, rfl, by decide +kernel, by decide +kernel⟩
section
variable {P : Program} {w : World} {K : PySem.W.Frag} {mg : Str → Option Value} {base : Heap} {rel : Addr}
theorem ok_l_is_name (T : Txt0 mg) (TI : TxtI K mg rel) (D : Df K mg "_law_is_name" s_l_is_name) : CalG P w K mg base 1 "_law_is_name" (spIs nmD) := by
  refine cal_mk D sc_l_is_name (fun _ _ _ _ _ _ us hl => match us, hl with | [_], _ => rfl) (fun vs H Q E h => ?_) (fun f cdv A outer s H vs Q E hr hG h => ?_)
  · obtain ⟨v, d, rfl, _⟩ := h
    rfl
  · obtain ⟨v, d, rfl, hv, hok, q⟩ := h
    refine ⟨_, (pss_cons (ps_if (PW.pt (pw_or (pt_not (pt_val (pe_callB call_isi (by rfl) TI.isinstance (by decide +kernel) (pa_cons (pv 0) (pa_cons (pe_bltn (v := .ty "str") (by rfl) TI.str (by decide +kernel) rfl) pa_nil))))) (pw_or1 (pt_not (pt_chain opLt opLt pe_int (pe_callB callLen (by rfl) T.len PySem.boot_len (pa_cons (pv 0) pa_nil)) pe_int))))) (pss_one (ps_ret pe_bl)) pss_nil)
      (pss_one (ps_ret (pe_cmpR (op_eq0 hr) (pe_lcO (pe_lc (own := [("_law_sign", 1)]) rfl sc_l_is_name.nd (piAny (pv 0)) (blkOk_by (own := [("_law_sign", 1)]) (N := ["_law_thing", "_law_sign"]) (sc := defScope s_l_is_name) (by first | decide +kernel | kernel_rfl)) (fun _ _ _ _ _ => pg_name (i := 1) sc_l_is_name.nd rfl (Or.inl rfl)) (fun _ _ _ _ _ => pts_one (pt_cmpR opNotInB (pv 1) pe_str rfl)) (fun _ _ _ _ _ => pv 1))) (pe_lst pa_nil) (nomark _))))), ?_⟩
    refine ⟨_, rfl, v, .ty "str", _, _, _, rfl, .ty _, hv.ty, kit_ty (kit_str d), _, rfl, ?_⟩
    cases hs : isStrD d with
    | false =>
      refine iteT ?_
      rw [← nmD_no hs]
      exact q _ (Ex.refl _)
    | true =>
      obtain ⟨z, rfl⟩ := str_of hs
      have ev := hv.str_inv
      subst ev
      have hw : 10 * z.length + 5 ≤ 16000000 := hok.2.2
      have ez : nmD (.str z) = (decide (1 ≤ z.length) && decide (z.length ≤ 8) && (TL.tl z).all lowc) := rfl
      refine iteF ⟨_, rfl, .inr ⟨z, rfl, by show z.length ≤ 16777216; omega, ?_⟩⟩
      refine ⟨_, _, rfl, rfl, _, rfl, ite2 (fun h1 => ⟨_, _, rfl, rfl, _, rfl, ite2 (fun h2 => ?_) (fun h2 => ?_)⟩) (fun h1 => ⟨_, rfl, ifT (by rfl) ?_⟩)⟩
      · have e : nmD (.str z) = false := by
          have z2 : ¬ ((z.length : Int) < (9 : Int)) := by simpa using h2
          rw [ez, decide_eq_false (show ¬ z.length ≤ 8 by omega), Bool.and_false, Bool.false_and]
        rw [← e]
        exact q _ (Ex.refl _)
      · have z1 : ((0 : Int) < (z.length : Int)) := by simpa using h1
        have z2 : ((z.length : Int) < (9 : Int)) := by simpa using h2
        refine .inr (.inr ⟨_, rfl, z, rfl, ?_⟩)
        refine lcG walk_str (by have z2 : z.cps.size = z.length := rfl; omega) trivial (fun _ _ _ _ => trivial) (fun i H x H' h => by rw [h.1]; exact Ex.refl _) (fun i ys _ => ys.isEmpty = ((TL.tl z).take i).all lowc) (fun _ _ _ _ _ h => h) rfl ?_ ?_
        · rintro i x H1 H2 ys hi e ⟨rfl, c, hc, rfl⟩ hy N N0 kN kN0
          have hc2 : (TL.tl z)[i]? = some c := by
            show z.cps.toList[i]? = some c
            rw [Array.getElem?_toList]
            exact hc
          have step : ((TL.tl z).take (i + 1)).all lowc = (((TL.tl z).take i).all lowc && lowc c) := by
            rw [tk hc2, List.all_append]
            show (_ && (_ && true)) = _
            rw [Bool.and_true]
          refine ⟨rfl, ?_⟩
          refine ⟨_, rfl, .inr ⟨_, _, rfl, rfl, _, congrArg (fun b => V.bl (!b)) (let_in c), ?_⟩⟩
          cases hlc : lowc c with
          | true =>
            refine iteF (kN0 _ (Ex.refl _) ?_)
            rw [step, hlc, Bool.and_true]
            exact hy
          | false =>
            refine iteT ⟨_, rfl, kN _ _ (Ex.refl _) ?_⟩
            rw [step, hlc, Bool.and_false, emp_snoc]
        · rintro l H1 ys hl e1 h1' _ hy
          refine ⟨by show 0 ≤ sizeLine; decide, fun n1 hn1 => ?_⟩
          generalize hq2 : upd H1 n1 _ = H2
          obtain ⟨e2, h2'⟩ := gen1 hq2 hn1
          refine ⟨l, n1, ys, rfl, rfl, sq_of (e2 _ _ h1'), sq_of h2', ?_⟩
          have e : ys.isEmpty = nmD (.str z) := by
            rw [hy, ez, show z.cps.size = (TL.tl z).length from by simp, List.take_length, decide_eq_true (show 1 ≤ z.length by omega), decide_eq_true (show z.length ≤ 8 by omega)]
            rfl
          rw [e]
          exact q _ (e1.trans e2)
      · have e : nmD (.str z) = false := by
          have z1 : ¬ ((0 : Int) < (z.length : Int)) := by simpa using h1
          rw [ez, decide_eq_false (show ¬ 1 ≤ z.length by omega), Bool.false_and, Bool.false_and]
        rw [← e]
        exact q _ (Ex.refl _)
def spLook : Sp := fun vs H Q _ => ∃ (v : V) (d : PyData) (L : Int), vs = [v, .int L] ∧ Da H v d ∧ okD 40 16000000 d ∧ (L = 0 ∨ L = 1) ∧ ∀ H', Ex H H' → Q (.bl (lookD L d)) H'
theorem ok_l_is_atom (T : Txt0 mg) (TI : TxtI K mg rel) (D : Df K mg "_law_is_atom" s_l_is_atom) (c_l_is_name : CalG P w K mg base 1 "_law_is_name" (spIs nmD)) : CalG P w K mg base 2 "_law_is_atom" spLook := by
  refine cal_mk D sc_l_is_atom (fun _ _ _ _ _ _ us hl => match us, hl with | [_, _], _ => rfl) (fun vs H Q E h => ?_) (fun f cdv A outer s H vs Q E hr hG h => ?_)
  · obtain ⟨v, d, L, rfl, _⟩ := h
    rfl
  · obtain ⟨v, d, L, rfl, hv, hok, hL, q⟩ := h
    refine ⟨_, (pss_cons (ps_if (PW.pt (pw_or (pt_not (pt_val (pe_callB call_isi (by rfl) TI.isinstance (by decide +kernel) (pa_cons (pv 0) (pa_cons (pe_bltn (v := .ty "tuple") (by rfl) T.tuple (by decide +kernel) rfl) pa_nil))))) (pw_or1 (pt_cmpR (opNe hr) (pe_callB callLen (by rfl) T.len PySem.boot_len (pa_cons (pv 0) pa_nil)) pe_int (nomark _))))) (pss_one (ps_ret pe_bl)) pss_nil)
      (pss_cons (ps_if (pt_cmpR (op_ne0 hr) (pe_lcO (pe_lc (own := [("_law_piece", 2)]) rfl sc_l_is_atom.nd (piAny (pv 0)) (blkOk_by (own := [("_law_piece", 2)]) (N := ["_law_thing", "_law_least", "_law_piece", "_law_good", "_law_k"]) (sc := defScope s_l_is_atom) (by first | decide +kernel | kernel_rfl)) (fun _ _ _ _ _ => pg_name (i := 2) sc_l_is_atom.nd rfl (Or.inl rfl)) (fun _ _ _ _ _ => pts_one (pt_not (pt_val (pe_callB call_isiB (by rfl) TI.isinstance (by decide +kernel) (pa_cons (pv 2) (pa_cons (pe_bltn (v := .ty "str") (by rfl) TI.str (by decide +kernel) rfl) pa_nil)))))) (fun _ _ _ _ _ => pv 2))) (pe_lst pa_nil) (nomark _)) (pss_one (ps_ret pe_bl)) pss_nil)
      (pss_cons (ps_set (i := 3) sc_l_is_atom.nd rfl (Or.inr rfl) (pe_lst (pa_cons (pe_cmpR opIn (pe_ix ixAny (pv 0) pe_int (fun _ _ => rfl)) (pe_tup (pa_cons pe_str (pa_cons pe_str (pa_cons pe_str pa_nil)))) rfl) (pa_cons (pe_cG c_l_is_name hr hG (by decide) rfl (pa_cons (pe_ix ixAny (pv 0) pe_int (fun _ _ => rfl)) pa_nil)) (pa_cons (pe_cG c_l_is_name hr hG (by decide) rfl (pa_cons (pe_ix ixAny (pv 0) pe_int (fun _ _ => rfl)) pa_nil)) pa_nil)))))
      (pss_one (ps_ret (pe_cmpR (op_eq0 hr) (pe_lcO (pe_lc (own := [("_law_k", 4)]) rfl sc_l_is_atom.nd (pi_range1 rfl T.range (pa_cons pe_int pa_nil)) (blkOk_by (own := [("_law_k", 4)]) (N := ["_law_thing", "_law_least", "_law_piece", "_law_good", "_law_k"]) (sc := defScope s_l_is_atom) (by first | decide +kernel | kernel_rfl)) (fun _ _ _ _ _ => pg_name (i := 4) sc_l_is_atom.nd rfl (Or.inl rfl)) (fun _ _ _ _ _ => pts_one (PW.pt (pw_and (pt_not (pt_val (pe_ix ixAnyB (pv 3) (pv 4) (fun _ _ => rfl)))) (pw_and1 (PW.pt (pw_or (pt_cmpR (opEqB hr) (pv 1) pe_int (nomark _)) (pw_or1 (pt_cmpR (opNeB hr) (pe_ix ixAnyB (pv 0) (pv 4) (fun _ _ => rfl)) pe_str (nomark _))))))))) (fun _ _ _ _ _ => pv 4))) (pe_lst pa_nil) (nomark _))))))), ?_⟩
    refine ⟨_, rfl, v, .ty "tuple", _, _, _, rfl, .ty _, hv.ty, kit_ty (kit_tuple d), _, rfl, ?_⟩
    cases hs : isTupD d with
    | false =>
      refine iteT ?_
      rw [← lookD_no hs]
      exact q _ (Ex.refl _)
    | true =>
      obtain ⟨ds, rfl⟩ := tup_of hs
      obtain ⟨p, xs, rfl, hp, hA⟩ := hv.tup_inv
      have hl := hA.len
      refine iteF ⟨_, rfl, .inl ⟨p, _, rfl, .inr (st_of hp), .inl ⟨rfl, _, rfl, ?_⟩⟩⟩
      by_cases h3 : ds.length = 3
      · refine ifF (b := !decide (V.int (xs.length : Int) = V.int ((3 : Nat) : Int))) (by rw [int_ne, decide_eq_true (by omega)]; rfl) ?_
        refine .inr (.inl ⟨_, rfl, p, rfl, ⟨_, st_of hp⟩, ?_⟩)
        refine lcG (walk_tup (xs := xs)) (by omega) (st_of hp) (fun _ _ e h => ex_t e h) yAt_ex (fun i ys _ => ys.isEmpty = (ds.take i).all isStrD) (fun _ _ _ _ _ h => h) rfl ?_ ?_
        · rintro i x H1 H2 ys hi e ⟨rfl, hx⟩ hy N N0 kN kN0
          obtain ⟨g, hg, hat⟩ := (DaAll.ex e ds hA).at hx
          have step : (ds.take (i + 1)).all isStrD = ((ds.take i).all isStrD && isStrD g) := by
            rw [tk hg, List.all_append]
            show (_ && (_ && true)) = _
            rw [Bool.and_true]
          refine ⟨rfl, ?_⟩
          refine ⟨_, rfl, x, .ty "str", _, _, _, rfl, .ty _, hat.ty, kit_ty (kit_str g), _, rfl, ?_⟩
          cases hsg : isStrD g with
          | true =>
            refine iteF (kN0 _ (Ex.refl _) ?_)
            rw [step, hsg, Bool.and_true]
            exact hy
          | false =>
            refine iteT ⟨_, rfl, kN _ _ (Ex.refl _) ?_⟩
            rw [step, hsg, Bool.and_false, emp_snoc]
        · rintro l H1 ys hl1 e1 h1 _ hy
          rw [hl, List.take_length] at hy
          refine ⟨by show 0 ≤ sizeLine; decide, fun n1 hn1 => ?_⟩
          generalize hq2 : upd H1 n1 _ = H2
          obtain ⟨e2, h2⟩ := gen1 hq2 hn1
          refine ⟨l, n1, ys, rfl, rfl, sq_of (e2 _ _ h1), sq_of h2, _, rfl, ?_⟩
          have e02 := e1.trans e2
          rw [hy]
          obtain ⟨x, y, z, a, b, c, rfl, rfl, ha, hb, hc⟩ := three hA h3
          cases hall : [a, b, c].all isStrD with
          | false =>
            refine iteT ?_
            rw [← lookD_str (L := L) hall]
            exact q _ e02
          | true =>
            refine iteF ?_
            have hall : (isStrD a && (isStrD b && (isStrD c && true))) = true := hall
            simp only [Bool.and_eq_true, Bool.and_true] at hall
            obtain ⟨sa, rfl⟩ := str_of hall.1
            obtain ⟨sb, rfl⟩ := str_of hall.2.1
            obtain ⟨sc, rfl⟩ := str_of hall.2.2
            have ea := ha.str_inv
            have eb := hb.str_inv
            have ec := hc.str_inv
            subst ea eb ec
            have okb := hok.memT (d := .str sb) (by simp)
            have okc := hok.memT (d := .str sc) (by simp)
            have hp2 := e02 _ _ hp
            refine ⟨_, rfl, .inr (.inl ⟨p, _, 0, _, rfl, rfl, st_of hp2, atI_nat (j := 0) rfl, ?_⟩)⟩
            refine ⟨by show 3 ≤ sizeLine; decide, fun t ht => ?_⟩
            generalize hq3 : upd H2 t _ = H3
            obtain ⟨e3, h3t⟩ := gen1 hq3 ht
            refine .inl ⟨t, _, rfl, .inr (st_of h3t), rfl, rfl, ?_⟩
            refine ⟨_, rfl, .inr (.inl ⟨p, _, 1, _, rfl, rfl, st_of (e3 _ _ hp2), atI_nat (j := 1) rfl, ?_⟩)⟩
            refine ⟨_, _, rfl, .str sb, okb, fun H4 e4 => ?_⟩
            refine ⟨_, rfl, .inr (.inl ⟨p, _, 2, _, rfl, rfl, st_of (e4 _ _ (e3 _ _ hp2)), atI_nat (j := 2) rfl, ?_⟩)⟩
            refine ⟨_, _, rfl, .str sc, okc, fun H5 e5 => ?_⟩
            refine ⟨by show 3 ≤ sizeLine; decide, fun lg hlg => ?_⟩
            generalize hq6 : upd H5 lg _ = H6
            obtain ⟨e6, h6⟩ := gen1 hq6 hlg
            have h6 : H6 lg = some (.lst [.bl (isR3 sa), .bl (isNm sb), .bl (isNm sc)]) := by
              rw [h6, ← rel_in]
              rfl
            have e26 := ((e3.trans e4).trans e5).trans e6
            have hp6 := e26 _ _ hp2
            refine ⟨3, rfl, by decide, by decide, ?_⟩
            refine lcG (walk_range (lo := 0) (n := 3)) (by decide) trivial (fun _ _ _ _ => trivial) yFn_ex (fun i ys _ => ys.isEmpty = ([okAt L (isR3 sa) sa, okAt L (isNm sb) sb, okAt L (isNm sc) sc].take i).all id) (fun _ _ _ _ _ h => h) rfl ?_ ?_
            · rintro i x H7 H8 ys hi e7 ⟨rfl, rfl⟩ hy N N0 kN kN0
              obtain ⟨g, zz, hg, hz, hk⟩ : ∃ (g : Bool) (zz : Str), [V.bl (isR3 sa), V.bl (isNm sb), V.bl (isNm sc)][i]? = some (.bl g) ∧ [V.str sa, V.str sb, V.str sc][i]? = some (.str zz) ∧ [okAt L (isR3 sa) sa, okAt L (isNm sb) sb, okAt L (isNm sc) sc][i]? = some (okAt L g zz) := by
                have q : i = 0 ∨ i = 1 ∨ i = 2 := by omega
                rcases q with rfl | rfl | rfl
                · exact ⟨_, _, rfl, rfl, rfl⟩
                · exact ⟨_, _, rfl, rfl, rfl⟩
                · exact ⟨_, _, rfl, rfl, rfl⟩
              have e0 : (0 : Int) + (i : Int) = (i : Int) := Int.zero_add _
              have step : ([okAt L (isR3 sa) sa, okAt L (isNm sb) sb, okAt L (isNm sc) sc].take (i + 1)).all id = (([okAt L (isR3 sa) sa, okAt L (isNm sb) sb, okAt L (isNm sc) sc].take i).all id && okAt L g zz) := by
                rw [tk hk, List.all_append]
                show (_ && (_ && true)) = _
                rw [Bool.and_true]
                rfl
              have good : okAt L g zz = true → N0 H8 := fun h => kN0 _ (Ex.refl _) (by rw [step, h, Bool.and_true]; exact hy)
              have bad : okAt L g zz = false → ∀ u, N u H8 := fun h u => kN _ _ (Ex.refl _) (by rw [step, h, Bool.and_false, emp_snoc])
              refine ⟨rfl, ?_⟩
              refine ⟨_, rfl, _, rfl, .inl ⟨lg, _, _, _, rfl, rfl, sq_of (e7 _ _ h6), by rw [e0]; exact atI_nat hg, _, rfl, ?_⟩⟩
              cases g with
              | true => exact iteF (iteF (good rfl))
              | false =>
                refine iteT ⟨_, rfl, .inl ⟨rfl, _, rfl, ?_⟩⟩
                rw [int_one]
                rcases hL with rfl | rfl
                · refine ifF (b := decide ((0 : Int) = 1)) (by decide) ?_
                  refine ⟨_, rfl, _, rfl, .inr (.inl ⟨p, _, _, _, rfl, rfl, st_of (e7 _ _ hp6), by rw [e0]; exact atI_nat hz, .inl ⟨rfl, _, rfl, ?_⟩⟩)⟩
                  rw [str_eq0]
                  by_cases hzz : zz = ""
                  · exact ifF (by rw [hzz]; rfl) (good (by rw [hzz]; rfl))
                  · exact ifT (by rw [decide_eq_false hzz]; rfl) ⟨_, rfl, bad (by show (!decide ((0 : Int) = 1) && decide (zz = "")) = false; rw [decide_eq_false hzz, Bool.and_false]) _⟩
                · exact ifT (b := decide ((1 : Int) = 1)) (by decide) (iteT ⟨_, rfl, bad rfl _⟩)
            · rintro l2 H7 ys hl7 e7 h7 _ hy
              refine ⟨by show 0 ≤ sizeLine; decide, fun n2 hn2 => ?_⟩
              generalize hq8 : upd H7 n2 _ = H8
              obtain ⟨e8, h8⟩ := gen1 hq8 hn2
              refine ⟨l2, n2, ys, rfl, rfl, sq_of (e8 _ _ h7), sq_of h8, ?_⟩
              have e : ys.isEmpty = lookD L (.tuple [.str sa, .str sb, .str sc]) := by
                rw [hy, ← lookD_three hL]
                show (_ && (_ && (_ && true))) = _
                rw [Bool.and_true]
                rfl
              rw [e]
              exact q _ (((e02.trans e26).trans e7).trans e8)
      · refine ifT (b := !decide (V.int (xs.length : Int) = V.int ((3 : Nat) : Int))) (by rw [int_ne, decide_eq_false (by omega)]; rfl) ?_
        rw [← lookD_len (L := L) h3]
        exact q _ (Ex.refl _)
theorem ok_l_is_fact (T : Txt0 mg) (TI : TxtI K mg rel) (D : Df K mg "_law_is_fact" s_l_is_fact) (c_l_is_atom : CalG P w K mg base 2 "_law_is_atom" spLook) : CalG P w K mg base 3 "_law_is_fact" (spIs factD) := by
  refine cal_mk D sc_l_is_fact (fun _ _ _ _ _ _ us hl => match us, hl with | [_], _ => rfl) (fun vs H Q E h => ?_) (fun f cdv A outer s H vs Q E hr hG h => ?_)
  · obtain ⟨v, a, rfl, _⟩ := h
    rfl
  · obtain ⟨v, d, rfl, hv, hok, q⟩ := h
    refine ⟨_, (pss_cons (ps_if (PW.pt (pw_or (pt_not (pt_val (pe_callB call_isi (by rfl) TI.isinstance (by decide +kernel) (pa_cons (pv 0) (pa_cons (pe_bltn (v := .ty "tuple") (by rfl) T.tuple (by decide +kernel) rfl) pa_nil))))) (pw_or1 (pt_not (pt_chain opLt opLt pe_int (pe_callB callLen (by rfl) T.len PySem.boot_len (pa_cons (pv 0) pa_nil)) pe_int))))) (pss_one (ps_ret pe_bl)) pss_nil)
      (pss_one (ps_ret (pe_cmpR (op_eq0 hr) (pe_lcO (pe_lc (own := [("_law_atom_here", 1)]) rfl sc_l_is_fact.nd (piAny (pv 0)) (blkOk_by (own := [("_law_atom_here", 1)]) (N := ["_law_thing", "_law_atom_here"]) (sc := defScope s_l_is_fact) (by first | decide +kernel | kernel_rfl)) (fun _ _ _ _ _ => pg_name (i := 1) sc_l_is_fact.nd rfl (Or.inl rfl)) (fun _ _ _ _ _ => pts_one (pt_not (pt_val (pe_cG c_l_is_atom hr hG (by decide) rfl (pa_cons (pv 1) (pa_cons pe_int pa_nil)))))) (fun _ _ _ _ _ => pv 1))) (pe_lst pa_nil) (nomark _))))), ?_⟩
    refine ⟨_, rfl, v, .ty "tuple", _, _, _, rfl, .ty _, hv.ty, kit_ty (kit_tuple d), _, rfl, ?_⟩
    cases hs : isTupD d with
    | false =>
      refine iteT ?_
      rw [← factD_no hs]
      exact q _ (Ex.refl _)
    | true =>
      obtain ⟨ds, rfl⟩ := tup_of hs
      obtain ⟨p, xs, rfl, hp, hA⟩ := hv.tup_inv
      have hl := hA.len
      refine iteF ⟨_, rfl, .inl ⟨p, _, rfl, .inr (st_of hp), ?_⟩⟩
      have no : ¬ (1 ≤ ds.length ∧ ds.length ≤ 2) → Q (.bl false) H := fun hn => by
        have e : factD (.tuple ds) = false := by
          show (decide (1 ≤ ds.length) && (decide (ds.length ≤ 2) && _)) = false
          by_cases h1 : 1 ≤ ds.length
          · rw [decide_eq_false (show ¬ ds.length ≤ 2 from fun h => hn ⟨h1, h⟩), Bool.false_and, Bool.and_false]
          · rw [decide_eq_false h1, Bool.false_and]
        rw [← e]
        exact q _ (Ex.refl _)
      refine ⟨_, _, rfl, rfl, _, rfl, ite2 (fun h1 => ⟨_, _, rfl, rfl, _, rfl, ite2 (fun h2 => no ?_) (fun h2 => ?_)⟩) (fun h1 => ⟨_, rfl, ifT (by rfl) (no ?_)⟩)⟩
      · have z2 : ¬ ((xs.length : Int) < (3 : Int)) := by simpa using h2
        omega
      · have z1 : ((0 : Int) < (xs.length : Int)) := by simpa using h1
        have z2 : ((xs.length : Int) < (3 : Int)) := by simpa using h2
        refine .inr (.inl ⟨_, rfl, p, rfl, ⟨_, st_of hp⟩, ?_⟩)
        refine lcG (walk_tup (xs := xs)) (by omega) (st_of hp) (fun _ _ e h => ex_t e h) yAt_ex (fun i ys _ => ys.isEmpty = (ds.take i).all atomD) (fun _ _ _ _ _ h => h) rfl ?_ ?_
        · rintro i x H1 H2 ys hi e ⟨rfl, hx⟩ hy N N0 kN kN0
          obtain ⟨a, ha, hat⟩ := (DaAll.ex e ds hA).at hx
          have step : (ds.take (i + 1)).all atomD = ((ds.take i).all atomD && atomD a) := by
            rw [tk ha, List.all_append]
            show (_ && (_ && true)) = _
            rw [Bool.and_true]
          refine ⟨rfl, ?_⟩
          refine ⟨_, rfl, x, a, 1, rfl, hat, hok.memT (List.mem_of_getElem? ha), .inr rfl, fun H3 e3 => ⟨_, rfl, ?_⟩⟩
          show if (!lookD 1 a) = true then _ else _
          rw [show lookD 1 a = atomD a from rfl]
          cases haa : atomD a with
          | true =>
            refine iteF (kN0 _ e3 ?_)
            rw [step, haa, Bool.and_true]
            exact hy
          | false =>
            refine iteT ⟨_, rfl, kN _ _ e3 ?_⟩
            rw [step, haa, Bool.and_false, emp_snoc]
        · rintro l H1 ys hl1 e1 h1' _ hy
          refine ⟨by show 0 ≤ sizeLine; decide, fun n1 hn1 => ?_⟩
          generalize hq2 : upd H1 n1 _ = H2
          obtain ⟨e2, h2'⟩ := gen1 hq2 hn1
          refine ⟨l, n1, ys, rfl, rfl, sq_of (e2 _ _ h1'), sq_of h2', ?_⟩
          have e : ys.isEmpty = factD (.tuple ds) := by
            rw [hy, hl, List.take_length]
            show _ = (decide (1 ≤ ds.length) && (decide (ds.length ≤ 2) && ds.all atomD))
            rw [decide_eq_true (show 1 ≤ ds.length by omega), decide_eq_true (show ds.length ≤ 2 by omega)]
            rfl
          rw [e]
          exact q _ (e1.trans e2)
      · have z1 : ¬ ((0 : Int) < (xs.length : Int)) := by simpa using h1
        omega
theorem ok_l_is_row (T : Txt0 mg) (TI : TxtI K mg rel) (D : Df K mg "_law_is_row" s_l_is_row) (c_l_is_name : CalG P w K mg base 1 "_law_is_name" (spIs nmD)) (c_l_is_fact : CalG P w K mg base 3 "_law_is_fact" (spIs factD)) : CalG P w K mg base 4 "_law_is_row" (spIs rowD) := by
  refine cal_mk D sc_l_is_row (fun _ _ _ _ _ _ us hl => match us, hl with | [_], _ => rfl) (fun vs H Q E h => ?_) (fun f cdv A outer s H vs Q E hr hG h => ?_)
  · obtain ⟨v, a, rfl, _⟩ := h
    rfl
  · obtain ⟨v, d, rfl, hv, hok, q⟩ := h
    refine ⟨_, (pss_one (ps_ret (pe_and (pe_callB call_isi (by rfl) TI.isinstance (by decide +kernel) (pa_cons (pv 0) (pa_cons (pe_bltn (v := .ty "tuple") (by rfl) T.tuple (by decide +kernel) rfl) pa_nil))) (pe_and (pe_cmpR (opEq hr) (pe_callB callLen (by rfl) T.len PySem.boot_len (pa_cons (pv 0) pa_nil)) pe_int (nomark _)) (pe_and (pe_cG c_l_is_name hr hG (by decide) rfl (pa_cons (pe_ix ixAny (pv 0) pe_int (fun _ _ => rfl)) pa_nil)) (pe_one (pe_cG c_l_is_fact hr hG (by decide) rfl (pa_cons (pe_ix ixAny (pv 0) pe_int (fun _ _ => rfl)) pa_nil)))))))), ?_⟩
    refine ⟨_, rfl, v, .ty "tuple", _, _, _, rfl, .ty _, hv.ty, kit_ty (kit_tuple d), _, rfl, ?_⟩
    cases hs : isTupD d with
    | false =>
      refine iteF ?_
      rw [← rowD_no hs]
      exact q _ (Ex.refl _)
    | true =>
      obtain ⟨ds, rfl⟩ := tup_of hs
      obtain ⟨p, xs, rfl, hp, hA⟩ := hv.tup_inv
      have hl := hA.len
      refine iteT ⟨_, rfl, .inl ⟨p, _, rfl, .inr (st_of hp), .inl ⟨rfl, _, rfl, ?_⟩⟩⟩
      by_cases h2 : ds.length = 2
      · obtain ⟨x, y, a, b, rfl, rfl, ha, hb⟩ := two hA h2
        refine ifT (b := decide (V.int 2 = V.int 2)) (by decide +kernel) ?_
        refine ⟨_, rfl, .inr (.inl ⟨p, _, 0, _, rfl, rfl, st_of hp, atI_nat (j := 0) rfl, ?_⟩)⟩
        refine ⟨x, a, rfl, ha, hok.memT (by simp), fun H1 e1 => ⟨_, rfl, ?_⟩⟩
        cases r1 : nmD a with
        | false =>
          refine iteF ?_
          have e : rowD (.tuple [a, b]) = false := by show (nmD a && _) = false; rw [r1]; rfl
          rw [← e]
          exact q _ e1
        | true =>
          refine iteT ⟨_, rfl, .inr (.inl ⟨p, _, 1, _, rfl, rfl, st_of (e1 _ _ hp), atI_nat (j := 1) rfl, ?_⟩)⟩
          refine ⟨y, b, rfl, hb.ex e1, hok.memT (by simp), fun H2 e2 => ?_⟩
          have e : rowD (.tuple [a, b]) = factD b := by show (nmD a && factD b) = factD b; rw [r1]; rfl
          rw [← e]
          exact q _ (e1.trans e2)
      · have e0 : decide (V.int (xs.length : Int) = V.int ((2 : Nat) : Int)) = false := by rw [int_eq, decide_eq_false (by omega)]
        refine ifF (b := decide (V.int (xs.length : Int) = V.int ((2 : Nat) : Int))) e0 ?_
        rw [← rowD_len h2]
        exact q _ (Ex.refl _)end
end Own

namespace Own
open PySem PySem.Spec PyProof.Rows L2 Evl
/-! ### edits as data -/
def lenOf (z : Str) : Nat := if z = "put" then 4 else if z = "out" then 3 else if z = "call" then 4 else if z = "turn" then 3 else if z = "part" then 3 else if z = "more" then 5 else 0
def eqS (d : PyData) (w : Str) : Bool := match d with | .str z => decide (z = w) | _ => false
def natD : PyData → Bool | .int i => decide (0 ≤ i) | _ => false
def intD : PyData → Bool | .int _ => true | _ => false
def homeD : PyData → Bool | .str z => decide (z = "goal") || decide (z = "book") | _ => false
def sideD : PyData → Bool | .int i => decide (i = 0) || decide (i = 1) | _ => false
def restD (z : Str) : List PyData → Bool
  | [] => decide (z = "out") || (decide (z = "turn") || decide (z = "part"))
  | [x] => (decide (z = "put") && rowD x) || (decide (z = "call") && nmD x)
  | [x, y] => decide (z = "more") && (atomD x && sideD y)
  | _ => false
def editL : List PyData → Bool
  | .str z :: b :: c :: rest => homeD b && (natD c && restD z rest)
  | _ => false
def editD : PyData → Bool | .tuple ds => editL ds | _ => false
theorem editD_no {d : PyData} (h : isTupD d = false) : editD d = false := by cases d <;> first | rfl | cases h
theorem editL_len {ds : List PyData} (h : ¬ 3 ≤ ds.length) : editL ds = false := by
  match ds, h with
  | [], _ => rfl
  | [a], _ => cases a <;> rfl
  | [a, b], _ => cases a <;> rfl
  | _ :: _ :: _ :: r, h => exact absurd (Nat.le_add_left 3 r.length) h
theorem editL_str {a b c : PyData} {r : List PyData} (h : isStrD a = false) : editL (a :: b :: c :: r) = false := by cases a <;> first | rfl | cases h
theorem rest_len {z : Str} : ∀ {r : List PyData}, restD z r = true → r.length + 3 = lenOf z
  | [], h => by
    have h : (decide (z = "out") || (decide (z = "turn") || decide (z = "part"))) = true := h
    simp only [Bool.or_eq_true, decide_eq_true_eq] at h
    rcases h with rfl | rfl | rfl <;> decide +kernel
  | [x], h => by
    have h : ((decide (z = "put") && rowD x) || (decide (z = "call") && nmD x)) = true := h
    simp only [Bool.or_eq_true, Bool.and_eq_true, decide_eq_true_eq] at h
    rcases h with ⟨rfl, _⟩ | ⟨rfl, _⟩
    · show 1 + 3 = lenOf "put"; decide +kernel
    · show 1 + 3 = lenOf "call"; decide +kernel
  | [x, y], h => by
    have h : (decide (z = "more") && (atomD x && sideD y)) = true := h
    simp only [Bool.and_eq_true, decide_eq_true_eq] at h
    rw [h.1]
    show 2 + 3 = lenOf "more"
    decide +kernel
  | _ :: _ :: _ :: _, h => by cases h
theorem lenOf_words {z : Str} (h : lenOf z ≠ 0) : z = "put" ∨ z = "out" ∨ z = "call" ∨ z = "turn" ∨ z = "part" ∨ z = "more" := by
  unfold lenOf at h
  by_cases h1 : z = "put"
  · exact .inl h1
  rw [if_neg h1] at h
  by_cases h2 : z = "out"
  · exact .inr (.inl h2)
  rw [if_neg h2] at h
  by_cases h3 : z = "call"
  · exact .inr (.inr (.inl h3))
  rw [if_neg h3] at h
  by_cases h4 : z = "turn"
  · exact .inr (.inr (.inr (.inl h4)))
  rw [if_neg h4] at h
  by_cases h5 : z = "part"
  · exact .inr (.inr (.inr (.inr (.inl h5))))
  rw [if_neg h5] at h
  by_cases h6 : z = "more"
  · exact .inr (.inr (.inr (.inr (.inr h6))))
  rw [if_neg h6] at h
  exact absurd rfl h
theorem three_on {H : Hp} {xs : List V} {ds : List PyData} (h : DaAll H xs ds) (hl : 3 ≤ ds.length) : ∃ x y z xr a b c r, xs = x :: y :: z :: xr ∧ ds = a :: b :: c :: r ∧ Da H x a ∧ Da H y b ∧ Da H z c ∧ DaAll H xr r := by
  match ds, xs, h, hl with
  | a :: b :: c :: r, _, .cons h1 (.cons h2 (.cons h3 h4)), _ => exact ⟨_, _, _, _, _, _, _, _, rfl, rfl, h1, h2, h3, h4⟩
theorem one {H : Hp} {xs : List V} {ds : List PyData} (h : DaAll H xs ds) (hl : ds.length = 1) : ∃ x a, xs = [x] ∧ ds = [a] ∧ Da H x a := by
  match ds, xs, h, hl with
  | [a], _, .cons h1 .nil, _ => exact ⟨_, _, rfl, rfl, h1⟩
theorem nil_of {H : Hp} {xs : List V} {ds : List PyData} (h : DaAll H xs ds) (hl : ds.length = 0) : xs = [] ∧ ds = [] := by
  match ds, xs, h, hl with
  | [], _, .nil, _ => exact ⟨rfl, rfl⟩
theorem Da.int_inv {H : Hp} {v : V} {i : Int} (h : Da H v (.int i)) : v = .int i := by cases h; rfl
theorem str_dec (a b : Str) : decide (V.str a = V.str b) = decide (a = b) := by
  by_cases h : a = b
  · rw [h]
    simp
  · rw [decide_eq_false h, decide_eq_false (fun e => h (V.str.inj e))]
theorem home_in (z : Str) : inV (.str z) [.str "goal", .str "book"] = (decide (z = "goal") || decide (z = "book")) := by
  rw [show [V.str "goal", V.str "book"] = (["goal", "book"] : List Str).map V.str from rfl, in_strs]
  by_cases h1 : z = "goal" <;> by_cases h2 : z = "book" <;> simp [h1, h2]
theorem side_in (i : Int) : inV (.int i) [.int 0, .int 1] = (decide (i = 0) || decide (i = 1)) := by
  show ((0 : Int) == i || ((1 : Int) == i || false)) = _
  rw [Bool.or_false]
  congr 1
  · by_cases h : i = 0
    · rw [h]; rfl
    · rw [decide_eq_false h]
      exact beq_eq_false_iff_ne.mpr (fun e => h e.symm)
  · by_cases h : i = 1
    · rw [h]; rfl
    · rw [decide_eq_false h]
      exact beq_eq_false_iff_ne.mpr (fun e => h e.symm)
theorem homeD_no {d : PyData} (h : isStrD d = false) : homeD d = false := by cases d <;> first | rfl | cases h
structure TxtH (K : PySem.W.Frag) (w : World) (mg : Str → Option Value) (rel hom len : Addr) : Prop extends TxtI K mg rel where
  g_HOMES : mg "HOMES" = some (.ref hom)
  homs : ∀ H, SqT K H hom [.str "goal", .str "book"]
  g_LENGTHS : mg "LENGTHS" = some (.ref len)
  kd : IsKD K w len
  lens : ∀ z : Str, (∃ u, PySem.W.nsIn K len z = some (some u) ∧ RelV (.int (lenOf z : Nat)) u) ∨ (PySem.W.nsIn K len z = some none ∧ V.int (lenOf z : Nat) = .int 0)
abbrev s_is_integer : Stmt := top 4
theorem sc_is_integer : FnScope ["thing"] ["thing"] (defScope s_is_integer) := ⟨rfl, rfl, rfl, by decide +kernel, rfl, by decide +kernel, by decide +kernel⟩
abbrev s_is_home : Stmt := top 7
theorem sc_is_home : FnScope ["thing"] ["thing"] (defScope s_is_home) := ⟨rfl, rfl, rfl, by decide +kernel, rfl, by decide +kernel, by decide +kernel⟩
abbrev s_is_side : Stmt := top 14
theorem sc_is_side : FnScope ["thing"] ["thing"] (defScope s_is_side) := ⟨rfl, rfl, rfl, by decide +kernel, rfl, by decide +kernel, by decide +kernel⟩
abbrev s_is_edit : Stmt := top 15
theorem sc_is_edit : FnScope ["thing", "sort", "home", "at"] ["thing"] (defScope s_is_edit) := ⟨rfl, rfl, rfl, by decide +kernel, rfl, by decide +kernel, by decide +kernel⟩
section
variable {P : Program} {w : World} {K : PySem.W.Frag} {mg : Str → Option Value} {base : Heap} {rel hom len : Addr}
theorem ok_is_integer (T : Txt0 mg) (TI : TxtI K mg rel) (D : Df K mg "is_integer" s_is_integer) : CalG P w K mg base 1 "is_integer" (spIs intD) := by
  refine cal_mk D sc_is_integer (fun _ _ _ _ _ _ us hl => match us, hl with | [_], _ => rfl) (fun vs H Q E h => ?_) (fun f cdv A outer s H vs Q E hr hG h => ?_)
  · obtain ⟨v, d, rfl, _⟩ := h
    rfl
  · obtain ⟨v, d, rfl, hv, hok, q⟩ := h
    refine ⟨_, (pss_one (ps_ret (pe_and (pe_callB call_isi (by rfl) TI.isinstance (by decide +kernel) (pa_cons (pv 0) (pa_cons (pe_bltn (v := .ty "int") (by rfl) T.int (by decide +kernel) rfl) pa_nil))) (pe_one (pe_not (pe_callB call_isi (by rfl) TI.isinstance (by decide +kernel) (pa_cons (pv 0) (pa_cons (pe_bltn (v := .ty "bool") (by rfl) TI.bool (by decide +kernel) rfl) pa_nil)))))))), ?_⟩
    refine ⟨_, rfl, v, .ty "int", _, _, _, rfl, .ty _, hv.ty, kit_ty (kit_int d), _, rfl, ?_⟩
    cases hs : isIntD d with
    | false =>
      refine iteF ?_
      have e : intD d = false := by cases d <;> first | rfl | cases hs
      rw [← e]
      exact q _ (Ex.refl _)
    | true =>
      refine iteT ⟨_, rfl, v, .ty "bool", _, _, _, rfl, .ty _, hv.ty, kit_ty (kit_bool d), _, rfl, ?_⟩
      have e : (!isBoolD d) = intD d := by cases d <;> first | rfl | cases hs
      rw [e]
      exact q _ (Ex.refl _)
theorem ok_is_home (T : Txt0 mg) (TI : TxtH K w mg rel hom len) (D : Df K mg "is_home" s_is_home) : CalG P w K mg base 1 "is_home" (spIs homeD) := by
  refine cal_mk D sc_is_home (fun _ _ _ _ _ _ us hl => match us, hl with | [_], _ => rfl) (fun vs H Q E h => ?_) (fun f cdv A outer s H vs Q E hr hG h => ?_)
  · obtain ⟨v, d, rfl, _⟩ := h
    rfl
  · obtain ⟨v, d, rfl, hv, hok, q⟩ := h
    refine ⟨_, (pss_one (ps_ret (pe_and (pe_callB call_isi (by rfl) TI.isinstance (by decide +kernel) (pa_cons (pv 0) (pa_cons (pe_bltn (v := .ty "str") (by rfl) TI.str (by decide +kernel) rfl) pa_nil))) (pe_one (pe_cmpR opIn (pv 0) (pe_glob (v := .ref _) rfl TI.g_HOMES rfl) rfl))))), ?_⟩
    refine ⟨_, rfl, v, .ty "str", _, _, _, rfl, .ty _, hv.ty, kit_ty (kit_str d), _, rfl, ?_⟩
    cases hs : isStrD d with
    | false =>
      refine iteF ?_
      rw [← homeD_no hs]
      exact q _ (Ex.refl _)
    | true =>
      obtain ⟨z, rfl⟩ := str_of hs
      have ev := hv.str_inv
      subst ev
      refine iteT ⟨_, rfl, .inl ⟨hom, _, rfl, .inr (TI.homs H), rfl, rfl, ?_⟩⟩
      show Q (.bl (inV (.str z) [.str "goal", .str "book"])) H
      rw [home_in]
      exact q _ (Ex.refl _)
theorem ok_is_side (T : Txt0 mg) (D : Df K mg "is_side" s_is_side) (c_is_integer : CalG P w K mg base 1 "is_integer" (spIs intD)) : CalG P w K mg base 2 "is_side" (spIs sideD) := by
  refine cal_mk D sc_is_side (fun _ _ _ _ _ _ us hl => match us, hl with | [_], _ => rfl) (fun vs H Q E h => ?_) (fun f cdv A outer s H vs Q E hr hG h => ?_)
  · obtain ⟨v, d, rfl, _⟩ := h
    rfl
  · obtain ⟨v, d, rfl, hv, hok, q⟩ := h
    refine ⟨_, (pss_one (ps_ret (pe_and (pe_cG c_is_integer hr hG (by decide) rfl (pa_cons (pv 0) pa_nil)) (pe_one (pe_cmpR opIn (pv 0) (pe_tup (pa_cons pe_int (pa_cons pe_int pa_nil))) rfl))))), ?_⟩
    refine ⟨_, rfl, v, d, rfl, hv, hok, fun H1 e1 => ⟨_, rfl, ?_⟩⟩
    cases hi : intD d with
    | false =>
      refine iteF ?_
      rw [← show sideD d = false from by cases d <;> first | rfl | cases hi]
      exact q _ e1
    | true =>
      obtain ⟨i, rfl⟩ : ∃ i, d = .int i := by cases d <;> first | exact ⟨_, rfl⟩ | cases hi
      have := hv.int_inv
      subst this
      refine iteT ⟨_, rfl, by show 2 ≤ sizeLine; decide, fun t ht => ?_⟩
      generalize hq2 : upd H1 t _ = H2
      obtain ⟨e2, h2⟩ := gen1 hq2 ht
      refine .inl ⟨t, _, rfl, .inr (st_of h2), rfl, rfl, ?_⟩
      show Q (.bl (inV (.int i) [.int 0, .int 1])) H2
      rw [side_in]
      exact q _ (e1.trans e2)
theorem ok_is_edit (T : Txt0 mg) (TI : TxtH K w mg rel hom len) (D : Df K mg "is_edit" s_is_edit) (c_is_name : CalG P w K mg base 1 "is_name" (spIs nmD)) (c_is_home : CalG P w K mg base 1 "is_home" (spIs homeD)) (c_is_integer : CalG P w K mg base 1 "is_integer" (spIs intD)) (c_is_row : CalG P w K mg base 4 "is_row" (spIs rowD)) (c_is_atom : CalG P w K mg base 2 "is_atom" (spIs atomD)) (c_is_side : CalG P w K mg base 2 "is_side" (spIs sideD)) :
    CalG P w K mg base 5 "is_edit" (spIs editD) := by
  refine cal_mk D sc_is_edit (fun _ _ _ _ _ _ us hl => match us, hl with | [_], _ => rfl) (fun vs H Q E h => ?_) (fun f cdv A outer s H vs Q E hr hG h => ?_)
  · obtain ⟨v, a, rfl, _⟩ := h
    rfl
  · obtain ⟨v, d, rfl, hv, hok, q⟩ := h
    refine ⟨_, (pss_cons (ps_if (PW.pt (pw_or (pt_not (pt_val (pe_callB call_isi (by rfl) TI.isinstance (by decide +kernel) (pa_cons (pv 0) (pa_cons (pe_bltn (v := .ty "tuple") (by rfl) T.tuple (by decide +kernel) rfl) pa_nil))))) (pw_or (pt_cmpR opLt (pe_callB callLen (by rfl) T.len PySem.boot_len (pa_cons (pv 0) pa_nil)) pe_int (nomark _)) (pw_or1 (pt_not (pt_val (pe_callB call_isi (by rfl) TI.isinstance (by decide +kernel) (pa_cons (pe_ix ixAny (pv 0) pe_int (fun _ _ => rfl)) (pa_cons (pe_bltn (v := .ty "str") (by rfl) TI.str (by decide +kernel) rfl) pa_nil))))))))) (pss_one (ps_ret pe_bl)) pss_nil)
      (pss_cons (ps_asg (pe_slice slAny (pv 0) po_none (po_some pe_int)) (pg_tup rfl (pgs_cons (pg_name (i := 1) sc_is_edit.nd rfl (Or.inl rfl)) (pgs_cons (pg_name (i := 2) sc_is_edit.nd rfl (Or.inl rfl)) (pgs_cons (pg_name (i := 3) sc_is_edit.nd rfl (Or.inl rfl)) pgs_nil)))))
      (pss_cons (ps_if (PW.pt (pw_or (pt_cmpR (opNe hr) (pe_callB callLen (by rfl) T.len PySem.boot_len (pa_cons (pv 0) pa_nil)) (pe_kget2 (pe_glob (v := .ref _) rfl TI.g_LENGTHS rfl) (pv 1) pe_int ⟨rfl, rfl, rfl, rfl⟩) (nomark _)) (pw_or (pt_not (pt_val (pe_cG c_is_home hr hG (by decide) rfl (pa_cons (pv 2) pa_nil)))) (pw_or (pt_not (pt_val (pe_cG c_is_integer hr hG (by decide) rfl (pa_cons (pv 3) pa_nil)))) (pw_or1 (pt_cmpR opLt (pv 3) pe_int (nomark _))))))) (pss_one (ps_ret pe_bl)) pss_nil)
      (pss_cons (ps_if (pt_cmpR (opEq hr) (pv 1) pe_str (nomark _)) (pss_one (ps_ret (pe_cG c_is_row hr hG (by decide) rfl (pa_cons (pe_ix ixAny (pv 0) pe_int (fun _ _ => rfl)) pa_nil)))) pss_nil)
      (pss_cons (ps_if (pt_cmpR (opEq hr) (pv 1) pe_str (nomark _)) (pss_one (ps_ret (pe_cG c_is_name hr hG (by decide) rfl (pa_cons (pe_ix ixAny (pv 0) pe_int (fun _ _ => rfl)) pa_nil)))) pss_nil)
      (pss_one (ps_ret (pe_or (pe_cmpR (opNe hr) (pv 1) pe_str (nomark _)) (pe_one (pe_and (pe_cG c_is_atom hr hG (by decide) rfl (pa_cons (pe_ix ixAny (pv 0) pe_int (fun _ _ => rfl)) pa_nil)) (pe_one (pe_cG c_is_side hr hG (by decide) rfl (pa_cons (pe_ix ixAny (pv 0) pe_int (fun _ _ => rfl)) pa_nil))))))))))))), ?_⟩
    refine ⟨_, rfl, v, .ty "tuple", _, _, _, rfl, .ty _, hv.ty, kit_ty (kit_tuple d), _, rfl, ?_⟩
    cases hs : isTupD d with
    | false =>
      refine iteT ?_
      rw [← editD_no hs]
      exact q _ (Ex.refl _)
    | true =>
      obtain ⟨ds, rfl⟩ := tup_of hs
      obtain ⟨p, xs, rfl, hp, hA⟩ := hv.tup_inv
      have hl := hA.len
      refine iteF ⟨_, rfl, .inl ⟨p, _, rfl, .inr (st_of hp), ⟨_, _, rfl, rfl, _, rfl, ?_⟩⟩⟩
      by_cases h3 : 3 ≤ ds.length
      · refine ifF (decide_eq_false (by omega)) ?_
        obtain ⟨x, y, z, xr, a, b, c, r, rfl, rfl, ha, hb, hc, hR⟩ := three_on hA h3
        have hlr := hR.len
        refine ⟨_, rfl, .inr (.inl ⟨p, _, 0, _, rfl, rfl, st_of hp, atI_nat (j := 0) rfl, ?_⟩)⟩
        refine ⟨x, .ty "str", _, _, _, rfl, .ty _, ha.ty, kit_ty (kit_str a), _, rfl, ?_⟩
        cases hsa : isStrD a with
        | false =>
          refine iteT ?_
          have e : editD (.tuple (a :: b :: c :: r)) = false := editL_str hsa
          rw [← e]
          exact q _ (Ex.refl _)
        | true =>
          obtain ⟨s0, rfl⟩ := str_of hsa
          have := ha.str_inv
          subst this
          have okb := hok.memT (d := b) (by simp)
          have okc := hok.memT (d := c) (by simp)
          have e : editD (.tuple (.str s0 :: b :: c :: r)) = (homeD b && (natD c && restD s0 r)) := rfl
          rw [e] at q
          refine iteF ⟨_, rfl, 3, rfl, ?_⟩
          refine sl_toG (j := 3) hp fun t H1 e1 h1 => ?_
          have hp1 := e1 _ _ hp
          refine ⟨t, _, rfl, st_of h1, rfl, _, _, rfl, _, _, rfl, _, _, rfl, rfl, ?_⟩
          refine ⟨_, rfl, .inl ⟨p, _, rfl, .inr (st_of hp1), ?_⟩⟩
          refine ⟨len, rfl, TI.kd, _, rfl, s0, .int (lenOf s0 : Nat), rfl, TI.lens s0, ?_⟩
          refine .inl ⟨rfl, _, rfl, ?_⟩
          by_cases hlen : r.length + 3 = lenOf s0
          · refine ifF (b := !decide (V.int ((V.str s0 :: y :: z :: xr).length : Int) = V.int ((lenOf s0 : Nat) : Int))) (by rw [int_ne, decide_eq_true (by rw [List.length_cons, List.length_cons, List.length_cons]; omega)]; rfl) ?_
            refine ⟨_, rfl, y, b, rfl, Da.ex e1 _ hb, okb, fun H2 e2 => ⟨_, rfl, ?_⟩⟩
            cases hho : homeD b with
            | false =>
              rw [hho] at q
              exact iteT (q _ (e1.trans e2))
            | true =>
              rw [hho] at q
              refine iteF ⟨_, rfl, z, c, rfl, Da.ex (e1.trans e2) _ hc, okc, fun H3 e3 => ⟨_, rfl, ?_⟩⟩
              have e13 := (e1.trans e2).trans e3
              cases hi : intD c with
              | false =>
                rw [show natD c = false from by cases c <;> first | rfl | cases hi] at q
                exact iteT (q _ e13)
              | true =>
                obtain ⟨i, rfl⟩ : ∃ i, c = .int i := by cases c <;> first | exact ⟨_, rfl⟩ | cases hi
                have := hc.int_inv
                subst this
                refine iteF ⟨_, rfl, i, 0, rfl, rfl, _, rfl, ?_⟩
                by_cases hi0 : i < 0
                · refine ifT (decide_eq_true hi0) ?_
                  rw [show natD (.int i) = false from decide_eq_false (by omega)] at q
                  exact q _ e13
                · refine ifF (decide_eq_false hi0) ?_
                  rw [show natD (.int i) = true from decide_eq_true (by omega), Bool.true_and, Bool.true_and] at q
                  have hp3 := e13 _ _ hp
                  have hR3 := DaAll.ex e13 _ hR
                  have okr : ∀ g ∈ r, okD 40 16000000 g := fun g hg => hok.memT (by simp [hg])
                  refine ⟨_, rfl, .inl ⟨rfl, _, rfl, ?_⟩⟩
                  rw [str_dec]
                  by_cases z1 : s0 = "put"
                  · subst z1
                    obtain ⟨x3, g, rfl, rfl, hg⟩ := one hR3 (by have h9 : lenOf "put" = 4 := (by decide +kernel); omega)
                    rw [decide_eq_true rfl]
                    refine iteT ⟨_, rfl, .inr (.inl ⟨p, _, 3, _, rfl, rfl, st_of hp3, atI_nat (j := 3) rfl, ?_⟩)⟩
                    refine ⟨x3, g, rfl, hg, okr g (by simp), fun H4 e4 => ?_⟩
                    rw [show restD "put" [g] = rowD g from by
                      show ((true && rowD g) || (decide (("put" : Str) = "call") && nmD g)) = _
                      rw [show decide (("put" : Str) = "call") = false from by decide, Bool.true_and, Bool.false_and, Bool.or_false]] at q
                    exact q _ (e13.trans e4)
                  · rw [decide_eq_false z1]
                    refine iteF ⟨_, rfl, .inl ⟨rfl, _, rfl, ?_⟩⟩
                    rw [str_dec]
                    by_cases z2 : s0 = "call"
                    · subst z2
                      obtain ⟨x3, g, rfl, rfl, hg⟩ := one hR3 (by have h9 : lenOf "call" = 4 := (by decide +kernel); omega)
                      rw [decide_eq_true rfl]
                      refine iteT ⟨_, rfl, .inr (.inl ⟨p, _, 3, _, rfl, rfl, st_of hp3, atI_nat (j := 3) rfl, ?_⟩)⟩
                      refine ⟨x3, g, rfl, hg, okr g (by simp), fun H4 e4 => ?_⟩
                      rw [show restD "call" [g] = nmD g from by
                        show ((decide (("call" : Str) = "put") && rowD g) || (true && nmD g)) = _
                        rw [show decide (("call" : Str) = "put") = false from by decide, Bool.true_and, Bool.false_and, Bool.false_or]] at q
                      exact q _ (e13.trans e4)
                    · rw [decide_eq_false z2]
                      refine iteF ⟨_, rfl, .inl ⟨rfl, _, rfl, ?_⟩⟩
                      rw [str_dec]
                      by_cases z3 : s0 = "more"
                      · subst z3
                        obtain ⟨x3, x4, g, g2, rfl, rfl, hg, hg2⟩ := two hR3 (by have h9 : lenOf "more" = 5 := (by decide +kernel); omega)
                        rw [decide_eq_true rfl]
                        refine iteF ⟨_, rfl, .inr (.inl ⟨p, _, 3, _, rfl, rfl, st_of hp3, atI_nat (j := 3) rfl, ?_⟩)⟩
                        refine ⟨x3, g, rfl, hg, okr g (by simp), fun H4 e4 => ⟨_, rfl, ?_⟩⟩
                        rw [show restD "more" [g, g2] = (atomD g && sideD g2) from rfl] at q
                        cases hag : atomD g with
                        | false =>
                          rw [hag] at q
                          exact iteF (q _ (e13.trans e4))
                        | true =>
                          rw [hag] at q
                          refine iteT ⟨_, rfl, .inr (.inl ⟨p, _, 4, _, rfl, rfl, st_of (e4 _ _ hp3), atI_nat (j := 4) rfl, ?_⟩)⟩
                          refine ⟨x4, g2, rfl, Da.ex e4 _ hg2, okr g2 (by simp), fun H5 e5 => ?_⟩
                          exact q _ ((e13.trans e4).trans e5)
                      · rw [decide_eq_false z3]
                        refine iteT ?_
                        have hw := lenOf_words (z := s0) (by omega)
                        have hz : s0 = "out" ∨ s0 = "turn" ∨ s0 = "part" := by
                          rcases hw with h | h | h | h | h | h
                          · exact absurd h z1
                          · exact .inl h
                          · exact absurd h z2
                          · exact .inr (.inl h)
                          · exact .inr (.inr h)
                          · exact absurd h z3
                        have hl3 : lenOf s0 = 3 := by rcases hz with rfl | rfl | rfl <;> decide +kernel
                        obtain ⟨rfl, rfl⟩ := nil_of hR3 (by omega)
                        rw [show restD s0 [] = true from by rcases hz with rfl | rfl | rfl <;> decide +kernel] at q
                        exact q _ e13
          · refine ifT (b := !decide (V.int ((V.str s0 :: y :: z :: xr).length : Int) = V.int ((lenOf s0 : Nat) : Int))) (by rw [int_ne, decide_eq_false (by rw [List.length_cons, List.length_cons, List.length_cons]; omega)]; rfl) ?_
            have hrf : restD s0 r = false := by
              cases hrr : restD s0 r with
              | false => rfl
              | true => exact absurd (rest_len hrr) hlen
            rw [hrf, Bool.and_false, Bool.and_false] at q
            exact q _ e1
      · refine ifT (decide_eq_true (by omega)) ?_
        have e : editD (.tuple ds) = false := editL_len h3
        rw [← e]
        exact q _ (Ex.refl _)
end
end Own

namespace Own
open PySem PySem.Spec PyProof.Rows L2 Evl
abbrev s_l_odd : Stmt := top 31
theorem sc_l_odd : FnScope ["_law_bag_here", "_law_some_here"] ["_law_bag_here"] (defScope s_l_odd) := ⟨rfl, rfl, rfl, by decide +kernel, rfl, by decide +kernel, by decide +kernel⟩
abbrev s_l_spoilt : Stmt := top 32
theorem sc_l_spoilt : FnScope ["_law_bag_here", "_law_thing", "_law_manner", "_law_at", "_law_found"] ["_law_bag_here", "_law_thing"] (defScope s_l_spoilt) := ⟨rfl, rfl, rfl, by decide +kernel, rfl, by decide +kernel, by decide +kernel⟩
def oddL : List PyData := [.none, .int 5, .str "a", .str "", .tuple [], .list [], .dict [], .tuple [.str "eq"], .bool true, .int (10 ^ (39 : Int).toNat), .list [.none], .tuple [.str "name", .str "a"], .str "eq", .int (-1), .tuple [.int 0, .int 1]] ++ [.str "a1", .str "aB", .str "a_", .str "a{", .str "a\n"] ++ [.dict [(.str "a", .int 1)], .str "ab b", .str "abcdefghi", .tuple [.str "last"], .tuple [.str "", .str "", .str ""]]
theorem odd_tab : (oddL.all fun d => gD d && (decide (d.depth ≤ 1) && decide (wd d ≤ 4000))) = true := by decide +kernel
theorem odd_ok {d : PyData} (h : d ∈ oddL) : okD 1 4000 d := by
  have z := List.all_eq_true.mp odd_tab d h
  simp only [Bool.and_eq_true, decide_eq_true_eq] at z
  exact ⟨z.1, z.2.1, z.2.2⟩
theorem dict_gen {H H1 H2 : Hp} {d : Addr} {o2 : HO} (hq : upd H1 d o2 = H2) (e : Ex H H1) (hd : H d = none) : Ex H H2 ∧ H2 d = some o2 := by
  subst hq
  exact ⟨Ex.mut e hd, upd_same⟩
/-- a list or a tuple -/
def ConAt (A : Addr → Prop) (H : Hp) (v : V) (d : PyData) (p : Addr) (xs : List V) (ds : List PyData) : Prop := v = .ref p ∧ ((H p = some (.lst xs) ∧ d = .list ds) ∨ (H p = some (.tup xs) ∧ d = .tuple ds)) ∧ DaAA A H xs ds
theorem con_of {A : Addr → Prop} {H : Hp} {v : V} {d : PyData} (h : DaA A H v d) (hc : (isTupD d || isLstD d) = true) : ∃ p xs ds, ConAt A H v d p xs ds := by
  cases h with
  | lst h0 h1 h2 => exact ⟨_, _, _, rfl, .inl ⟨h1, rfl⟩, h2⟩
  | tup h0 h1 h2 => exact ⟨_, _, _, rfl, .inr ⟨h1, rfl⟩, h2⟩
  | non => cases hc
  | bl b => cases hc
  | int i => cases hc
  | str z => cases hc
  | dct h0 h1 h2 => cases hc
section
variable {A : Addr → Prop} {K : PySem.W.Frag} {H : Hp} {v : V} {d : PyData} {p : Addr} {xs : List V} {ds : List PyData}
theorem ConAt.sq (h : ConAt A H v d p xs ds) : SqL K H p xs ∨ SqT K H p xs := by
  rcases h.2.1 with h | h
  · exact .inl (sq_of h.1)
  · exact .inr (st_of h.1)
theorem ConAt.ex {H' : Hp} (e : Ex H H') (h : ConAt A H v d p xs ds) : ConAt A H' v d p xs ds := by
  obtain ⟨h1, h2, h3⟩ := h
  refine ⟨h1, ?_, DaAA.move (fun a o _ q => e a o q) (fun _ q => q) ds h3⟩
  rcases h2 with h2 | h2
  · exact .inl ⟨e _ _ h2.1, h2.2⟩
  · exact .inr ⟨e _ _ h2.1, h2.2⟩
theorem ConAt.lst (h : ConAt A H v d p xs ds) : TyX K H v (.type (tyD d)) := by
  obtain ⟨rfl, h2, _⟩ := h
  rcases h2 with ⟨h2, rfl⟩ | ⟨h2, rfl⟩
  · exact .base (.lst h2)
  · exact .base (.tup h2)
theorem ConAt.ok (h : ConAt A H v d p xs ds) {n W : Nat} (k : okD n W d) : gDs ds = true ∧ PyData.depthAll ds + 1 ≤ n ∧ wds ds + 3 ≤ W := by
  rcases h.2.1 with ⟨_, rfl⟩ | ⟨_, rfl⟩
  · exact k
  · exact k
end
/-- sizes of a list's items -/
def okDs (n W : Nat) (ds : List PyData) : Prop := gDs ds = true ∧ PyData.depthAll ds ≤ n ∧ wds ds ≤ W
theorem okDs.list {n W : Nat} {ds : List PyData} (h : okDs n W ds) : okD (n + 1) (W + 3) (.list ds) := ⟨h.1, Nat.succ_le_succ h.2.1, Nat.add_le_add_right h.2.2 3⟩
theorem okDs.tup {n W : Nat} {ds : List PyData} (h : okDs n W ds) : okD (n + 1) (W + 3) (.tuple ds) := ⟨h.1, Nat.succ_le_succ h.2.1, Nat.add_le_add_right h.2.2 3⟩
theorem okDs.mono {n W n' W' : Nat} {ds : List PyData} (h : okDs n W ds) (h1 : n ≤ n') (h2 : W ≤ W') : okDs n' W' ds := ⟨h.1, Nat.le_trans h.2.1 h1, Nat.le_trans h.2.2 h2⟩
theorem wds_set : ∀ {ds : List PyData} {i : Nat} {x y : PyData}, ds[i]? = some x → wds (ds.set i y) + wd x = wds ds + wd y
  | _ :: xs, 0, _, y, h => by
    cases h
    show wd y + 2 + wds xs + wd _ = wd _ + 2 + wds xs + wd y
    omega
  | z :: xs, i + 1, x, y, h => by
    have q := wds_set (ds := xs) (i := i) (y := y) h
    show wd z + 2 + wds (xs.set i y) + wd x = wd z + 2 + wds xs + wd y
    omega
theorem okDs.set {n W V : Nat} {ds : List PyData} {i : Nat} {x y : PyData} (h : okDs n W ds) (hx : ds[i]? = some x) (hy : gD y = true) (hd : y.depth ≤ n) (hw : W + wd y ≤ V + wd x) : okDs n V (ds.set i y) := by
  obtain ⟨h1, h2, h3⟩ := h
  refine ⟨gDs_iff.mpr fun d hm => ?_, depthAll_le.mpr fun d hm => ?_, ?_⟩
  · rcases List.mem_or_eq_of_mem_set hm with q | q
    · exact gDs_iff.mp h1 d q
    · rw [q]; exact hy
  · rcases List.mem_or_eq_of_mem_set hm with q | q
    · exact depthAll_le.mp h2 d q
    · rw [q]; exact hd
  · have := wds_set (y := y) hx
    omega
theorem erase_eq {α : Type} : ∀ (l : List α) (i : Nat), l.eraseIdx i = l.take i ++ l.drop (i + 1)
  | [], _ => by simp
  | _ :: _, 0 => rfl
  | x :: xs, i + 1 => by
    show x :: xs.eraseIdx i = x :: (xs.take i ++ xs.drop (i + 1))
    rw [erase_eq xs i]
theorem okDs.sub {n W : Nat} {ds es : List PyData} (h : okDs n W ds) (hm : ∀ d ∈ es, d ∈ ds) (hw : wds es ≤ W) : okDs n W es :=
  ⟨gDs_iff.mpr fun d hd => gDs_iff.mp h.1 d (hm d hd), depthAll_le.mpr fun d hd => depthAll_le.mp h.2.1 d (hm d hd), hw⟩
theorem kit_tl {K : PySem.W.Frag} (d : PyData) : PySem.W.kitAny K (.type (tyD d)) [.type "tuple", .type "list"] = some (isTupD d || isLstD d) := by
  refine kitAny_cons (kit_ty (kit_tuple d)) (fun e => ?_) (fun e => by rw [e]; rfl)
  rw [e, Bool.false_or]
  exact kitAny_cons (kit_ty (kit_list d)) (fun e => by rw [e]; exact kitAny_nil) (fun e => by rw [e])
section
variable {P : Program} {w : World} {K : PySem.W.Frag} {mg : Str → Option Value} {base : Heap} {rel : Addr}
def spOdd : Sp := fun vs H Q _ => ∃ (b : Addr), vs = [.ref b] ∧ BagAt H b ∧ ∀ (H' : Hp) (v : V) (d : PyData), Ex H H' → DaA (fun a => H a = none) H' v d → okD 1 4000 d → Q v H'
theorem ok_odd (T : Txt0 mg) (D : Df K mg "_law_odd" s_l_odd) (c_l_some : CalG P w K mg base 2 "_law_some" (spSome K)) : CalG P w K mg base 3 "_law_odd" spOdd := by
  refine cal_mk D sc_l_odd (fun _ _ _ _ _ _ us hl => match us, hl with | [_], _ => rfl) (fun vs H Q E h => ?_) (fun f cdv A outer s H vs Q E hr hG h => ?_)
  · obtain ⟨b, rfl, _⟩ := h
    rfl
  · obtain ⟨b, rfl, hb, q⟩ := h
    refine ⟨_, (pss_cons (ps_set (i := 1) sc_l_odd.nd rfl (Or.inl rfl) (pe_lst (pa_cons pe_non (pa_cons pe_int (pa_cons pe_str (pa_cons pe_str (pa_cons (pe_tup pa_nil) (pa_cons (pe_lst pa_nil) (pa_cons pe_dnewK (pa_cons (pe_tup (pa_cons pe_str pa_nil)) (pa_cons pe_bl (pa_cons (pe_op op_pow pe_int pe_int) (pa_cons (pe_lst (pa_cons pe_non pa_nil)) (pa_cons (pe_tup (pa_cons pe_str (pa_cons pe_str pa_nil))) (pa_cons pe_str (pa_cons (pe_un un_neg pe_int) (pa_cons (pe_tup (pa_cons pe_int (pa_cons pe_int pa_nil))) pa_nil)))))))))))))))))
      (pss_cons (ps_set (i := 1) sc_l_odd.nd rfl (Or.inl rfl) (pe_op opAdd (pv 1) (pe_lst (pa_cons pe_str (pa_cons pe_str (pa_cons pe_str (pa_cons pe_str (pa_cons pe_str pa_nil))))))))
      (pss_one (ps_ret (pe_cG c_l_some hr hG (by decide) rfl (pa_cons (pv 0) (pa_cons (pe_op opAdd (pv 1) (pe_lst (pa_cons (pe_disp (pps_cons pe_str pe_int pps_nil) (by rfl) (by rfl) (fun z => by cases z) (by decide)) (pa_cons pe_str (pa_cons pe_str (pa_cons (pe_tup (pa_cons pe_str pa_nil)) (pa_cons (pe_tup (pa_cons pe_str (pa_cons pe_str (pa_cons pe_str pa_nil)))) pa_nil))))))) pa_nil))))))), ?_⟩
    refine ⟨by show 0 ≤ sizeLine; decide, fun t1 n1 => ?_⟩
    generalize hq1 : upd H t1 _ = H1
    obtain ⟨e1, h1⟩ := gen1 hq1 n1
    refine ⟨by show 0 ≤ sizeLine; decide, fun l1 n2 => ?_⟩
    generalize hq2 : upd H1 l1 _ = H2
    obtain ⟨e2, h2⟩ := gen1 hq2 n2
    refine fun d1 n3 => ?_
    generalize hq3 : upd H2 d1 _ = H3
    obtain ⟨e3, h3⟩ := gen1 hq3 n3
    obtain ⟨H4, hq4⟩ : ∃ H4, H3 = H4 := ⟨_, rfl⟩
    subst hq4
    have e4 := e3
    have h4 := h3
    refine ⟨by show 1 ≤ sizeLine; decide, fun t2 n5 => ?_⟩
    generalize hq5 : upd H3 t2 _ = H5
    obtain ⟨e5, h5⟩ := gen1 hq5 n5
    refine ⟨10, 39, rfl, rfl, ⟨by decide, by decide, by decide⟩, ?_⟩
    refine ⟨by show 1 ≤ sizeLine; decide, fun l2 n6 => ?_⟩
    generalize hq6 : upd H5 l2 _ = H6
    obtain ⟨e6, h6⟩ := gen1 hq6 n6
    refine ⟨by show 2 ≤ sizeLine; decide, fun t3 n7 => ?_⟩
    generalize hq7 : upd H6 t3 _ = H7
    obtain ⟨e7, h7⟩ := gen1 hq7 n7
    refine ⟨1, rfl, ?_⟩
    refine ⟨by show 2 ≤ sizeLine; decide, fun t4 n8 => ?_⟩
    generalize hq8 : upd H7 t4 _ = H8
    obtain ⟨e8, h8⟩ := gen1 hq8 n8
    refine ⟨by show 15 ≤ sizeLine; decide, fun l3 n9 => ?_⟩
    generalize hq9 : upd H8 l3 _ = H9
    obtain ⟨e9, h9⟩ := gen1 hq9 n9
    refine ⟨_, rfl, ?_⟩
    refine ⟨by show 5 ≤ sizeLine; decide, fun l4 n10 => ?_⟩
    generalize hq10 : upd H9 l4 _ = H10
    obtain ⟨e10, h10⟩ := gen1 hq10 n10
    refine .inr (.inr (.inl ⟨l3, l4, _, _, rfl, rfl, e10 _ _ h9, h10, by show 15 + 5 ≤ sizeLine; decide, fun l5 n11 => ?_⟩))
    generalize hq11 : upd H10 l5 _ = H11
    obtain ⟨e11, h11⟩ := gen1 hq11 n11
    refine ⟨_, rfl, _, rfl, ?_⟩
    refine fun d2 n12 => ?_
    generalize hq12 : upd H11 d2 _ = H12
    obtain ⟨e12, h12⟩ := gen1 hq12 n12
    refine ⟨h12, [(Sum.inr "a", .int 1)], rfl, by show 1 ≤ 15; decide, ?_⟩
    generalize hq13 : upd H12 d2 _ = H13
    obtain ⟨e13, h13⟩ := dict_gen hq13 e12 n12
    refine ⟨by show 1 ≤ sizeLine; decide, fun t5 n14 => ?_⟩
    generalize hq14 : upd H13 t5 _ = H14
    obtain ⟨e14, h14⟩ := gen1 hq14 n14
    refine ⟨by show 3 ≤ sizeLine; decide, fun t6 n15 => ?_⟩
    generalize hq15 : upd H14 t6 _ = H15
    obtain ⟨e15, h15⟩ := gen1 hq15 n15
    refine ⟨by show 5 ≤ sizeLine; decide, fun l6 n16 => ?_⟩
    generalize hq16 : upd H15 l6 _ = H16
    obtain ⟨e16, h16⟩ := gen1 hq16 n16
    have e1116 := ((e13.trans e14).trans e15).trans e16
    refine .inr (.inr (.inl ⟨l5, l6, _, _, rfl, rfl, e1116 _ _ h11, h16, by show 20 + 5 ≤ sizeLine; decide, fun l7 n17 => ?_⟩))
    generalize hq17 : upd H16 l7 _ = H17
    obtain ⟨e17, h17⟩ := gen1 hq17 n17
    have f15 := e16.trans e17
    have f14 := e15.trans f15
    have f13 := e14.trans f14
    have f8 := (((e9.trans e10).trans e11).trans e13).trans f13
    have f7 := e8.trans f8
    have f6 := e7.trans f7
    have f5 := e6.trans f6
    have f4 := e5.trans f5
    have f2 := e4.trans f4
    have f1 := e2.trans f2
    have f0 := e1.trans f1
    have b13 := (((e4.trans e5).trans e6).trans e7).trans e8
    have m1 : H t1 = none := n1
    have m2 : H l1 = none := none_of e1 n2
    have m3 : H d1 = none := none_of (e1.trans e2) n3
    have m5 : H t2 = none := none_of ((e1.trans e2).trans e4) n5
    have m6 : H l2 = none := none_of (((e1.trans e2).trans e4).trans e5) n6
    have m7 : H t3 = none := none_of ((((e1.trans e2).trans e4).trans e5).trans e6) n7
    have m8 : H t4 = none := none_of (((((e1.trans e2).trans e4).trans e5).trans e6).trans e7) n8
    have u11 := ((((e1.trans e2).trans b13).trans e9).trans e10).trans e11
    have m12 : H d2 = none := none_of u11 n12
    have m14 : H t5 = none := none_of (u11.trans e13) n14
    have m15 : H t6 = none := none_of ((u11.trans e13).trans e14) n15
    have all : DaAA (fun a => H a = none) H17 _ oddL := DaAA.app (DaAA.app
      (.cons .non (.cons (.int 5) (.cons (.str "a") (.cons (.str "") (.cons (.tup m1 (f1 _ _ h1) .nil) (.cons (.lst m2 (f2 _ _ h2) .nil) (.cons (.dct (kv := []) m3 (f4 _ _ h3) rfl) (.cons (.tup m5 (f5 _ _ h5) (.cons (.str "eq") .nil)) (.cons (.bl true) (.cons (.int _)
        (.cons (.lst m6 (f6 _ _ h6) (.cons .non .nil)) (.cons (.tup m7 (f7 _ _ h7) (.cons (.str "name") (.cons (.str "a") .nil))) (.cons (.str "eq") (.cons (.int (-1)) (.cons (.tup m8 (f8 _ _ h8) (.cons (.int 0) (.cons (.int 1) .nil))) .nil)))))))))))))))
      (.cons (.str "a1") (.cons (.str "aB") (.cons (.str "a_") (.cons (.str "a{") (.cons (.str "a\n") .nil))))))
      (.cons (.dct (kv := [("a", 1)]) m12 (f13 _ _ h13) rfl) (.cons (.str "ab b") (.cons (.str "abcdefghi") (.cons (.tup m14 (f14 _ _ h14) (.cons (.str "last") .nil)) (.cons (.tup m15 (f15 _ _ h15) (.cons (.str "") (.cons (.str "") (.cons (.str "") .nil)))) .nil)))))
    refine ⟨b, l7, _, rfl, hb.ex f0, .inl (sq_of h17), (fun e => absurd (congrArg List.length e) (by show ¬ 25 = 0; decide)), by show 25 ≤ 100000; decide, fun H18 i x e18 hx => ?_⟩
    obtain ⟨d, hd, hda⟩ := all.at hx
    exact q _ _ d (f0.trans e18) (DaA.move (fun a o _ z => e18 a o z) (fun _ z => z) d hda) (odd_ok (List.mem_of_getElem? hd))
/-- n: no thing is as deep -/
def spSpoilt (n : Nat) : Sp := fun vs H Q _ => ∃ (b : Addr) (v : V) (d : PyData) (A : Addr → Prop), vs = [.ref b, v] ∧ BagAt H b ∧ DaA A H v d ∧ (∀ a, A a → H a ≠ none) ∧ gD d = true ∧ d.depth < n ∧ wd d ≤ 1000000 ∧
  ∀ (H' : Hp) (v' : V) (d' : PyData), Ex H H' → DaA (fun a => A a ∨ H a = none) H' v' d' → okD (d.depth + 1) (2 * wd d + 4000) d' → Q v' H'
theorem ok_spoilt (T : Txt0 mg) (TI : TxtI K mg rel) (D : Df K mg "_law_spoilt" s_l_spoilt) (c_l_take : CalG P w K mg base 1 "_law_take" spTake) (c_l_odd : CalG P w K mg base 3 "_law_odd" spOdd) : ∀ n : Nat, CalG P w K mg base (3 + n) "_law_spoilt" (spSpoilt n)
  | 0 => by
    obtain ⟨f, fd, hmg, F⟩ := D.ex
    exact ⟨f, fd, ["_law_bag_here", "_law_thing"], ⟨fun vs H Q E ⟨b, v, d, _, _, _, _, _, _, h, _⟩ => absurd h (Nat.not_lt_zero _), fun A outer s H args us vs Z EE hr hg hes hbd hv ⟨b, v, d, _, _, _, _, _, _, h, _⟩ => absurd h (Nat.not_lt_zero _)⟩, hmg, F.kp, F.binds (fun _ _ _ _ _ _ us hl => match us, hl with | [_, _], _ => rfl)⟩
  | n + 1 => by
    have c_l_spoilt := ok_spoilt T TI D c_l_take c_l_odd n
    refine cal_mk (k := 3 + n) D sc_l_spoilt (fun _ _ _ _ _ _ us hl => match us, hl with | [_, _], _ => rfl) (fun vs H Q E h => ?_) (fun f cdv A' outer s H vs Q E hr hG h => ?_)
    · obtain ⟨b, v, d, A, rfl, _⟩ := h
      rfl
    · obtain ⟨b, v, d, A, rfl, hb, hv, hAH, hg, hdep, hw, q⟩ := h
      refine ⟨_, (pss_cons (ps_set (i := 2) sc_l_spoilt.nd rfl (Or.inl rfl) (pe_cG c_l_take hr hG (by omega) rfl (pa_cons (pv 0) (pa_cons pe_int pa_nil))))
      (pss_cons (ps_if (PW.pt (pw_or (pt_not (pt_val (pe_callB call_isiT (by rfl) TI.isinstance (by decide +kernel) (pa_cons (pv 1) (pa_cons (pe_tup (pa_cons (pe_bltn (v := .ty "tuple") (by rfl) T.tuple (by decide +kernel) rfl) (pa_cons (pe_bltn (v := .ty "list") (by rfl) T.list (by decide +kernel) rfl) pa_nil))) pa_nil))))) (pw_or (pt_cmpR (opEq hr) (pe_callB callLen (by rfl) T.len PySem.boot_len (pa_cons (pv 1) pa_nil)) pe_int (nomark _)) (pw_or1 (pt_cmpR (opEq hr) (pv 2) pe_int (nomark _)))))) (pss_one (ps_ret (pe_cG c_l_odd hr hG (by omega) rfl (pa_cons (pv 0) pa_nil)))) pss_nil)
      (pss_cons (ps_par (i := 3) (j := 4) rfl sc_l_spoilt.nd rfl rfl (by decide) rfl rfl (pa_cons (pe_cG c_l_take hr hG (by omega) rfl (pa_cons (pv 0) (pa_cons (pe_callB callLen (by rfl) T.len PySem.boot_len (pa_cons (pv 1) pa_nil)) pa_nil))) (pa_cons (pe_callTy call_list_of (by rfl) T.list (by decide +kernel) (pa_cons (pv 1) pa_nil)) pa_nil)) (by first | rfl | with_unfolding_all rfl | kernel_rfl))
      (Evl.pss_cut (ps_if (pt_cmpR opLt (pv 2) pe_int (nomark _)) (pss_one (ps_asg (pe_cG c_l_spoilt hr hG (by omega) rfl (pa_cons (pv 0) (pa_cons (pe_ix ixAny (pv 4) (pv 3) (fun _ _ => rfl)) pa_nil))) (pg_sub (pv 4) (pv 3) set_list))) (pss_one (ps_if (PW.pt (pw_and (pt_cmpR (opEq hr) (pv 2) pe_int (nomark _)) (pw_and1 (pt_cmpR (opEq hr) (pe_cG c_l_take hr hG (by omega) rfl (pa_cons (pv 0) (pa_cons pe_int pa_nil))) pe_int (nomark _))))) (pss_one (ps_expr (pe_bm PySem.F.plainAttrs_list PySem.F.slot_list_pop PySem.F.type_list_pop mt_popAt (pv 4) (pa_cons (pv 3) pa_nil)))) (pss_one (ps_if (pt_cmpR (opEq hr) (pv 2) pe_int (nomark _)) (pss_one (ps_expr (pe_bm PySem.F.plainAttrs_list PySem.F.slot_list_insert PySem.F.type_list_insert mt_insert (pv 4) (pa_cons (pv 3) (pa_cons (pe_ix ixAny (pv 4) (pv 3) (fun _ _ => rfl)) pa_nil))))) (pss_one (ps_ret (pe_ifExp (pt_val (pe_callB call_isi (by rfl) TI.isinstance (by decide +kernel) (pa_cons (pv 1) (pa_cons (pe_bltn (v := .ty "list") (by rfl) T.list (by decide +kernel) rfl) pa_nil)))) (pe_callTy call_tuple_of (by rfl) T.tuple (by decide +kernel) (pa_cons (pv 4) pa_nil)) (pv 4)))))))))
      (pss_one (ps_ret (pe_ifExp (pt_val (pe_callB call_isi (by rfl) TI.isinstance (by decide +kernel) (pa_cons (pv 1) (pa_cons (pe_bltn (v := .ty "list") (by rfl) T.list (by decide +kernel) rfl) pa_nil)))) (pv 4) (pe_callTy call_tuple_of (by rfl) T.tuple (by decide +kernel) (pa_cons (pv 4) pa_nil))))))))), ?_⟩
      refine ⟨_, rfl, b, 6, rfl, hb, by decide, by decide, fun H1 r r0 r1 e1 => ?_⟩
      refine ⟨_, rfl, by show 2 ≤ sizeLine; decide, fun t ht => ?_⟩
      generalize hq2 : upd H1 t _ = H2
      obtain ⟨e2, h2⟩ := gen1 hq2 ht
      have e12 := e1.trans e2
      have mv : ∀ {H' : Hp} {u : V} {g : PyData}, Ex H H' → DaA A H u g → DaA A H' u g := fun {H' u g} e h => DaA.move (fun a o _ z => e a o z) (fun _ z => z) g h
      have hv2 := mv e12 hv
      have odd : ∀ (c_l_odd : CalG P w K mg base 3 "_law_odd" spOdd), spOdd [.ref b] H2 Q E0 := fun _ => by
        refine ⟨b, rfl, hb.ex e12, fun H3 u g e3 hu hok => ?_⟩
        exact q _ _ g (e12.trans e3) (DaA.move (fun _ _ _ z => z) (fun a z => .inr (none_of e12 z)) g hu) (hok.mono (by omega) (by omega))
      refine ⟨v, t, _, _, _, _, rfl, h2, .cons (.ty _) (.cons (.ty _) .nil), (DaA.da d hv2).ty, kit_tl d, _, rfl, ?_⟩
      cases hcon : (isTupD d || isLstD d) with
      | false => exact iteT ⟨_, rfl, odd c_l_odd⟩
      | true =>
        obtain ⟨p, xs, ds, hc⟩ := con_of hv2 hcon
        have hlen := hc.2.2.len
        have hev := hc.1
        subst hev
        obtain ⟨g1, g2, g3⟩ := hc.ok (n := d.depth) (W := wd d) ⟨hg, Nat.le_refl _, Nat.le_refl _⟩
        have hmany : xs.length ≤ 1000000 := by
          have := len_wds ds
          omega
        refine iteF ⟨_, rfl, .inl ⟨p, xs, rfl, hc.sq, .inl ⟨rfl, _, rfl, ?_⟩⟩⟩
        refine ite2 (fun h0 => iteT ⟨_, rfl, odd c_l_odd⟩) (fun h0 => ?_)
        have hne : xs.length ≠ 0 := fun e => h0 (by rw [e]; exact decide_eq_true rfl)
        refine ⟨_, rfl, .inl ⟨rfl, _, rfl, ?_⟩⟩
        refine ite2 (fun hm0 => ⟨_, rfl, odd c_l_odd⟩) (fun hm0 => ?_)
        refine ⟨_, rfl, _, rfl, .inl ⟨p, xs, rfl, hc.sq, ?_⟩⟩
        refine ⟨b, _, rfl, hb.ex e12, by omega, by omega, fun H3 at_ a0 a1 e3 => ?_⟩
        obtain ⟨j, rfl⟩ : ∃ j : Nat, at_ = (j : Int) := ⟨at_.toNat, by omega⟩
        have hj : j < xs.length := by omega
        have hc3 := hc.ex e3
        have e03 := e12.trans e3
        refine ⟨_, rfl, p, xs, rfl, hc3.sq, fun l hl => ?_⟩
        generalize hq4 : upd H3 l _ = H4
        obtain ⟨e4, h4⟩ := gen1 hq4 hl
        have e04 := e03.trans e4
        have hln : H l = none := none_of e03 hl
        have hAl : ¬ A l := fun z => hAH l z hln
        have hc4 := hc3.ex e4
        have hk : okDs (d.depth - 1) (wd d - 3) ds := ⟨g1, by omega, by omega⟩
        have hds : j < ds.length := by omega
        obtain ⟨g, hgj⟩ : ∃ g, ds[j]? = some g := ⟨ds[j], List.getElem?_eq_getElem hds⟩
        obtain ⟨x, hxj, hxa⟩ := hc4.2.2.at2 hgj
        have hgm := List.mem_of_getElem? hgj
        have gg := gDs_iff.mp g1 g hgm
        have gdep : g.depth ≤ d.depth - 1 := depthAll_le.mp hk.2.1 g hgm
        have gw := wd_mem hgm
        refine ⟨_, _, rfl, ?_⟩
        refine ⟨fun σ' H5 => σ' = [some (.ref b), some (.ref p), some (.int r), some (.int (j : Int)), some (.ref l)] ∧ ConAt A H5 (.ref p) d p xs ds ∧ ∃ ys es, Ex H H5 ∧ H5 l = some (.lst ys) ∧ DaAA (fun a => A a ∨ H a = none) H5 ys es ∧ okDs d.depth (2 * wd d + 3997) es, ?_, ?_⟩
        · have wide : ∀ {H5 : Hp} {zs : List V} {es : List PyData}, Ex H3 H5 → DaAA A H3 zs es → DaAA (fun a => A a ∨ H a = none) H5 zs es := fun {H5 zs es} e h => DaAA.move (fun a o _ z => e a o z) (fun _ z => .inl z) es h
          refine ⟨_, rfl, _, _, rfl, rfl, _, rfl, ite2 (fun hm4 => ?_) (fun hm4 => ?_)⟩
          · refine ⟨_, rfl, _, rfl, _, rfl, .inl ⟨l, _, (j : Int), x, rfl, rfl, sq_of h4, atI_nat hxj, ?_⟩⟩
            refine ⟨b, x, g, A, rfl, hb.ex e04, hxa, fun a z e => hAH a z (none_of e04 e), gg, by omega, by omega, fun H5 v' d' e5 hv' hok' => ?_⟩
            refine ⟨_, rfl, _, rfl, l, xs, (j : Int), j, rfl, rfl, e5 _ _ h4, ixN_nat hj, ?_⟩
            generalize hq6 : upd H5 l _ = H6
            obtain ⟨e36, h6⟩ := dict_gen hq6 (e4.trans e5) hl
            have hv6 : DaA (fun a => A a ∨ H a = none) H6 v' d' := DaA.move (fun a o z w' => by
              rw [← hq6, upd_ne ?_]
              · exact w'
              · intro e
                subst e
                rcases z with z | z
                · exact hAl z
                · rw [h4] at z
                  cases z) (fun a z => z.elim .inl fun z => .inr (none_of e04 z)) d' hv'
            refine ⟨rfl, hc3.ex e36, _, _, e03.trans e36, h6, DaAA.put hv6 (wide e36 hc3.2.2), okDs.set (hk.mono (by omega) (Nat.le_refl _)) hgj hok'.1 (Nat.le_trans hok'.2.1 (by omega)) ?_⟩
            have := hok'.2.2
            omega
          · refine ⟨_, rfl, .inl ⟨rfl, _, rfl, ?_⟩⟩
            have ins : ∀ {H5 : Hp}, Ex H4 H5 → BagAt H5 b → True := fun _ _ => trivial
            refine ite2 (fun hm5 => ?_) (fun hm5 => ?_)
            · refine ⟨_, rfl, b, 2, rfl, hb.ex e04, by decide, by decide, fun H5 u u0 u1 e5 => .inl ⟨rfl, _, rfl, ?_⟩⟩
              have hc5 := hc4.ex e5
              have h5 := e5 _ _ h4
              refine ite2 (fun hm6 => ?_) (fun hm6 => ?_)
              · refine ⟨_, rfl, .inl ⟨rfl, _, sq_of h5⟩, _, rfl, l, xs, (j : Int), j, x, rfl, rfl, h5, by omega, by omega, seqIndex_of (by omega) (by omega), hxj, ?_⟩
                generalize hq6 : upd H5 l _ = H6
                obtain ⟨e36, h6⟩ := dict_gen hq6 (e4.trans e5) hl
                rw [erase_eq] at h6
                refine ⟨rfl, hc3.ex e36, _, _, e03.trans e36, h6, (DaAA.take j (wide e36 hc3.2.2)).app (DaAA.drop (j + 1) (wide e36 hc3.2.2)), (hk.mono (by omega) (by omega)).sub (fun y hy => ?_) ?_⟩
                · rcases List.mem_append.mp hy with hy | hy
                  · exact List.mem_of_mem_take hy
                  · exact List.mem_of_mem_drop hy
                · rw [wds_app]
                  have z1 := wds_take j ds
                  have z2 := wds_drop (j + 1) ds
                  omega
              · refine ⟨_, rfl, .inl ⟨rfl, _, rfl, ifT hm5 ?_⟩⟩
                refine ⟨_, rfl, .inl ⟨rfl, _, sq_of h5⟩, _, rfl, _, rfl, _, rfl, .inl ⟨l, _, (j : Int), x, rfl, rfl, sq_of h5, atI_nat hxj, ?_⟩⟩
                refine ⟨l, xs, (j : Int), x, rfl, rfl, h5, Nat.lt_of_le_of_lt hmany (by decide), by omega, by omega, ?_⟩
                generalize hq6 : upd H5 l _ = H6
                obtain ⟨e36, h6⟩ := dict_gen hq6 (e4.trans e5) hl
                rw [Int.toNat_natCast] at h6
                obtain ⟨x2, hx2, hxa2⟩ := (wide e36 hc3.2.2).at2 hgj
                rw [hxj] at hx2
                cases hx2
                refine ⟨rfl, hc3.ex e36, _, _, e03.trans e36, h6, ((DaAA.take j (wide e36 hc3.2.2)).app (.cons hxa2 .nil)).app (DaAA.drop j (wide e36 hc3.2.2)), (hk.mono (by omega) (by omega)).sub (fun y hy => ?_) ?_⟩
                · rcases List.mem_append.mp hy with hy | hy
                  · rcases List.mem_append.mp hy with hy | hy
                    · exact List.mem_of_mem_take hy
                    · rw [List.mem_singleton] at hy
                      rw [hy]
                      exact hgm
                  · exact List.mem_of_mem_drop hy
                · have z0 := wds_app (ds.take j) (ds.drop j)
                  rw [List.take_append_drop] at z0
                  rw [wds_app, wds_app]
                  show wds (ds.take j) + (wd g + 2 + 0) + wds (ds.drop j) ≤ _
                  omega
            · refine ⟨_, rfl, .inl ⟨rfl, _, rfl, ifF (by simpa using hm5) ?_⟩⟩
              refine ⟨_, rfl, .ref p, .ty "list", _, _, _, rfl, .ty _, hc4.lst, kit_ty (kit_list d), _, rfl, ?_⟩
              have hw4 : DaAA (fun a => A a ∨ H a = none) H4 xs ds := wide e4 hc3.2.2
              have hk4 : okDs d.depth (2 * wd d + 3997) ds := hk.mono (by omega) (by omega)
              refine ite2 (fun _ => ?_) (fun _ => ?_)
              · refine ⟨_, rfl, l, xs, rfl, .inl ⟨sq_of h4, fun t2 ht2 => ?_⟩⟩
                refine q _ _ (.tuple ds) (e04.trans (Ex.new ht2)) (.tup (.inr (none_of e04 ht2)) upd_same (DaAA.move (fun a o _ z => Ex.new ht2 a o z) (fun _ z => z) ds hw4)) hk4.tup
              · exact ⟨_, rfl, q _ _ (.list ds) e04 (.lst (.inr hln) h4 hw4) hk4.list⟩
        · rintro σ' H5 ⟨rfl, hc5, ys, es, e05, h5, hA5, hk5⟩
          refine ⟨_, rfl, .ref p, .ty "list", _, _, _, rfl, .ty _, hc5.lst, kit_ty (kit_list d), _, rfl, ?_⟩
          refine ite2 (fun _ => ?_) (fun _ => ?_)
          · exact ⟨_, rfl, q _ _ (.list es) e05 (.lst (.inr hln) h5 hA5) hk5.list⟩
          · refine ⟨_, rfl, l, ys, rfl, .inl ⟨sq_of h5, fun t2 ht2 => ?_⟩⟩
            exact q _ _ (.tuple es) (e05.trans (Ex.new ht2)) (.tup (.inr (none_of e05 ht2)) upd_same (DaAA.move (fun a o _ z => Ex.new ht2 a o z) (fun _ z => z) es hA5)) hk5.tup
end
abbrev s_l_world : Stmt := top 22
theorem sc_l_world : FnScope ["_law_bag_here"] ["_law_bag_here"] (defScope s_l_world) := ⟨rfl, rfl, rfl, by decide +kernel, rfl, by decide +kernel, by decide +kernel⟩
abbrev s_l_row : Stmt := top 25
theorem sc_l_row : FnScope ["_law_bag_here", "_law_world_here"] ["_law_bag_here", "_law_world_here"] (defScope s_l_row) := ⟨rfl, rfl, rfl, by decide +kernel, rfl, by decide +kernel, by decide +kernel⟩
structure WOk (ns ts : List Str) : Prop where
  n : ns.length = 3
  t2 : 2 ≤ ts.length
  t4 : ts.length ≤ 4
  nn : ∀ z ∈ ns, isNm z = true
  nt : ∀ z ∈ ts, isNm z = true
def WorldAt (H : Hp) (v : V) (ns ts : List Str) : Prop := ∃ (d pn pt : Addr) (kvs : List (Key × V)), v = .ref d ∧ H d = some (.dK kvs) ∧ valV kvs (Sum.inr "names") = some (.ref pn) ∧ valV kvs (Sum.inr "things") = some (.ref pt) ∧ H pn = some (.lst (ns.map V.str)) ∧ H pt = some (.lst (ts.map V.str))
theorem WorldAt.ex {H H' : Hp} {v : V} {ns ts : List Str} (e : Ex H H') (h : WorldAt H v ns ts) : WorldAt H' v ns ts := by
  obtain ⟨d, pn, pt, kvs, h1, h2, h3, h4, h5, h6⟩ := h
  exact ⟨d, pn, pt, kvs, h1, e _ _ h2, h3, h4, e _ _ h5, e _ _ h6⟩
/-- a row: its name and its fact -/
abbrev Rw := Str × List A3
def RowAt (H : Hp) (v : V) (r : Rw) : Prop := ∃ p vf, v = .ref p ∧ H p = some (.tup [.str r.1, vf]) ∧ FactAt H vf r.2
theorem RowAt.tex {H H' : Hp} {v : V} {r : Rw} (e : TEx H H') (h : RowAt H v r) : RowAt H' v r := by
  obtain ⟨p, vf, h1, h2, p2, xs, h3, h4, h5⟩ := h
  exact ⟨p, vf, h1, e _ _ h2, p2, xs, h3, e _ _ h4, h5.tex e⟩
def AllRw (H : Hp) : List V → List Rw → Prop
  | [], [] => True
  | v :: vs, r :: rs => RowAt H v r ∧ AllRw H vs rs
  | _, _ => False
theorem AllRw.tex {H H' : Hp} (e : TEx H H') : ∀ {vs : List V} {rs : List Rw}, AllRw H vs rs → AllRw H' vs rs
  | [], [], _ => trivial
  | _ :: _, _ :: _, h => ⟨h.1.tex e, AllRw.tex e h.2⟩
  | [], _ :: _, h => h.elim
  | _ :: _, [], h => h.elim
theorem AllRw.len {H : Hp} : ∀ {vs : List V} {rs : List Rw}, AllRw H vs rs → vs.length = rs.length
  | [], [], _ => rfl
  | _ :: _, _ :: _, h => by rw [List.length_cons, List.length_cons, AllRw.len h.2]
  | [], _ :: _, h => h.elim
  | _ :: _, [], h => h.elim
theorem AllRw.at {H : Hp} : ∀ {vs : List V} {rs : List Rw} {i : Nat} {v : V}, AllRw H vs rs → vs[i]? = some v → ∃ r, rs[i]? = some r ∧ RowAt H v r
  | [], [], _, _, _, h => by simp at h
  | _ :: _, r :: _, 0, _, h, e => by
    cases e
    exact ⟨r, rfl, h.1⟩
  | _ :: _, _ :: _, i + 1, _, h, e => AllRw.at (i := i) h.2 e
  | [], _ :: _, _, _, h, _ => h.elim
  | _ :: _, [], _, _, h, _ => h.elim
theorem AllRw.snoc {H : Hp} {v : V} {r : Rw} (hv : RowAt H v r) : ∀ {vs : List V} {rs : List Rw}, AllRw H vs rs → AllRw H (vs ++ [v]) (rs ++ [r])
  | [], [], _ => ⟨hv, trivial⟩
  | _ :: _, _ :: _, h => ⟨h.1, AllRw.snoc hv h.2⟩
  | [], _ :: _, h => h.elim
  | _ :: _, [], h => h.elim
theorem AllRw.take {H : Hp} : ∀ {vs : List V} {rs : List Rw} (n : Nat), AllRw H vs rs → AllRw H (vs.take n) (rs.take n)
  | _, _, 0, _ => trivial
  | [], [], _ + 1, _ => trivial
  | _ :: _, _ :: _, n + 1, h => ⟨h.1, AllRw.take n h.2⟩
  | [], _ :: _, _ + 1, h => h.elim
  | _ :: _, [], _ + 1, h => h.elim
def rwD (r : Rw) : PyData := .tuple [.str r.1, faD r.2]
theorem RowAt.dp {K : PySem.W.Frag} {H : Hp} {v : V} {r : Rw} (h : RowAt H v r) : Dp K H v (rwD r) := by
  obtain ⟨p, vf, rfl, h2, h3⟩ := h
  exact .tup (st_of h2) (.cons (.str _) (.cons h3.dp .nil))
theorem AllRw.dp {K : PySem.W.Frag} {H : Hp} : ∀ {vs : List V} {rs : List Rw}, AllRw H vs rs → DpAll K H vs (rs.map rwD)
  | [], [], _ => .nil
  | _ :: _, _ :: _, h => .cons h.1.dp (AllRw.dp h.2)
  | [], _ :: _, h => h.elim
  | _ :: _, [], h => h.elim
/-- a row over the names ns and ts -/
def tR (ns ts : List Str) (r : Rw) : Prop := r.1 ∈ ns ∧ 1 ≤ r.2.length ∧ ∀ a ∈ r.2, isR3 a.1 = true ∧ a.2.1 ∈ ts ∧ a.2.2 ∈ ts
def gR (r : Rw) : Prop := isNm r.1 = true ∧ r.2.length ≤ 2 ∧ ∀ a ∈ r.2, gA a
theorem gR.fin {r : Rw} (h : gR r) : Own.fin 3 2000 (rwD r) := by
  refine (fin_tup (n := 2) (W := 700) (m := 2) (fun d hd => ?_) (Nat.le_refl _)).mono (by decide) (by decide)
  have hd : d ∈ [PyData.str r.1, faD r.2] := hd
  simp only [List.mem_cons, List.not_mem_nil, or_false] at hd
  rcases hd with rfl | rfl
  · exact (fin_str (L := 8) (nm_ok h.1) (nm_len h.1)).mono (by decide) (by decide)
  · exact fin_fa h.2.2 h.2.1
theorem gR.list {rs : List Rw} (h : ∀ r ∈ rs, gR r) (hl : rs.length ≤ 100) : fine (.list (rs.map rwD)) := by
  refine (fin_list (n := 3) (W := 2000) (m := 100) (fun d hd => ?_) (by rw [List.length_map]; exact hl)).fine (by decide) (by decide)
  obtain ⟨r, hr, rfl⟩ := List.mem_map.mp hd
  exact (h r hr).fin
theorem w_names (x y : V) : valV (mergeK [] [((Sum.inr "names" : Key), x), ((Sum.inr "things" : Key), y)]) (Sum.inr "names") = some x := by rfl
theorem w_things (x y : V) : valV (mergeK [] [((Sum.inr "names" : Key), x), ((Sum.inr "things" : Key), y)]) (Sum.inr "things") = some y := by rfl
section
variable {P : Program} {w : World} {K : PySem.W.Frag} {mg : Str → Option Value} {base : Heap}
def spWorld : Sp := fun vs H Q _ => ∃ (b : Addr), vs = [.ref b] ∧ BagAt H b ∧ ∀ (H' : Hp) (v : V) (ns ts : List Str), Ex H H' → WorldAt H' v ns ts → WOk ns ts → Q v H'
theorem ok_world (T : Txt0 mg) (D : Df K mg "_law_world" s_l_world) (c_l_take : CalG P w K mg base 1 "_law_take" spTake) (c_l_names : CalG P w K mg base 2 "_law_names" spNames) : CalG P w K mg base 3 "_law_world" spWorld := by
  refine cal_mk D sc_l_world (fun _ _ _ _ _ _ us hl => match us, hl with | [_], _ => rfl) (fun vs H Q E h => ?_) (fun f cdv A outer s H vs Q E hr hG h => ?_)
  · obtain ⟨b, rfl, _⟩ := h
    rfl
  · obtain ⟨b, rfl, hb, q⟩ := h
    refine ⟨_, (pss_one (ps_ret (pe_disp (pps_cons pe_str (pe_cG c_l_names hr hG (by decide) rfl (pa_cons (pv 0) (pa_cons pe_int pa_nil))) (pps_cons pe_str (pe_cG c_l_names hr hG (by decide) rfl (pa_cons (pv 0) (pa_cons (pe_op opAdd pe_int (pe_cG c_l_take hr hG (by decide) rfl (pa_cons (pv 0) (pa_cons pe_int pa_nil)))) pa_nil))) pps_nil)) (by rfl) (by rfl) (fun z => by cases z) (by decide)))), fun d hd => ?_⟩
    generalize hq1 : upd H d _ = H1
    obtain ⟨e1, h1⟩ := gen1 hq1 hd
    refine ⟨_, rfl, b, 3, rfl, hb.ex e1, by decide, by decide, fun H2 pn ns e2 _ hpn hnl _ hnn => ?_⟩
    refine ⟨_, rfl, _, rfl, b, 3, rfl, hb.ex (e1.trans e2), by decide, by decide, fun H3 r r0 r1 e3 => .inl ⟨2, r, rfl, rfl, ?_⟩⟩
    refine ⟨b, _, rfl, hb.ex ((e1.trans e2).trans e3), by omega, by omega, fun H4 pt ts e4 _ hpt htl _ hnt => ?_⟩
    have e14 := (e2.trans e3).trans e4
    refine ⟨e14 _ _ h1, [(Sum.inr "names", .ref pn), (Sum.inr "things", .ref pt)], rfl, by show 2 ≤ 15; decide, ?_⟩
    have e34 := e3.trans e4
    have hpn4 := e34 _ _ hpn
    have n1 : pn ≠ d := fun e => by
      rw [e] at hpn4
      rw [e14 _ _ h1] at hpn4
      cases hpn4
    have n2 : pt ≠ d := fun e => by
      rw [e] at hpt
      rw [e14 _ _ h1] at hpt
      cases hpt
    refine q _ _ ns ts (Ex.mut (e1.trans e14) hd) ⟨d, pn, pt, _, rfl, upd_same, w_names _ _, w_things _ _, by rw [upd_ne n1]; exact hpn4, by rw [upd_ne n2]; exact hpt⟩ ⟨by omega, by omega, by omega, hnn, hnt⟩
def spRow : Sp := fun vs H Q _ => ∃ (b : Addr) (v : V) (ns ts : List Str), vs = [.ref b, v] ∧ BagAt H b ∧ WorldAt H v ns ts ∧ WOk ns ts ∧ ∀ (H' : Hp) (u : V) (r : Rw), Ex H H' → RowAt H' u r → gR r → tR ns ts r → Q u H'
theorem ok_row (T : Txt0 mg) (D : Df K mg "_law_row" s_l_row) (c_l_some : CalG P w K mg base 2 "_law_some" (spSome K)) (c_l_fact : CalG P w K mg base 4 "_law_fact" spFact) : CalG P w K mg base 5 "_law_row" spRow := by
  refine cal_mk D sc_l_row (fun _ _ _ _ _ _ us hl => match us, hl with | [_, _], _ => rfl) (fun vs H Q E h => ?_) (fun f cdv A outer s H vs Q E hr hG h => ?_)
  · obtain ⟨b, v, ns, ts, rfl, _⟩ := h
    rfl
  · obtain ⟨b, _, ns, ts, rfl, hb, ⟨d, pn, pt, kvs, rfl, hd, hkn, hkt, hpn, hpt⟩, hw, q⟩ := h
    refine ⟨_, (pss_one (ps_ret (pe_tup (pa_cons (pe_cG c_l_some hr hG (by decide) rfl (pa_cons (pv 0) (pa_cons (pe_dget (hu_of hr) (pv 1) pe_str (fun _ _ => rfl)) pa_nil))) (pa_cons (pe_cG c_l_fact hr hG (by decide) rfl (pa_cons (pv 0) (pa_cons (pe_dget (hu_of hr) (pv 1) pe_str (fun _ _ => rfl)) pa_nil))) pa_nil))))), ?_⟩
    have hn3 := hw.n
    have ht2 := hw.t2
    have ht4 := hw.t4
    refine ⟨_, rfl, _, rfl, d, .ref pn, rfl, .inl ⟨kvs, Sum.inr "names", .inl hd, rfl, hkn.symm⟩, ?_⟩
    refine ⟨b, pn, _, rfl, hb, .inl (sq_of hpn), (fun e => by have z := congrArg List.length e; rw [List.length_map] at z; rw [hn3] at z; cases z), by rw [List.length_map]; omega, fun H1 i x e1 hx => ?_⟩
    obtain ⟨nm, hnm, rfl⟩ := str_at hx
    refine ⟨_, rfl, _, rfl, d, .ref pt, rfl, .inl ⟨kvs, Sum.inr "things", .inl (e1 _ _ hd), rfl, hkt.symm⟩, ?_⟩
    refine ⟨b, pt, ts, rfl, hb.ex e1, e1 _ _ hpt, (fun e => by rw [e] at ht2; exact absurd ht2 (by decide)), by omega, fun H2 vf as e2 hf h1 h2 hall => ?_⟩
    refine ⟨by show 2 ≤ sizeLine; decide, fun t ht => ?_⟩
    refine q _ _ (nm, as) ((e1.trans e2).trans (Ex.new ht)) ⟨t, vf, rfl, upd_same, hf.ex (Ex.new ht)⟩ ⟨hw.nn _ (List.mem_of_getElem? hnm), h2, fun a ha => ?_⟩ ⟨List.mem_of_getElem? hnm, h1, hall⟩
    obtain ⟨k1, k2, k3⟩ := hall a ha
    exact gA_of hw.nt (isR_of k1) (.inr k2) (.inr k3)
end
/-! ### rows as data -/
theorem strs_da {H : Hp} : ∀ ns : List Str, DaAll H (ns.map V.str) (ns.map PyData.str)
  | [] => .nil
  | n :: ns => .cons (.str n) (strs_da ns)
theorem AtomAt.da {H : Hp} {v : V} {a : A3} (h : AtomAt H v a) : Da H v (atD a) := by
  obtain ⟨p, rfl, h2⟩ := h
  exact .tup h2 (strs_da _)
theorem AllAt.da {H : Hp} : ∀ {vs : List V} {as : List A3}, AllAt H vs as → DaAll H vs (as.map atD)
  | [], [], _ => .nil
  | _ :: vs, _ :: as, h => .cons h.1.da (AllAt.da h.2)
  | [], _ :: _, h => h.elim
  | _ :: _, [], h => h.elim
theorem FactAt.da {H : Hp} {v : V} {as : List A3} (h : FactAt H v as) : Da H v (faD as) := by
  obtain ⟨p, xs, rfl, h2, h3⟩ := h
  exact .tup h2 h3.da
theorem RowAt.da {H : Hp} {v : V} {r : Rw} (h : RowAt H v r) : Da H v (rwD r) := by
  obtain ⟨p, vf, rfl, h2, h3⟩ := h
  exact .tup h2 (.cons (.str _) (.cons h3.da .nil))
theorem AllRw.da {H : Hp} : ∀ {vs : List V} {rs : List Rw}, AllRw H vs rs → DaAll H vs (rs.map rwD)
  | [], [], _ => .nil
  | _ :: _, _ :: _, h => .cons h.1.da (AllRw.da h.2)
  | [], _ :: _, h => h.elim
  | _ :: _, [], h => h.elim
theorem okD_str {z : Str} {L : Nat} (h : lay z = true) (hl : z.length ≤ L) : okD 0 (10 * L + 5) (.str z) := ⟨h, Nat.le_refl _, by show 10 * z.length + 5 ≤ _; omega⟩
theorem okD_tup {n W : Nat} {ds : List PyData} (h : ∀ d ∈ ds, okD n W d) {m : Nat} (hm : ds.length ≤ m) : okD (n + 1) (m * (W + 2) + 3) (.tuple ds) := by
  refine ⟨gDs_iff.mpr fun d hd => (h d hd).1, Nat.succ_le_succ (depthAll_le.mpr fun d hd => (h d hd).2.1), ?_⟩
  have z : ∀ es : List PyData, (∀ d ∈ es, wd d ≤ W) → wds es ≤ es.length * (W + 2) := by
    intro es
    induction es with
    | nil => exact fun _ => Nat.zero_le _
    | cons e es ih =>
      intro he
      have q1 := he e List.mem_cons_self
      have q2 := ih fun d hd => he d (List.mem_cons_of_mem _ hd)
      show wd e + 2 + wds es ≤ (es.length + 1) * (W + 2)
      rw [Nat.add_mul]
      omega
  have q := z ds fun d hd => (h d hd).2.2
  have q2 := Nat.mul_le_mul_right (W + 2) hm
  show wds ds + 3 ≤ _
  omega
theorem okD_list {n W : Nat} {ds : List PyData} (h : ∀ d ∈ ds, okD n W d) {m : Nat} (hm : ds.length ≤ m) : okD (n + 1) (m * (W + 2) + 3) (.list ds) := okD_tup h hm
theorem gA.okD {a : A3} (h : gA a) : okD 1 264 (atD a) := by
  obtain ⟨h1, h2, h3, h4⟩ := h
  unfold sOk at h1
  rw [Bool.and_eq_true, Bool.and_eq_true] at h1
  refine okD_tup (n := 0) (W := 85) (m := 3) (fun d hd => ?_) (Nat.le_refl _)
  have hd : d ∈ [PyData.str a.1, PyData.str a.2.1, PyData.str a.2.2] := hd
  simp only [List.mem_cons, List.not_mem_nil, or_false] at hd
  rcases hd with rfl | rfl | rfl
  · exact okD_str (L := 8) h1.1 h2
  · exact okD_str (L := 8) h1.2.1 h3
  · exact okD_str (L := 8) h1.2.2 h4
theorem okD_fa {as : List A3} {m : Nat} (h : ∀ a ∈ as, gA a) (h2 : as.length ≤ m) : okD 2 (m * 266 + 3) (faD as) := by
  refine okD_tup (n := 1) (W := 264) (m := m) (fun d hd => ?_) (by rw [List.length_map]; exact h2)
  obtain ⟨a, ha, rfl⟩ := List.mem_map.mp hd
  exact (h a ha).okD
theorem gR.okD {r : Rw} (h : gR r) : okD 3 1200 (rwD r) := by
  refine (okD_tup (n := 2) (W := 540) (m := 2) (fun d hd => ?_) (Nat.le_refl _)).mono (by decide) (by decide)
  have hd : d ∈ [PyData.str r.1, faD r.2] := hd
  simp only [List.mem_cons, List.not_mem_nil, or_false] at hd
  rcases hd with rfl | rfl
  · exact (okD_str (L := 8) (nm_ok h.1) (nm_len h.1)).mono (by decide) (by decide)
  · exact (okD_fa (m := 2) h.2.2 h.2.1).mono (by decide) (by decide)
abbrev s_l_rows : Stmt := top 26
theorem sc_l_rows : FnScope ["_law_bag_here", "_law_world_here", "_law_top", "_law_k"] ["_law_bag_here", "_law_world_here", "_law_top"] (defScope s_l_rows) := ⟨rfl, rfl, rfl, by decide +kernel, rfl, by decide +kernel, by decide +kernel⟩
section
variable {P : Program} {w : World} {K : PySem.W.Frag} {mg : Str → Option Value} {base : Heap}
def spRows : Sp := fun vs H Q _ => ∃ (b : Addr) (v : V) (ns ts : List Str) (m : Int), vs = [.ref b, v, .int m] ∧ BagAt H b ∧ WorldAt H v ns ts ∧ WOk ns ts ∧ 0 ≤ m ∧ m ≤ 20 ∧ ∀ (H' : Hp) (p : Addr) (us : List V) (rs : List Rw), Ex H H' → H p = none → H' p = some (.lst us) → AllRw H' us rs → (∀ r ∈ rs, gR r) → (rs.length : Int) ≤ m → (∀ r ∈ rs, tR ns ts r) → Q (.ref p) H'
theorem ok_rows (T : Txt0 mg) (D : Df K mg "_law_rows" s_l_rows) (c_l_take : CalG P w K mg base 1 "_law_take" spTake) (c_l_row : CalG P w K mg base 5 "_law_row" spRow) : CalG P w K mg base 6 "_law_rows" spRows := by
  refine cal_mk D sc_l_rows (fun _ _ _ _ _ _ us hl => match us, hl with | [_, _, _], _ => rfl) (fun vs H Q E h => ?_) (fun f cdv A outer s H vs Q E hr hG h => ?_)
  · obtain ⟨b, v, ns, ts, m, rfl, _⟩ := h
    rfl
  · obtain ⟨b, v, ns, ts, m, rfl, hb, hv, hw, m0, m1, q⟩ := h
    refine ⟨_, (pss_one (ps_ret (pe_lcO (pe_lc (own := [("_law_k", 3)]) rfl sc_l_rows.nd (pi_range1 rfl T.range (pa_cons (pe_cG c_l_take hr hG (by decide) rfl (pa_cons (pv 0) (pa_cons (pe_op opAdd (pv 2) pe_int) pa_nil))) pa_nil)) (blkOk_by (own := [("_law_k", 3)]) (N := ["_law_bag_here", "_law_world_here", "_law_top", "_law_k"]) (sc := defScope s_l_rows) (by first | decide +kernel | kernel_rfl)) (fun _ _ _ _ _ => pg_name (i := 3) sc_l_rows.nd rfl (Or.inl rfl)) (fun _ _ _ _ _ => pts_nil) (fun _ _ _ _ _ => pe_cG c_l_row hr hG (by decide) rfl (pa_cons (pv 0) (pa_cons (pv 1) pa_nil))))))), ?_⟩
    refine ⟨_, rfl, _, rfl, .inl ⟨m, 1, rfl, rfl, ?_⟩⟩
    refine ⟨b, _, rfl, hb, by omega, by omega, fun H1 r r0 r1 e1 => ?_⟩
    obtain ⟨n, rfl⟩ : ∃ n : Nat, r = (n : Int) := ⟨r.toNat, by omega⟩
    refine ⟨(n : Int), rfl, by omega, by omega, ?_⟩
    refine lcG (walk_range (lo := 0) (n := (n : Int).toNat)) (by omega) trivial (fun _ _ _ _ => trivial) yFn_ex (fun i ys H' => ∃ rs : List Rw, AllRw H' ys rs ∧ rs.length = i ∧ ∀ r ∈ rs, gR r ∧ tR ns ts r)
      (fun _ _ _ _ e ⟨rs, h1, h2⟩ => ⟨rs, h1.tex e, h2⟩) ⟨[], trivial, rfl, fun a ha => by cases ha⟩ ?_ ?_
    · rintro i x H2 H3 ys hi e2 ⟨rfl, rfl⟩ ⟨rs, hA, hal, hR⟩ N N0 kN kN0
      refine ⟨rfl, ?_⟩
      have e12 := e1.trans e2
      refine ⟨_, rfl, _, rfl, b, v, ns, ts, rfl, hb.ex e12, hv.ex e12, hw, fun H4 u r e4 hu hg ht => ?_⟩
      refine kN _ _ e4 ⟨rs ++ [r], AllRw.snoc hu (hA.tex (TEx.of e4)), by rw [List.length_append, hal]; rfl, fun x hx => ?_⟩
      rcases List.mem_append.mp hx with hx | hx
      · exact hR x hx
      · rw [List.mem_singleton] at hx
        rw [hx]
        exact ⟨hg, ht⟩
    · rintro l H2 ys hl e2 h2 _ ⟨rs, hA, hal, hR⟩
      have hln : H l = none := by
        cases hx : H l with
        | none => rfl
        | some o => rw [e1 _ _ hx] at hl; cases hl
      exact q _ l ys rs (e1.trans e2) hln h2 hA (fun r hr => (hR r hr).1) (by rw [hal]; omega) fun r hr => (hR r hr).2
end
end Own

namespace Own
open PySem PySem.Spec PyProof.Rows L2 Evl
abbrev s_l_begun : Stmt := top 27
theorem sc_l_begun : FnScope ["_law_rows_here", "_law_home", "_law_found", "_law_k", "_law_owners", "_law_b"] ["_law_rows_here", "_law_home"] (defScope s_l_begun) := ⟨rfl, rfl, rfl, by decide +kernel, rfl, by decide +kernel, by decide +kernel⟩
abbrev s_l_start : Stmt := top 28
theorem sc_l_start : FnScope ["_law_bag_here", "_law_world_here", "_law_top", "_law_board"] ["_law_bag_here", "_law_world_here", "_law_top"] (defScope s_l_start) := ⟨rfl, rfl, rfl, by decide +kernel, rfl, by decide +kernel, by decide +kernel⟩
abbrev s_l_same_start : Stmt := top 29
theorem sc_l_same_start : FnScope ["_law_start_here", "_law_board", "_law_shelf", "_law_row_here"] ["_law_start_here"] (defScope s_l_same_start) := ⟨rfl, rfl, rfl, by decide +kernel, rfl, by decide +kernel, by decide +kernel⟩
abbrev s_l_edit : Stmt := top 30
theorem sc_l_edit : FnScope ["_law_bag_here", "_law_world_here", "_law_draft", "_law_word", "_law_home", "_law_many", "_law_at", "_law_row_here"] ["_law_bag_here", "_law_world_here", "_law_draft"] (defScope s_l_edit) := ⟨rfl, rfl, rfl, by decide +kernel, rfl, by decide +kernel, by decide +kernel⟩
theorem none_at {H H1 : Hp} {l : Addr} (e : Ex H H1) (h : H1 l = none) : H l = none := by
  cases hx : H l with
  | none => rfl
  | some o => rw [e _ _ hx] at h; cases h
def AllT (H : Hp) (ys : List V) : Prop := ∀ v ∈ ys, ∃ p xs, v = .ref p ∧ H p = some (.tup xs)
theorem AllT.tex {H H' : Hp} {ys : List V} (e : TEx H H') (h : AllT H ys) : AllT H' ys := fun v hv => by
  obtain ⟨p, xs, h1, h2⟩ := h v hv
  exact ⟨p, xs, h1, e _ _ h2⟩
theorem AllT.snoc {H : Hp} {ys : List V} {v : V} (h : AllT H ys) (hv : ∃ p xs, v = .ref p ∧ H p = some (.tup xs)) : AllT H (ys ++ [v]) := fun u hu => by
  rcases List.mem_append.mp hu with hu | hu
  · exact h u hu
  · rw [List.mem_singleton] at hu
    rw [hu]
    exact hv
section
variable {P : Program} {w : World} {K : PySem.W.Frag} {mg : Str → Option Value} {base : Heap}
def spBegun : Sp := fun vs H Q _ => ∃ (a : Addr) (us : List V) (rs : List Rw) (z : Str), vs = [.ref a, .str z] ∧ H a = some (.lst us) ∧ AllRw H us rs ∧ (∀ r ∈ rs, gR r) ∧ rs.length ≤ 50 ∧ ∀ (H' : Hp) (l : Addr) (ys : List V), Ex H H' → H l = none → H' l = some (.lst ys) → ys.length ≤ 50 → AllT H' ys → Q (.ref l) H'
theorem ok_begun (T : Txt0 mg) (D : Df K mg "_law_begun" s_l_begun) : CalG P w K mg base 1 "_law_begun" spBegun := by
  refine cal_mk D sc_l_begun (fun _ _ _ _ _ _ us hl => match us, hl with | [_, _], _ => rfl) (fun vs H Q E h => ?_) (fun f cdv A outer s H vs Q E hr hG h => ?_)
  · obtain ⟨a, us, rs, z, rfl, _⟩ := h
    rfl
  · obtain ⟨a, us, rs, z, rfl, ha, hA, hg, hl, q⟩ := h
    refine ⟨_, (pss_cons (ps_set (i := 2) sc_l_begun.nd rfl (Or.inl rfl) (pe_lst pa_nil))
      (pss_cons (ps_forO (ps_for PassesOwn.never rfl (pi_range1 rfl T.range (pa_cons (pe_callB callLen (by rfl) T.len PySem.boot_len (pa_cons (pv 0) pa_nil)) pa_nil)) (pg_name (i := 3) sc_l_begun.nd rfl (Or.inr rfl))
        (pss_cons (ps_set (i := 4) sc_l_begun.nd rfl (Or.inl rfl) (pe_callTy call_tuple_of (by rfl) T.tuple (by decide +kernel) (pa_cons (pe_lcO (pe_lc (own := [("_law_b", 5)]) rfl sc_l_begun.nd (pi_range1 rfl T.range (pa_cons (pe_callB callLen (by rfl) T.len PySem.boot_len (pa_cons (pe_ix ixAny (pe_ix ixAny (pv 0) (pv 3) (fun _ _ => rfl)) pe_int (fun _ _ => rfl)) pa_nil)) pa_nil)) (blkOk_by (own := [("_law_b", 5)]) (N := ["_law_rows_here", "_law_home", "_law_found", "_law_k", "_law_owners", "_law_b"]) (sc := defScope s_l_begun) (by first | decide +kernel | kernel_rfl)) (fun _ _ _ _ _ => pg_name (i := 5) sc_l_begun.nd rfl (Or.inl rfl)) (fun _ _ _ _ _ => pts_nil) (fun _ _ _ _ _ => pe_tup (pa_cons (pv 1) (pa_cons (pv 3) (pa_cons (pv 5) pa_nil)))))) pa_nil)))
      (pss_one (ps_expr (pe_bm PySem.F.plainAttrs_list PySem.F.slot_list_append PySem.F.type_list_append mt_append (pv 2) (pa_cons (pe_op opAdd (pe_slice slAny (pe_ix ixAny (pv 0) (pv 3) (fun _ _ => rfl)) po_none (po_some pe_int)) (pe_tup (pa_cons (pv 4) (pa_cons (pv 4) pa_nil)))) pa_nil)))))))
      (pss_one (ps_ret (pv 2))))), ?_⟩
    have hlu := hA.len
    refine ⟨by show 0 ≤ sizeLine; decide, fun l hln => ?_⟩
    generalize hq1 : upd H l _ = H1
    obtain ⟨e1, h1⟩ := gen1 hq1 hln
    refine ⟨_, rfl, .inl ⟨a, _, rfl, .inl (sq_of (e1 _ _ ha)), ?_⟩⟩
    refine ⟨(us.length : Int), rfl, by omega, by omega, ?_⟩
    refine frG (walk_range (lo := 0) (n := ((us.length : Nat) : Int).toNat)) (fun i σ H' => ∃ (x3 x4 x5 : Option V) (ys : List V), σ = [some (.ref a), some (.str z), some (.ref l), x3, x4, x5] ∧ Ex H H' ∧ H' l = some (.lst ys) ∧ ys.length = i ∧ AllT H' ys) ⟨_, _, _, [], rfl, e1, h1, rfl, fun v hv => by cases hv⟩ (fun _ _ _ _ _ => trivial) ?_ ?_
    · rintro i x σ H2 H3 hi ⟨x3, x4, x5, ys, rfl, e2, h2, hly, hT⟩ ⟨rfl, rfl⟩
      have hi2 : i < us.length := by simpa using hi
      have e0 : (0 : Int) + (i : Int) = (i : Int) := Int.zero_add _
      obtain ⟨u, hu⟩ : ∃ u, us[i]? = some u := ⟨us[i], List.getElem?_eq_getElem hi2⟩
      obtain ⟨r, hr2, hrow⟩ := (hA.tex (TEx.of e2)).at hu
      have hgr := hg r (List.mem_of_getElem? hr2)
      obtain ⟨p, vf, rfl, hp, pf, fs, rfl, hpf, hfs⟩ := hrow
      have hlf := hfs.len
      have hl2 := hgr.2.1
      refine ⟨_, rfl, _, rfl, .inl ⟨a, _, _, _, rfl, rfl, sq_of (e2 _ _ ha), by rw [e0]; exact atI_nat hu, ?_⟩⟩
      refine .inr (.inl ⟨p, _, 1, _, rfl, rfl, st_of hp, atI_nat (j := 1) rfl, ?_⟩)
      refine .inl ⟨pf, _, rfl, .inr (st_of hpf), ?_⟩
      refine ⟨(fs.length : Int), rfl, by omega, by omega, ?_⟩
      refine lcG (walk_range (lo := 0) (n := ((fs.length : Nat) : Int).toNat)) (by omega) trivial (fun _ _ _ _ => trivial) yFn_ex (fun j zs _ => zs.length = j) (fun _ _ _ _ _ h => h) rfl ?_ ?_
      · rintro j x H4 H5 zs hj e4 ⟨rfl, rfl⟩ hlz N N0 kN kN0
        refine ⟨rfl, ?_⟩
        refine ⟨_, rfl, _, rfl, _, rfl, by show 3 ≤ sizeLine; decide, fun t ht => ?_⟩
        exact kN _ _ (Ex.new ht) (by rw [List.length_append, hlz]; rfl)
      · rintro l2 H4 zs hl4 e4 h4 _ hlz
        refine ⟨l2, _, rfl, .inl ⟨sq_of h4, fun t ht => ?_⟩⟩
        generalize hq5 : upd H4 t _ = H5
        obtain ⟨e5, h5⟩ := gen1 hq5 ht
        have e25 := e4.trans e5
        refine ⟨_, rfl, .inl ⟨rfl, _, sq_of (e25 _ _ h2)⟩, ?_⟩
        refine ⟨_, rfl, _, rfl, .inl ⟨a, _, _, _, rfl, rfl, sq_of (e25 _ _ (e2 _ _ ha)), by rw [e0]; exact atI_nat hu, ?_⟩⟩
        refine ⟨2, rfl, ?_⟩
        refine sl_toG (j := 2) (e25 _ _ hp) fun t6 H6 e6 h6 => ?_
        refine ⟨_, rfl, _, rfl, by show 2 ≤ sizeLine; decide, fun t7 n7 => ?_⟩
        generalize hq7 : upd H6 t7 _ = H7
        obtain ⟨e7, h7⟩ := gen1 hq7 n7
        refine cat_G (e7 _ _ h6) h7 (by show 2 + 2 ≤ 1000; decide) fun t8 H8 e8 h8 => ?_
        have e28 := ((e25.trans e6).trans e7).trans e8
        have hl8 := e28 _ _ h2
        refine ⟨l, _, _, rfl, rfl, hl8, ?_, ?_⟩
        · exact sz_lt (by omega)
        · refine ⟨_, _, _, _, rfl, Ex.mut (e2.trans e28) hln, upd_same, by rw [List.length_append, hly]; rfl, ?_⟩
          refine AllT.tex (TEx.lst hl8) (AllT.snoc (hT.tex (TEx.of e28)) ⟨t8, _, rfl, h8⟩)
    · rintro σ H2 ⟨x3, x4, x5, ys, rfl, e2, h2, hly, hT⟩
      refine ⟨_, rfl, q _ l ys e2 hln h2 ?_ hT⟩
      have : ys.length = us.length := by simpa using hly
      omega
/-- a start that was drawn: a tuple with two lists of rows in front -/
def StAt (H : Hp) (v : V) : Prop := ∃ (p pa pb : Addr) (x : V) (us ws : List V) (rs qs : List Rw), v = .ref p ∧ H p = some (.tup [.ref pa, .ref pb, x]) ∧ H pa = some (.lst us) ∧ AllRw H us rs ∧ (∀ r ∈ rs, gR r) ∧ rs.length ≤ 50 ∧ H pb = some (.lst ws) ∧ AllRw H ws qs ∧ (∀ r ∈ qs, gR r) ∧ qs.length ≤ 50
def spStart : Sp := fun vs H Q _ => ∃ (b : Addr) (v : V) (ns ts : List Str) (m : Int), vs = [.ref b, v, .int m] ∧ BagAt H b ∧ WorldAt H v ns ts ∧ WOk ns ts ∧ 1 ≤ m ∧ m ≤ 20 ∧ ∀ (H' : Hp) (u : V), Ex H H' → StAt H' u → Q u H'
theorem ok_start (T : Txt0 mg) (D : Df K mg "_law_start" s_l_start) (c_l_row : CalG P w K mg base 5 "_law_row" spRow) (c_l_rows : CalG P w K mg base 6 "_law_rows" spRows) (c_l_atom : CalG P w K mg base 3 "_law_atom" spAtom) : CalG P w K mg base 7 "_law_start" spStart := by
  refine cal_mk D sc_l_start (fun _ _ _ _ _ _ us hl => match us, hl with | [_, _, _], _ => rfl) (fun vs H Q E h => ?_) (fun f cdv A outer s H vs Q E hr hG h => ?_)
  · obtain ⟨b, v, ns, ts, m, rfl, _⟩ := h
    rfl
  · obtain ⟨b, v, ns, ts, m, rfl, hb, hv, hw, m0, m1, q⟩ := h
    refine ⟨_, (pss_cons (ps_set (i := 3) sc_l_start.nd rfl (Or.inl rfl) (pe_op opAdd (pe_lst (pa_cons (pe_cG c_l_row hr hG (by decide) rfl (pa_cons (pv 0) (pa_cons (pv 1) pa_nil))) pa_nil)) (pe_cG c_l_rows hr hG (by decide) rfl (pa_cons (pv 0) (pa_cons (pv 1) (pa_cons (pe_op op_sub (pv 2) pe_int) pa_nil))))))
      (pss_one (ps_ret (pe_tup (pa_cons (pv 3) (pa_cons (pe_cG c_l_rows hr hG (by decide) rfl (pa_cons (pv 0) (pa_cons (pv 1) (pa_cons pe_int pa_nil)))) (pa_cons (pe_cG c_l_atom hr hG (by decide) rfl (pa_cons (pv 0) (pa_cons (pe_dget (hu_of hr) (pv 1) pe_str (fun _ _ => rfl)) pa_nil))) pa_nil))))))), ?_⟩
    have ht2 := hw.t2
    have ht4 := hw.t4
    refine ⟨_, rfl, _, rfl, b, v, ns, ts, rfl, hb, hv, hw, fun H1 u r e1 hu hg _ => ?_⟩
    refine ⟨by show 1 ≤ sizeLine; decide, fun l hl => ?_⟩
    generalize hq2 : upd H1 l _ = H2
    obtain ⟨e2, h2⟩ := gen1 hq2 hl
    have e02 := e1.trans e2
    refine ⟨_, rfl, _, rfl, _, rfl, m, 1, rfl, rfl, ?_⟩
    refine ⟨b, v, ns, ts, _, rfl, hb.ex e02, hv.ex e02, hw, by omega, by omega, fun H3 p3 us rs e3 _ h3 hA3 hg3 hl3 _ => ?_⟩
    have e03 := e02.trans e3
    have hlu := hA3.len
    refine .inr (.inr (.inl ⟨l, p3, _, _, rfl, rfl, e3 _ _ h2, h3, Nat.le_trans (show 1 + us.length ≤ 50 by omega) (by show 50 ≤ sizeLine; decide), fun l4 n4 => ?_⟩))
    generalize hq4 : upd H3 l4 _ = H4
    obtain ⟨e4, h4⟩ := gen1 hq4 n4
    have e04 := e03.trans e4
    refine ⟨_, rfl, ?_⟩
    refine ⟨_, rfl, _, rfl, ?_⟩
    refine ⟨b, v, ns, ts, 2, rfl, hb.ex e04, hv.ex e04, hw, by decide, by decide, fun H5 p5 us5 rs5 e5 _ h5 hA5 hg5 hl5 _ => ?_⟩
    have e05 := e04.trans e5
    obtain ⟨d, pn, pt, kvs, rfl, hd, hkn, hkt, hpn, hpt⟩ := hv.ex e05
    refine ⟨_, rfl, _, rfl, d, .ref pt, rfl, .inl ⟨kvs, Sum.inr "things", .inl hd, rfl, hkt.symm⟩, ?_⟩
    refine ⟨b, pt, ts, rfl, hb.ex e05, hpt, (fun e => by rw [e] at ht2; exact absurd ht2 (by decide)), by omega, fun H6 va a e6 ha _ _ _ => ?_⟩
    refine ⟨by show 3 ≤ sizeLine; decide, fun t ht => ?_⟩
    generalize hq7 : upd H6 t _ = H7
    obtain ⟨e7, h7⟩ := gen1 hq7 ht
    have e57 := e6.trans e7
    have e47 := e5.trans e57
    have e17 := ((e2.trans e3).trans e4).trans e47
    have e37 := e4.trans e47
    refine q _ _ (e05.trans e57) ⟨t, l4, p5, va, _, _, r :: rs, rs5, rfl, h7, e47 _ _ h4, ⟨hu.tex (TEx.of e17), hA3.tex (TEx.of e37)⟩, fun x hx => ?_, by rw [List.length_cons]; omega, e57 _ _ h5, hA5.tex (TEx.of e57), hg5, by omega⟩
    rcases List.mem_cons.mp hx with rfl | hx
    · exact hg
    · exact hg3 x hx
/-- a draft: the lists of both homes -/
def DrAt (H : Hp) (v : V) : Prop := ∃ (d pg pb : Addr) (kvs : List (Key × V)) (gs bs : List V), v = .ref d ∧ H d = some (.dK kvs) ∧ valV kvs (Sum.inr "goal") = some (.ref pg) ∧ valV kvs (Sum.inr "book") = some (.ref pb) ∧ H pg = some (.lst gs) ∧ H pb = some (.lst bs) ∧ gs.length ≤ 50 ∧ bs.length ≤ 50
theorem DrAt.ex {H H' : Hp} {v : V} (e : Ex H H') (h : DrAt H v) : DrAt H' v := by
  obtain ⟨d, pg, pb, kvs, gs, bs, h1, h2, h3, h4, h5, h6, h7⟩ := h
  exact ⟨d, pg, pb, kvs, gs, bs, h1, e _ _ h2, h3, h4, e _ _ h5, e _ _ h6, h7⟩
theorem w_goal (x y : V) : valV (mergeK [] [((Sum.inr "goal" : Key), x), ((Sum.inr "book" : Key), y)]) (Sum.inr "goal") = some x := by rfl
theorem w_book (x y : V) : valV (mergeK [] [((Sum.inr "goal" : Key), x), ((Sum.inr "book" : Key), y)]) (Sum.inr "book") = some y := by rfl
def spSame : Sp := fun vs H Q _ => ∃ (v : V), vs = [v] ∧ StAt H v ∧ ∀ (H' : Hp) (u : V), Ex H H' → DrAt H' u → Q u H'
theorem ok_same (T : Txt0 mg) (D : Df K mg "_law_same_start" s_l_same_start) (c_l_begun : CalG P w K mg base 1 "_law_begun" spBegun) : CalG P w K mg base 2 "_law_same_start" spSame := by
  refine cal_mk D sc_l_same_start (fun _ _ _ _ _ _ us hl => match us, hl with | [_], _ => rfl) (fun vs H Q E h => ?_) (fun f cdv A outer s H vs Q E hr hG h => ?_)
  · obtain ⟨v, rfl, _⟩ := h
    rfl
  · obtain ⟨v, rfl, ⟨p, pa, pb, x, us, ws, rs, qs, rfl, hp, hpa, hA, hgA, hlA, hpb, hB, hgB, hlB⟩, q⟩ := h
    refine ⟨_, (pss_cons (ps_par (i := 1) (j := 2) rfl sc_l_same_start.nd rfl rfl (by decide) rfl rfl (pa_cons (pe_cG c_l_begun hr hG (by decide) rfl (pa_cons (pe_ix ixAny (pv 0) pe_int (fun _ _ => rfl)) (pa_cons pe_str pa_nil))) (pa_cons (pe_cG c_l_begun hr hG (by decide) rfl (pa_cons (pe_ix ixAny (pv 0) pe_int (fun _ _ => rfl)) (pa_cons pe_str pa_nil))) pa_nil)) (by first | rfl | with_unfolding_all rfl | kernel_rfl))
      (pss_one (ps_ret (pe_disp (pps_cons pe_str (pe_lcO (pe_lc (own := [("_law_row_here", 3)]) rfl sc_l_same_start.nd (piAny (pv 1)) (blkOk_by (own := [("_law_row_here", 3)]) (N := ["_law_start_here", "_law_board", "_law_shelf", "_law_row_here"]) (sc := defScope s_l_same_start) (by first | decide +kernel | kernel_rfl)) (fun _ _ _ _ _ => pg_name (i := 3) sc_l_same_start.nd rfl (Or.inl rfl)) (fun _ _ _ _ _ => pts_nil) (fun _ _ _ _ _ => pe_slice slAnyB (pv 3) po_none (po_some pe_int)))) (pps_cons pe_str (pe_lcO (pe_lc (own := [("_law_row_here", 3)]) rfl sc_l_same_start.nd (piAny (pv 2)) (blkOk_by (own := [("_law_row_here", 3)]) (N := ["_law_start_here", "_law_board", "_law_shelf", "_law_row_here"]) (sc := defScope s_l_same_start) (by first | decide +kernel | kernel_rfl)) (fun _ _ _ _ _ => pg_name (i := 3) sc_l_same_start.nd rfl (Or.inl rfl)) (fun _ _ _ _ _ => pts_nil) (fun _ _ _ _ _ => pe_slice slAnyB (pv 3) po_none (po_some pe_int)))) pps_nil)) (by rfl) (by rfl) (fun z => by cases z) (by decide))))), ?_⟩
    refine ⟨_, rfl, .inr (.inl ⟨p, _, 0, _, rfl, rfl, st_of hp, atI_nat (j := 0) rfl, ?_⟩)⟩
    refine ⟨pa, us, rs, "goal", rfl, hpa, hA, hgA, hlA, fun H1 l1 ys1 e1 _ h1 hl1 hT1 => ?_⟩
    refine ⟨_, rfl, .inr (.inl ⟨p, _, 1, _, rfl, rfl, st_of (e1 _ _ hp), atI_nat (j := 1) rfl, ?_⟩)⟩
    refine ⟨pb, ws, qs, "book", rfl, e1 _ _ hpb, hB.tex (TEx.of e1), hgB, hlB, fun H2 l2 ys2 e2 _ h2 hl2 hT2 => ?_⟩
    refine ⟨_, _, rfl, fun d hd => ?_⟩
    generalize hq3 : upd H2 d _ = H3
    obtain ⟨e3, h3⟩ := gen1 hq3 hd
    refine .inl ⟨_, rfl, l1, rfl, ⟨_, sq_of ((e2.trans e3) _ _ h1)⟩, ?_⟩
    refine lcG (walk_list (xs := ys1)) (by omega) (sq_of ((e2.trans e3) _ _ h1)) (fun _ _ e h => ex_l e h) yAt_ex (fun j zs _ => zs.length = j) (fun _ _ _ _ _ h => h) rfl ?_ ?_
    · rintro j x H4 H5 zs hj e4 ⟨rfl, hx⟩ hlz N N0 kN kN0
      obtain ⟨p5, xs5, rfl, hp5⟩ := hT1 x (List.mem_of_getElem? hx)
      refine ⟨rfl, ?_⟩
      refine ⟨_, rfl, 3, rfl, ?_⟩
      refine sl_toG (j := 3) (((e2.trans e3).trans e4) _ _ hp5) fun t6 H6 e6 h6 => ?_
      exact kN _ _ e6 (by rw [List.length_append, hlz]; rfl)
    · rintro l4 H4 zs hl4 e4 h4 _ hlz
      refine .inl ⟨_, rfl, l2, rfl, ⟨_, sq_of ((e3.trans e4) _ _ h2)⟩, ?_⟩
      refine lcG (walk_list (xs := ys2)) (by omega) (sq_of ((e3.trans e4) _ _ h2)) (fun _ _ e h => ex_l e h) yAt_ex (fun j zs _ => zs.length = j) (fun _ _ _ _ _ h => h) rfl ?_ ?_
      · rintro j x H5 H6 zs2 hj e5 ⟨rfl, hx⟩ hlz2 N N0 kN kN0
        obtain ⟨p5, xs5, rfl, hp5⟩ := hT2 x (List.mem_of_getElem? hx)
        refine ⟨rfl, ?_⟩
        refine ⟨_, rfl, 3, rfl, ?_⟩
        refine sl_toG (j := 3) (((e3.trans e4).trans e5) _ _ hp5) fun t6 H6 e6 h6 => ?_
        exact kN _ _ e6 (by rw [List.length_append, hlz2]; rfl)
      · rintro l5 H5 zs2 hl5 e5 h5 _ hlz2
        refine ⟨(e4.trans e5) _ _ h3, [(Sum.inr "goal", .ref l4), (Sum.inr "book", .ref l5)], rfl, by show 2 ≤ 15; decide, ?_⟩
        have e35 := e4.trans e5
        have hl4b := e5 _ _ h4
        have n1 : l4 ≠ d := fun e => by
          rw [e, e35 _ _ h3] at hl4b
          cases hl4b
        have n2 : l5 ≠ d := fun e => by
          rw [e, e35 _ _ h3] at h5
          cases h5
        exact q _ _ (Ex.mut ((e1.trans e2).trans (e3.trans e35)) (none_at (e1.trans e2) hd)) ⟨d, l4, l5, _, zs, zs2, rfl, upd_same, w_goal _ _, w_book _ _, by rw [upd_ne n1]; exact hl4b, by rw [upd_ne n2]; exact h5, by omega, by omega⟩
end
end Own

namespace Own
open PySem PySem.Spec PyProof.Rows L2 Evl
theorem word7 {r : Int} (h0 : 0 ≤ r) (h1 : r < 7) : ∃ z : Str, atI [V.str "put", V.str "put", V.str "out", V.str "call", V.str "turn", V.str "part", V.str "more"] r = some (.str z) ∧ (z = "put" ∨ z = "out" ∨ z = "call" ∨ z = "turn" ∨ z = "part" ∨ z = "more") := by
  have q : r = 0 ∨ r = 1 ∨ r = 2 ∨ r = 3 ∨ r = 4 ∨ r = 5 ∨ r = 6 := by omega
  rcases q with rfl | rfl | rfl | rfl | rfl | rfl | rfl
  · exact ⟨_, rfl, .inl rfl⟩
  · exact ⟨_, rfl, .inl rfl⟩
  · exact ⟨_, rfl, .inr (.inl rfl)⟩
  · exact ⟨_, rfl, .inr (.inr (.inl rfl))⟩
  · exact ⟨_, rfl, .inr (.inr (.inr (.inl rfl)))⟩
  · exact ⟨_, rfl, .inr (.inr (.inr (.inr (.inl rfl))))⟩
  · exact ⟨_, rfl, .inr (.inr (.inr (.inr (.inr rfl))))⟩
theorem home4 {r : Int} (h0 : 0 ≤ r) (h1 : r < 4) : ∃ z : Str, atI [V.str "goal", V.str "goal", V.str "goal", V.str "book"] r = some (.str z) ∧ (z = "goal" ∨ z = "book") := by
  have q : r = 0 ∨ r = 1 ∨ r = 2 ∨ r = 3 := by omega
  rcases q with rfl | rfl | rfl | rfl
  · exact ⟨_, rfl, .inl rfl⟩
  · exact ⟨_, rfl, .inl rfl⟩
  · exact ⟨_, rfl, .inl rfl⟩
  · exact ⟨_, rfl, .inr rfl⟩
theorem three_i {i j r : Int} (h0 : 0 ≤ r) (h1 : r < 3) (hi : 0 ≤ i) (hi2 : i ≤ 1000) (hj : 0 ≤ j) (hj2 : j ≤ 1000) : ∃ k : Int, atI [V.int 0, V.int i, V.int j] r = some (.int k) ∧ 0 ≤ k ∧ k ≤ 1000 := by
  have q : r = 0 ∨ r = 1 ∨ r = 2 := by omega
  rcases q with rfl | rfl | rfl
  · exact ⟨0, rfl, by omega, by omega⟩
  · exact ⟨i, rfl, hi, hi2⟩
  · exact ⟨j, rfl, hj, hj2⟩
theorem okD_int {r : Int} (h0 : 0 ≤ r) (h1 : r ≤ 1000) : okD 0 1921 (.int r) := by
  refine ⟨decide_eq_true ?_, Nat.le_refl _, Nat.le_refl _⟩
  exact Nat.lt_of_le_of_lt (Nat.log2_le_self _) (by omega)
theorem okD_word {z : Str} (h : z = "put" ∨ z = "out" ∨ z = "call" ∨ z = "turn" ∨ z = "part" ∨ z = "more" ∨ z = "goal" ∨ z = "book" ∨ z = "zzz") : okD 0 85 (.str z) := by
  have q : lay z = true ∧ z.length ≤ 8 := by
    rcases h with rfl | rfl | rfl | rfl | rfl | rfl | rfl | rfl | rfl <;> exact ⟨by decide +kernel, by decide +kernel⟩
  exact okD_str (L := 8) q.1 q.2
/-- an atom of names -/
def nA (a : A3) : Prop := isR3 a.1 = true ∧ isNm a.2.1 = true ∧ isNm a.2.2 = true
theorem nA.atomD {a : A3} (h : nA a) : Own.atomD (atD a) = true := by
  show (isR3 a.1 && (isNm a.2.1 && isNm a.2.2)) = true
  rw [h.1, h.2.1, h.2.2]
  rfl
theorem nA_fact {as : List A3} (h : ∀ a ∈ as, nA a) (h1 : 1 ≤ as.length) (h2 : as.length ≤ 2) : factD (faD as) = true := by
  show (decide (1 ≤ (as.map atD).length) && (decide ((as.map atD).length ≤ 2) && (as.map atD).all Own.atomD)) = true
  rw [List.length_map, decide_eq_true h1, decide_eq_true h2, Bool.true_and, Bool.true_and, List.all_eq_true]
  intro d hd
  obtain ⟨a, ha, rfl⟩ := List.mem_map.mp hd
  exact (h a ha).atomD
theorem zzz_nm : isNm "zzz" = true := by decide +kernel
theorem AtomAt.daE {H : Hp} {v : V} {a : A3} (h : AtomAt H v a) : Da H v (atD a) := h.da
section
variable {P : Program} {w : World} {K : PySem.W.Frag} {mg : Str → Option Value} {base : Heap}
def spEdit : Sp := fun vs H Q _ => ∃ (b : Addr) (v u : V) (ns ts : List Str), vs = [.ref b, v, u] ∧ BagAt H b ∧ WorldAt H v ns ts ∧ WOk ns ts ∧ DrAt H u ∧
  ∀ (H' : Hp) (p : Addr) (xs : List V) (ds : List PyData), Ex H H' → H' p = some (.tup xs) → DaAll H' xs ds → editL ds = true → ds.length ≤ 5 → okD 5 11000 (.tuple ds) → Q (.ref p) H'
theorem ok_edit (T : Txt0 mg) (D : Df K mg "_law_edit" s_l_edit) (c_l_take : CalG P w K mg base 1 "_law_take" spTake) (c_l_some : CalG P w K mg base 2 "_law_some" (spSome K)) (c_l_fact : CalG P w K mg base 4 "_law_fact" spFact) (c_l_atom : CalG P w K mg base 3 "_law_atom" spAtom) : CalG P w K mg base 5 "_law_edit" spEdit := by
  refine cal_mk D sc_l_edit (fun _ _ _ _ _ _ us hl => match us, hl with | [_, _, _], _ => rfl) (fun vs H Q E h => ?_) (fun f cdv A outer s H vs Q E hr hG h => ?_)
  · obtain ⟨b, v, u, ns, ts, rfl, _⟩ := h
    rfl
  · obtain ⟨b, v, u, ns, ts, rfl, hb, hv, hw, hu, q⟩ := h
    refine ⟨_, (pss_cons (ps_set (i := 3) sc_l_edit.nd rfl (Or.inl rfl) (pe_ix ixAny (pe_lst (pa_cons pe_str (pa_cons pe_str (pa_cons pe_str (pa_cons pe_str (pa_cons pe_str (pa_cons pe_str (pa_cons pe_str pa_nil)))))))) (pe_cG c_l_take hr hG (by decide) rfl (pa_cons (pv 0) (pa_cons pe_int pa_nil))) (fun _ _ => rfl)))
      (pss_cons (ps_set (i := 4) sc_l_edit.nd rfl (Or.inl rfl) (pe_ix ixAny (pe_lst (pa_cons pe_str (pa_cons pe_str (pa_cons pe_str (pa_cons pe_str pa_nil))))) (pe_cG c_l_take hr hG (by decide) rfl (pa_cons (pv 0) (pa_cons pe_int pa_nil))) (fun _ _ => rfl)))
      (pss_cons (ps_set (i := 5) sc_l_edit.nd rfl (Or.inl rfl) (pe_callB callLen (by rfl) T.len PySem.boot_len (pa_cons (pe_dget (hu_of hr) (pv 2) (pv 4) (fun _ _ => rfl)) pa_nil)))
      (pss_cons (ps_set (i := 6) sc_l_edit.nd rfl (Or.inl rfl) (pe_cG c_l_take hr hG (by decide) rfl (pa_cons (pv 0) (pa_cons (pe_op opAdd (pv 5) pe_int) pa_nil))))
      (pss_cons (ps_if (pt_cmpR (opEq hr) (pv 3) pe_str (nomark _)) (pss_cons (ps_set (i := 7) sc_l_edit.nd rfl (Or.inl rfl) (pe_tup (pa_cons (pe_cG c_l_some hr hG (by decide) rfl (pa_cons (pv 0) (pa_cons (pe_op opAdd (pe_dget (hu_of hr) (pv 1) pe_str (fun _ _ => rfl)) (pe_lst (pa_cons pe_str pa_nil))) pa_nil))) (pa_cons (pe_cG c_l_fact hr hG (by decide) rfl (pa_cons (pv 0) (pa_cons (pe_dget (hu_of hr) (pv 1) pe_str (fun _ _ => rfl)) pa_nil))) pa_nil))))
      (pss_one (ps_ret (pe_tup (pa_cons (pv 3) (pa_cons (pv 4) (pa_cons (pe_ix ixAny (pe_lst (pa_cons pe_int (pa_cons (pv 5) (pa_cons (pv 6) pa_nil)))) (pe_cG c_l_take hr hG (by decide) rfl (pa_cons (pv 0) (pa_cons pe_int pa_nil))) (fun _ _ => rfl)) (pa_cons (pv 7) pa_nil)))))))) pss_nil)
      (pss_cons (ps_if (pt_cmpR (opEq hr) (pv 3) pe_str (nomark _)) (pss_one (ps_ret (pe_tup (pa_cons (pv 3) (pa_cons (pv 4) (pa_cons (pv 6) (pa_cons (pe_cG c_l_some hr hG (by decide) rfl (pa_cons (pv 0) (pa_cons (pe_op opAdd (pe_dget (hu_of hr) (pv 1) pe_str (fun _ _ => rfl)) (pe_lst (pa_cons pe_str pa_nil))) pa_nil))) pa_nil))))))) pss_nil)
      (pss_cons (ps_if (pt_cmpR (opEq hr) (pv 3) pe_str (nomark _)) (pss_one (ps_ret (pe_tup (pa_cons (pv 3) (pa_cons (pv 4) (pa_cons (pv 6) (pa_cons (pe_cG c_l_atom hr hG (by decide) rfl (pa_cons (pv 0) (pa_cons (pe_dget (hu_of hr) (pv 1) pe_str (fun _ _ => rfl)) pa_nil))) (pa_cons (pe_cG c_l_take hr hG (by decide) rfl (pa_cons (pv 0) (pa_cons pe_int pa_nil))) pa_nil)))))))) pss_nil)
      (pss_one (ps_ret (pe_tup (pa_cons (pv 3) (pa_cons (pv 4) (pa_cons (pv 6) pa_nil))))))))))))), ?_⟩
    have hn3 := hw.n
    have ht2 := hw.t2
    have ht4 := hw.t4
    have htne : ts ≠ [] := fun e => by rw [e] at ht2; exact absurd ht2 (by decide)
    refine ⟨by show 7 ≤ sizeLine; decide, fun l1 n1 => ?_⟩
    generalize hq1 : upd H l1 _ = H1
    obtain ⟨e1, h1⟩ := gen1 hq1 n1
    refine ⟨_, rfl, b, 7, rfl, hb.ex e1, by decide, by decide, fun H2 r2 r20 r21 e2 => ?_⟩
    obtain ⟨z, hz, hzw⟩ := word7 r20 r21
    refine .inl ⟨l1, _, _, _, rfl, rfl, sq_of (e2 _ _ h1), hz, ?_⟩
    refine ⟨by show 4 ≤ sizeLine; decide, fun l3 n3 => ?_⟩
    generalize hq3 : upd H2 l3 _ = H3
    obtain ⟨e3, h3⟩ := gen1 hq3 n3
    have e03 := (e1.trans e2).trans e3
    refine ⟨_, rfl, b, 4, rfl, hb.ex e03, by decide, by decide, fun H4 r4 r40 r41 e4 => ?_⟩
    obtain ⟨hm, hhm, hho⟩ := home4 r40 r41
    refine .inl ⟨l3, _, _, _, rfl, rfl, sq_of (e4 _ _ h3), hhm, ?_⟩
    have e04 := e03.trans e4
    obtain ⟨d, pg, pb, kvs, gs, bs, rfl, hd, hkg, hkb, hpg, hpb, hlg, hlb⟩ := hu.ex e04
    obtain ⟨pl, ls, hpl, hll, hll2⟩ : ∃ pl ls, valV kvs (Sum.inr hm) = some (.ref pl) ∧ H4 pl = some (.lst ls) ∧ ls.length ≤ 50 := by
      rcases hho with rfl | rfl
      · exact ⟨pg, gs, hkg, hpg, hlg⟩
      · exact ⟨pb, bs, hkb, hpb, hlb⟩
    refine ⟨_, rfl, _, rfl, d, .ref pl, rfl, .inl ⟨kvs, Sum.inr hm, .inl hd, rfl, hpl.symm⟩, ?_⟩
    refine .inl ⟨pl, _, rfl, .inl (sq_of hll), ?_⟩
    refine ⟨_, rfl, _, rfl, .inl ⟨_, 1, rfl, rfl, ?_⟩⟩
    refine ⟨b, _, rfl, hb.ex e04, by omega, by omega, fun H5 j j0 j1 e5 => ?_⟩
    have e05 := e04.trans e5
    have hj2 : j ≤ 1000 := by omega
    obtain ⟨dw, pn, pt, kvw, rfl, hdw, hkn, hkt, hpn, hpt⟩ := hv
    have fin : ∀ (H' : Hp) (t : Addr) (k : Int) (vs : List V) (r : List PyData), Ex H H' → H' t = some (.tup (.str z :: .str hm :: .int k :: vs)) → DaAll H' vs r → 0 ≤ k → k ≤ 1000 → restD z r = true → (∀ g ∈ r, okD 4 2000 g) → r.length ≤ 2 → Q (.ref t) H' := by
      intro H' t k vs r e' h' hA k0 k1 hr' hok hl'
      refine q H' t _ (.str z :: .str hm :: .int k :: r) e' h' (.cons (.str _) (.cons (.str _) (.cons (.int _) hA))) ?_ (by rw [List.length_cons, List.length_cons, List.length_cons]; omega) ((okD_tup (n := 4) (W := 2000) (m := 5) (fun g hg => ?_) (by rw [List.length_cons, List.length_cons, List.length_cons]; omega)).mono (by decide) (by decide))
      · show (homeD (.str hm) && (decide (0 ≤ k) && restD z r)) = true
        rw [hr', decide_eq_true k0]
        rcases hho with rfl | rfl <;> decide +kernel
      · rcases List.mem_cons.mp hg with rfl | hg
        · exact (okD_word (by rcases hzw with h | h | h | h | h | h <;> simp [h])).mono (by decide) (by decide)
        · rcases List.mem_cons.mp hg with rfl | hg
          · exact (okD_word (by rcases hho with h | h <;> simp [h])).mono (by decide) (by decide)
          · rcases List.mem_cons.mp hg with rfl | hg
            · exact (okD_int k0 k1).mono (by decide) (by decide)
            · exact hok g hg
    -- a name of the world, or one more
    have some1 : ∀ (H6 : Hp) (Z : VK), Ex H H6 → (∀ (H' : Hp) (nm : Str), Ex H6 H' → isNm nm = true → Z (.str nm) H') → ∀ l7 : Addr, H6 l7 = some (.lst (ns.map V.str ++ [.str "zzz"])) → ∃ (b' a' : Addr) (xs : List V), [V.ref b, V.ref l7] = [.ref b', .ref a'] ∧ BagAt H6 b' ∧ (SqL K H6 a' xs ∨ SqT K H6 a' xs) ∧ xs ≠ [] ∧ xs.length ≤ 100000 ∧ ∀ (H' : Hp) (i : Nat) (x : V), Ex H6 H' → xs[i]? = some x → Z x H' := by
      intro H6 Z e6 hZ l7 h7
      refine ⟨b, l7, _, rfl, hb.ex e6, .inl (sq_of h7), by simp, by rw [List.length_append, List.length_map, hn3]; decide, fun H' i x e' hx => ?_⟩
      rw [show ns.map V.str ++ [V.str "zzz"] = (ns ++ (["zzz"] : List Str)).map V.str from by rw [List.map_append]; rfl] at hx
      obtain ⟨nm, hnm, rfl⟩ := str_at hx
      refine hZ H' nm e' ?_
      rcases List.mem_append.mp (List.mem_of_getElem? hnm) with h | h
      · exact hw.nn nm h
      · rw [List.mem_singleton] at h
        rw [h]
        exact zzz_nm
    refine ⟨_, rfl, .inl ⟨rfl, _, rfl, ?_⟩⟩
    rw [str_dec]
    by_cases z1 : z = "put"
    · rw [decide_eq_true z1]
      refine iteT ?_
      refine ⟨_, rfl, _, rfl, dw, .ref pn, rfl, .inl ⟨kvw, Sum.inr "names", .inl (e05 _ _ hdw), rfl, hkn.symm⟩, ?_⟩
      refine ⟨by show 1 ≤ sizeLine; decide, fun l6 n6 => ?_⟩
      generalize hq6 : upd H5 l6 _ = H6
      obtain ⟨e6, h6⟩ := gen1 hq6 n6
      refine .inr (.inr (.inl ⟨pn, l6, _, _, rfl, rfl, (e05.trans e6) _ _ hpn, h6, by rw [List.length_map, hn3]; show 3 + 1 ≤ sizeLine; decide, fun l7 n7 => ?_⟩))
      generalize hq7 : upd H6 l7 _ = H7
      obtain ⟨e7, h7⟩ := gen1 hq7 n7
      have e07 := (e05.trans e6).trans e7
      refine some1 H7 _ e07 (fun H8 nm e8 hnm => ?_) l7 h7
      have e08 := e07.trans e8
      refine ⟨_, rfl, _, rfl, dw, .ref pt, rfl, .inl ⟨kvw, Sum.inr "things", .inl (e08 _ _ hdw), rfl, hkt.symm⟩, ?_⟩
      refine ⟨b, pt, ts, rfl, hb.ex e08, e08 _ _ hpt, htne, by omega, fun H9 vf as e9 hf hl1 hl2 hall => ?_⟩
      have hna : ∀ a ∈ as, nA a := fun a ha => ⟨(hall a ha).1, hw.nt _ (hall a ha).2.1, hw.nt _ (hall a ha).2.2⟩
      have hga : ∀ a ∈ as, gA a := fun a ha => gA_of hw.nt (isR_of (hall a ha).1) (.inr (hall a ha).2.1) (.inr (hall a ha).2.2)
      refine ⟨by show 2 ≤ sizeLine; decide, fun t10 n10 => ?_⟩
      generalize hq10 : upd H9 t10 _ = H10
      obtain ⟨e10, h10⟩ := gen1 hq10 n10
      have e010 := (e08.trans e9).trans e10
      refine ⟨_, rfl, _, rfl, _, rfl, _, rfl, by show 3 ≤ sizeLine; decide, fun l11 n11 => ?_⟩
      generalize hq11 : upd H10 l11 _ = H11
      obtain ⟨e11, h11⟩ := gen1 hq11 n11
      refine ⟨_, rfl, b, 3, rfl, hb.ex (e010.trans e11), by decide, by decide, fun H12 r12 r120 r121 e12 => ?_⟩
      obtain ⟨k, hk, k0, k1⟩ := three_i (i := (ls.length : Int)) (j := j) r120 r121 (by omega) (by omega) j0 hj2
      refine .inl ⟨l11, _, _, _, rfl, rfl, sq_of (e12 _ _ h11), hk, ?_⟩
      refine ⟨_, rfl, by show 4 ≤ sizeLine; decide, fun t13 n13 => ?_⟩
      generalize hq13 : upd H12 t13 _ = H13
      obtain ⟨e13, h13⟩ := gen1 hq13 n13
      have e1013 := (e11.trans e12).trans e13
      refine fin H13 t13 k [.ref t10] [rwD (nm, as)] (e010.trans e1013) h13 (.cons (RowAt.da ⟨t10, vf, rfl, e1013 _ _ h10, hf.ex (e10.trans e1013)⟩) .nil) k0 k1 ?_ (fun g hg => ?_) (by show 1 ≤ 2; decide)
      · show ((decide (z = "put") && rowD (rwD (nm, as))) || _) = true
        rw [decide_eq_true z1, show rowD (rwD (nm, as)) = (isNm nm && factD (faD as)) from rfl, hnm, nA_fact hna hl1 hl2]
        rfl
      · rw [List.mem_singleton] at hg
        rw [hg]
        exact (gR.okD ⟨hnm, hl2, hga⟩).mono (by decide) (by decide)
    · rw [decide_eq_false z1]
      refine iteF ⟨_, rfl, .inl ⟨rfl, _, rfl, ?_⟩⟩
      rw [str_dec]
      by_cases z2 : z = "call"
      · rw [decide_eq_true z2]
        refine iteT ?_
        refine ⟨_, rfl, _, rfl, _, rfl, _, rfl, _, rfl, dw, .ref pn, rfl, .inl ⟨kvw, Sum.inr "names", .inl (e05 _ _ hdw), rfl, hkn.symm⟩, ?_⟩
        refine ⟨by show 1 ≤ sizeLine; decide, fun l6 n6 => ?_⟩
        generalize hq6 : upd H5 l6 _ = H6
        obtain ⟨e6, h6⟩ := gen1 hq6 n6
        refine .inr (.inr (.inl ⟨pn, l6, _, _, rfl, rfl, (e05.trans e6) _ _ hpn, h6, by rw [List.length_map, hn3]; show 3 + 1 ≤ sizeLine; decide, fun l7 n7 => ?_⟩))
        generalize hq7 : upd H6 l7 _ = H7
        obtain ⟨e7, h7⟩ := gen1 hq7 n7
        have e07 := (e05.trans e6).trans e7
        refine some1 H7 _ e07 (fun H8 nm e8 hnm => ?_) l7 h7
        refine ⟨by show 4 ≤ sizeLine; decide, fun t13 n13 => ?_⟩
        generalize hq13 : upd H8 t13 _ = H13
        obtain ⟨e13, h13⟩ := gen1 hq13 n13
        refine fin H13 t13 j [.str nm] [.str nm] ((e07.trans e8).trans e13) h13 (.cons (.str _) .nil) j0 hj2 ?_ (fun g hg => ?_) (by show 1 ≤ 2; decide)
        · show (_ || (decide (z = "call") && isNm nm)) = true
          rw [decide_eq_true z2, hnm, Bool.true_and, Bool.or_true]
        · rw [List.mem_singleton] at hg
          rw [hg]
          exact (okD_str (L := 8) (nm_ok hnm) (nm_len hnm)).mono (by decide) (by decide)
      · rw [decide_eq_false z2]
        refine iteF ⟨_, rfl, .inl ⟨rfl, _, rfl, ?_⟩⟩
        rw [str_dec]
        by_cases z3 : z = "more"
        · rw [decide_eq_true z3]
          refine iteT ?_
          refine ⟨_, rfl, _, rfl, _, rfl, _, rfl, _, rfl, dw, .ref pt, rfl, .inl ⟨kvw, Sum.inr "things", .inl (e05 _ _ hdw), rfl, hkt.symm⟩, ?_⟩
          refine ⟨b, pt, ts, rfl, hb.ex e05, e05 _ _ hpt, htne, by omega, fun H6 va a e6 ha k1 k2 k3 => ?_⟩
          have hna : nA a := ⟨k1, hw.nt _ k2, hw.nt _ k3⟩
          refine ⟨_, rfl, b, 2, rfl, hb.ex (e05.trans e6), by decide, by decide, fun H7 i i0 i1 e7 => ?_⟩
          refine ⟨by show 5 ≤ sizeLine; decide, fun t13 n13 => ?_⟩
          generalize hq13 : upd H7 t13 _ = H13
          obtain ⟨e13, h13⟩ := gen1 hq13 n13
          refine fin H13 t13 j [va, .int i] [atD a, .int i] (((e05.trans e6).trans e7).trans e13) h13 (.cons (AtomAt.da (ha.ex (e7.trans e13))) (.cons (.int _) .nil)) j0 hj2 ?_ (fun g hg => ?_) (by show 2 ≤ 2; decide)
          · show (decide (z = "more") && (Own.atomD (atD a) && (decide (i = 0) || decide (i = 1)))) = true
            rw [decide_eq_true z3, hna.atomD]
            have : i = 0 ∨ i = 1 := by omega
            rcases this with rfl | rfl <;> decide
          · simp only [List.mem_cons, List.not_mem_nil, or_false] at hg
            rcases hg with rfl | rfl
            · exact (gA_of hw.nt (isR_of k1) (.inr k2) (.inr k3)).okD.mono (by decide) (by decide)
            · exact (okD_int i0 (by omega)).mono (by decide) (by decide)
        · rw [decide_eq_false z3]
          refine iteF ?_
          refine ⟨_, rfl, _, rfl, _, rfl, by show 3 ≤ sizeLine; decide, fun t13 n13 => ?_⟩
          generalize hq13 : upd H5 t13 _ = H13
          obtain ⟨e13, h13⟩ := gen1 hq13 n13
          refine fin H13 t13 j [] [] (e05.trans e13) h13 .nil j0 hj2 ?_ (fun g hg => by cases hg) (Nat.zero_le _)
          rcases hzw with h | h | h | h | h | h
          · exact absurd h z1
          · rw [h]; decide +kernel
          · exact absurd h z2
          · rw [h]; decide +kernel
          · rw [h]; decide +kernel
          · exact absurd h z3
end
end Own

namespace Own
open PySem PySem.Spec PyProof.Rows L2 Evl
abbrev s_l_is_number : Stmt := top 37
theorem sc_l_is_number : FnScope ["_law_thing"] ["_law_thing"] (defScope s_l_is_number) := ⟨rfl, rfl, rfl, by decide +kernel, rfl, by decide +kernel, by decide +kernel⟩
abbrev s_l_edit_form : Stmt := top 38
theorem sc_l_edit_form : FnScope ["_law_thing", "_law_word", "_law_rest"] ["_law_thing"] (defScope s_l_edit_form) := ⟨rfl, rfl, rfl, by decide +kernel, rfl, by decide +kernel, by decide +kernel⟩

theorem look1 (d : PyData) : lookD 1 d = atomD d := by
  unfold lookD
  rw [if_pos rfl]
theorem pc_in (z : Str) : inV (.str z) [.str "put", .str "call"] = (decide (z = "put") || decide (z = "call")) := by
  rw [show [V.str "put", V.str "call"] = (["put", "call"] : List Str).map V.str from rfl, in_strs]
  by_cases h1 : z = "put" <;> by_cases h2 : z = "call" <;> simp [h1, h2]
theorem otp_in (z : Str) : inV (.str z) [.str "out", .str "turn", .str "part"] = (decide (z = "out") || (decide (z = "turn") || decide (z = "part"))) := by
  rw [show [V.str "out", V.str "turn", V.str "part"] = (["out", "turn", "part"] : List Str).map V.str from rfl, in_strs]
  by_cases h1 : z = "out" <;> by_cases h2 : z = "turn" <;> by_cases h3 : z = "part" <;> simp [h1, h2, h3]
theorem rest_pc {z : Str} (h : (decide (z = "put") || decide (z = "call")) = true) : ∀ r : List PyData, restD z r = (decide (r.length = 1) && (match r with | [x] => if decide (z = "put") = true then rowD x else nmD x | _ => false))
  | [] => by
    show (decide (z = "out") || (decide (z = "turn") || decide (z = "part"))) = _
    simp only [Bool.or_eq_true, decide_eq_true_eq] at h
    rcases h with rfl | rfl <;> rfl
  | [x] => by
    show ((decide (z = "put") && rowD x) || (decide (z = "call") && nmD x)) = (true && if decide (z = "put") = true then rowD x else nmD x)
    simp only [Bool.or_eq_true, decide_eq_true_eq] at h
    rcases h with rfl | rfl
    · rw [show decide (("put" : Str) = "call") = false from by decide, decide_eq_true rfl, Bool.false_and, Bool.or_false, Bool.true_and, Bool.true_and]
      rfl
    · rw [show decide (("call" : Str) = "put") = false from by decide, decide_eq_true rfl, Bool.false_and, Bool.false_or, Bool.true_and, Bool.true_and]
      rfl
  | [x, y] => by
    show (decide (z = "more") && (atomD x && sideD y)) = _
    simp only [Bool.or_eq_true, decide_eq_true_eq] at h
    rcases h with rfl | rfl <;> rfl
  | _ :: _ :: _ :: _ => by
    show false = (decide (_ = 1) && false)
    rw [Bool.and_false]
theorem rest_more : ∀ r : List PyData, restD "more" r = (decide (r.length = 2) && (match r with | [x, y] => atomD x && sideD y | _ => false))
  | [] => by decide +kernel
  | [x] => by
    show ((decide (("more" : Str) = "put") && rowD x) || (decide (("more" : Str) = "call") && nmD x)) = _
    rfl
  | [x, y] => rfl
  | _ :: _ :: _ :: _ => by
    show false = (decide (_ = 2) && false)
    rw [Bool.and_false]
theorem rest_else {z : Str} (h1 : z ≠ "put") (h2 : z ≠ "call") (h3 : z ≠ "more") : ∀ r : List PyData, restD z r = ((decide (z = "out") || (decide (z = "turn") || decide (z = "part"))) && r.isEmpty)
  | [] => by
    show (decide (z = "out") || (decide (z = "turn") || decide (z = "part"))) = (_ && true)
    rw [Bool.and_true]
  | [x] => by
    show ((decide (z = "put") && rowD x) || (decide (z = "call") && nmD x)) = (_ && false)
    rw [decide_eq_false h1, decide_eq_false h2, Bool.and_false]
    rfl
  | [x, y] => by
    show (decide (z = "more") && (atomD x && sideD y)) = (_ && false)
    rw [decide_eq_false h3, Bool.and_false]
    rfl
  | _ :: _ :: _ :: _ => by
    show false = (_ && false)
    rw [Bool.and_false]
section
variable {P : Program} {w : World} {K : PySem.W.Frag} {mg : Str → Option Value} {base : Heap} {rel : Addr}
theorem ok_is_number (T : Txt0 mg) (TI : TxtI K mg rel) (D : Df K mg "_law_is_number" s_l_is_number) : CalG P w K mg base 1 "_law_is_number" (spIs intD) := by
  refine cal_mk D sc_l_is_number (fun _ _ _ _ _ _ us hl => match us, hl with | [_], _ => rfl) (fun vs H Q E h => ?_) (fun f cdv A outer s H vs Q E hr hG h => ?_)
  · obtain ⟨v, d, rfl, _⟩ := h
    rfl
  · obtain ⟨v, d, rfl, hv, hok, q⟩ := h
    refine ⟨_, (pss_one (ps_ret (pe_and (pe_callB call_isi (by rfl) TI.isinstance (by decide +kernel) (pa_cons (pv 0) (pa_cons (pe_bltn (v := .ty "int") (by rfl) T.int (by decide +kernel) rfl) pa_nil))) (pe_one (pe_not (pe_callB call_isi (by rfl) TI.isinstance (by decide +kernel) (pa_cons (pv 0) (pa_cons (pe_bltn (v := .ty "bool") (by rfl) TI.bool (by decide +kernel) rfl) pa_nil)))))))), ?_⟩
    refine ⟨_, rfl, v, .ty "int", _, _, _, rfl, .ty _, hv.ty, kit_ty (kit_int d), _, rfl, ?_⟩
    cases hs : isIntD d with
    | false =>
      refine iteF ?_
      have e : intD d = false := by cases d <;> first | rfl | cases hs
      rw [← e]
      exact q _ (Ex.refl _)
    | true =>
      refine iteT ⟨_, rfl, v, .ty "bool", _, _, _, rfl, .ty _, hv.ty, kit_ty (kit_bool d), _, rfl, ?_⟩
      have e : (!isBoolD d) = intD d := by cases d <;> first | rfl | cases hs
      rw [e]
      exact q _ (Ex.refl _)
theorem ok_edit_form (T : Txt0 mg) (TI : TxtI K mg rel) (D : Df K mg "_law_edit_form" s_l_edit_form) (c_l_is_number : CalG P w K mg base 1 "_law_is_number" (spIs intD)) (c_l_is_row : CalG P w K mg base 4 "_law_is_row" (spIs rowD)) (c_l_is_name : CalG P w K mg base 1 "_law_is_name" (spIs nmD)) (c_l_is_atom : CalG P w K mg base 2 "_law_is_atom" spLook) :
    CalG P w K mg base 5 "_law_edit_form" (spIs editD) := by
  refine cal_mk D sc_l_edit_form (fun _ _ _ _ _ _ us hl => match us, hl with | [_], _ => rfl) (fun vs H Q E h => ?_) (fun f cdv A outer s H vs Q E hr hG h => ?_)
  · obtain ⟨v, a, rfl, _⟩ := h
    rfl
  · obtain ⟨v, d, rfl, hv, hok, q⟩ := h
    refine ⟨_, (pss_cons (ps_if (PW.pt (pw_or (pt_not (pt_val (pe_callB call_isi (by rfl) TI.isinstance (by decide +kernel) (pa_cons (pv 0) (pa_cons (pe_bltn (v := .ty "tuple") (by rfl) T.tuple (by decide +kernel) rfl) pa_nil))))) (pw_or (pt_cmpR opLt (pe_callB callLen (by rfl) T.len PySem.boot_len (pa_cons (pv 0) pa_nil)) pe_int (nomark _)) (pw_or1 (pt_not (pt_val (pe_callB call_isi (by rfl) TI.isinstance (by decide +kernel) (pa_cons (pe_ix ixAny (pv 0) pe_int (fun _ _ => rfl)) (pa_cons (pe_bltn (v := .ty "str") (by rfl) TI.str (by decide +kernel) rfl) pa_nil))))))))) (pss_one (ps_ret pe_bl)) pss_nil)
      (pss_cons (ps_if (PW.pt (pw_or (pt_not (pt_val (pe_callB call_isi (by rfl) TI.isinstance (by decide +kernel) (pa_cons (pe_ix ixAny (pv 0) pe_int (fun _ _ => rfl)) (pa_cons (pe_bltn (v := .ty "str") (by rfl) TI.str (by decide +kernel) rfl) pa_nil))))) (pw_or1 (pt_cmpR opNotIn (pe_ix ixAny (pv 0) pe_int (fun _ _ => rfl)) (pe_tup (pa_cons pe_str (pa_cons pe_str pa_nil))) rfl)))) (pss_one (ps_ret pe_bl)) pss_nil)
      (pss_cons (ps_if (PW.pt (pw_or (pt_not (pt_val (pe_cG c_l_is_number hr hG (by decide) rfl (pa_cons (pe_ix ixAny (pv 0) pe_int (fun _ _ => rfl)) pa_nil)))) (pw_or1 (pt_cmpR opLt (pe_ix ixAny (pv 0) pe_int (fun _ _ => rfl)) pe_int (nomark _))))) (pss_one (ps_ret pe_bl)) pss_nil)
      (pss_cons (ps_par (i := 1) (j := 2) rfl sc_l_edit_form.nd rfl rfl (by decide) rfl rfl (pa_cons (pe_ix ixAny (pv 0) pe_int (fun _ _ => rfl)) (pa_cons (pe_slice slAny (pv 0) (po_some pe_int) po_none) pa_nil)) (by first | rfl | with_unfolding_all rfl | kernel_rfl))
      (pss_cons (ps_if (pt_cmpR opIn (pv 1) (pe_tup (pa_cons pe_str (pa_cons pe_str pa_nil))) rfl) (pss_one (ps_ret (pe_and (pe_cmpR (opEq hr) (pe_callB callLen (by rfl) T.len PySem.boot_len (pa_cons (pv 2) pa_nil)) pe_int (nomark _)) (pe_one (pe_ifExp (pt_cmpR (opEq hr) (pv 1) pe_str (nomark _)) (pe_cG c_l_is_row hr hG (by decide) rfl (pa_cons (pe_ix ixAny (pv 2) pe_int (fun _ _ => rfl)) pa_nil)) (pe_cG c_l_is_name hr hG (by decide) rfl (pa_cons (pe_ix ixAny (pv 2) pe_int (fun _ _ => rfl)) pa_nil))))))) pss_nil)
      (pss_cons (ps_if (pt_cmpR (opEq hr) (pv 1) pe_str (nomark _)) (pss_one (ps_ret (pe_and (pe_cmpR (opEq hr) (pe_callB callLen (by rfl) T.len PySem.boot_len (pa_cons (pv 2) pa_nil)) pe_int (nomark _)) (pe_and (pe_cG c_l_is_atom hr hG (by decide) rfl (pa_cons (pe_ix ixAny (pv 2) pe_int (fun _ _ => rfl)) (pa_cons pe_int pa_nil))) (pe_and (pe_cG c_l_is_number hr hG (by decide) rfl (pa_cons (pe_ix ixAny (pv 2) pe_int (fun _ _ => rfl)) pa_nil)) (pe_one (pe_cmpR opIn (pe_ix ixAny (pv 2) pe_int (fun _ _ => rfl)) (pe_tup (pa_cons pe_int (pa_cons pe_int pa_nil))) rfl))))))) pss_nil)
      (pss_one (ps_ret (pe_and (pe_cmpR opIn (pv 1) (pe_tup (pa_cons pe_str (pa_cons pe_str (pa_cons pe_str pa_nil)))) rfl) (pe_one (pe_cmpR (op_eqT0 hr) (pv 2) (pe_tup pa_nil) (nomark _)))))))))))), ?_⟩
    refine ⟨_, rfl, v, .ty "tuple", _, _, _, rfl, .ty _, hv.ty, kit_ty (kit_tuple d), _, rfl, ?_⟩
    cases hs : isTupD d with
    | false =>
      refine iteT ?_
      rw [← editD_no hs]
      exact q _ (Ex.refl _)
    | true =>
      obtain ⟨ds, rfl⟩ := tup_of hs
      obtain ⟨p, xs, rfl, hp, hA⟩ := hv.tup_inv
      have hl := hA.len
      refine iteF ⟨_, rfl, .inl ⟨p, _, rfl, .inr (st_of hp), ⟨_, _, rfl, rfl, _, rfl, ?_⟩⟩⟩
      by_cases h3 : 3 ≤ ds.length
      · refine ifF (decide_eq_false (by omega)) ?_
        obtain ⟨x, y, z, xr, a, b, c, r, rfl, rfl, ha, hb, hc, hR⟩ := three_on hA h3
        have hlr := hR.len
        refine ⟨_, rfl, .inr (.inl ⟨p, _, 0, _, rfl, rfl, st_of hp, atI_nat (j := 0) rfl, ?_⟩)⟩
        refine ⟨x, .ty "str", _, _, _, rfl, .ty _, ha.ty, kit_ty (kit_str a), _, rfl, ?_⟩
        cases hsa : isStrD a with
        | false =>
          refine iteT ?_
          have e : editD (.tuple (a :: b :: c :: r)) = false := editL_str hsa
          rw [← e]
          exact q _ (Ex.refl _)
        | true =>
          obtain ⟨s0, rfl⟩ := str_of hsa
          have := ha.str_inv
          subst this
          have okb := hok.memT (d := b) (by simp)
          have okc := hok.memT (d := c) (by simp)
          have e : editD (.tuple (.str s0 :: b :: c :: r)) = (homeD b && (natD c && restD s0 r)) := rfl
          rw [e] at q
          refine iteF ⟨_, rfl, .inr (.inl ⟨p, _, 1, _, rfl, rfl, st_of hp, atI_nat (j := 1) rfl, ?_⟩)⟩
          refine ⟨y, .ty "str", _, _, _, rfl, .ty _, hb.ty, kit_ty (kit_str b), _, rfl, ?_⟩
          cases hsb : isStrD b with
          | false =>
            refine iteT ?_
            rw [homeD_no hsb] at q
            exact q _ (Ex.refl _)
          | true =>
            obtain ⟨s1, rfl⟩ := str_of hsb
            have := hb.str_inv
            subst this
            refine iteF ⟨_, rfl, .inr (.inl ⟨p, _, 1, _, rfl, rfl, st_of hp, atI_nat (j := 1) rfl, ?_⟩)⟩
            refine ⟨by show 2 ≤ sizeLine; decide, fun t ht => ?_⟩
            generalize hq1 : upd H t _ = H1
            obtain ⟨e1, h1⟩ := gen1 hq1 ht
            refine .inl ⟨t, _, rfl, .inr (st_of h1), rfl, rfl, _, rfl, ?_⟩
            rw [show inV (.str s1) [.str "goal", .str "book"] = _ from home_in s1]
            rw [show homeD (.str s1) = (decide (s1 = "goal") || decide (s1 = "book")) from rfl] at q
            cases hho : (decide (s1 = "goal") || decide (s1 = "book")) with
            | false =>
              rw [hho] at q
              exact iteT (q _ e1)
            | true =>
              rw [hho] at q
              have hp1 := e1 _ _ hp
              refine iteF ⟨_, rfl, .inr (.inl ⟨p, _, 2, _, rfl, rfl, st_of hp1, atI_nat (j := 2) rfl, ?_⟩)⟩
              refine ⟨z, c, rfl, Da.ex e1 _ hc, okc, fun H2 e2 => ⟨_, rfl, ?_⟩⟩
              have e12 := e1.trans e2
              cases hi : intD c with
              | false =>
                rw [show natD c = false from by cases c <;> first | rfl | cases hi] at q
                exact iteT (q _ e12)
              | true =>
                obtain ⟨i, rfl⟩ : ∃ i, c = .int i := by cases c <;> first | exact ⟨_, rfl⟩ | cases hi
                have := hc.int_inv
                subst this
                have hp2 := e12 _ _ hp
                refine iteF ⟨_, rfl, .inr (.inl ⟨p, _, 2, _, rfl, rfl, st_of hp2, atI_nat (j := 2) rfl, ?_⟩)⟩
                refine ⟨i, 0, rfl, rfl, _, rfl, ?_⟩
                by_cases hi0 : i < 0
                · refine ifT (decide_eq_true hi0) ?_
                  rw [show natD (.int i) = false from decide_eq_false (by omega)] at q
                  exact q _ e12
                · refine ifF (decide_eq_false hi0) ?_
                  rw [show natD (.int i) = true from decide_eq_true (by omega), Bool.true_and, Bool.true_and] at q
                  have okr : ∀ g ∈ r, okD 40 16000000 g := fun g hg => hok.memT (by simp [hg])
                  refine ⟨_, rfl, .inr (.inl ⟨p, _, 0, _, rfl, rfl, st_of hp2, atI_nat (j := 0) rfl, ?_⟩)⟩
                  refine ⟨_, rfl, 3, rfl, ?_⟩
                  refine sl_fromG (j := 3) hp2 fun t3 H3 e3 h3t => ?_
                  have e13 := e12.trans e3
                  have h3t : H3 t3 = some (.tup xr) := h3t
                  have hR3 := DaAll.ex e13 _ hR
                  refine ⟨_, _, rfl, ?_⟩
                  refine ⟨_, rfl, by show 2 ≤ sizeLine; decide, fun t4 n4 => ?_⟩
                  generalize hq4 : upd H3 t4 _ = H4
                  obtain ⟨e4, h4⟩ := gen1 hq4 n4
                  have e14 := e13.trans e4
                  refine .inl ⟨t4, _, rfl, .inr (st_of h4), rfl, rfl, _, rfl, ?_⟩
                  rw [show inV (.str s0) [.str "put", .str "call"] = _ from pc_in s0]
                  cases hpc : (decide (s0 = "put") || decide (s0 = "call")) with
                  | true =>
                    rw [rest_pc hpc] at q
                    refine iteT ⟨_, rfl, .inl ⟨t3, _, rfl, .inr (st_of (e4 _ _ h3t)), .inl ⟨rfl, _, rfl, ?_⟩⟩⟩
                    by_cases hl1 : r.length = 1
                    · obtain ⟨x3, g, rfl, rfl, hg⟩ := one hR3 hl1
                      refine ifT (b := decide (V.int 1 = V.int 1)) (by decide +kernel) ?_
                      refine ⟨_, rfl, .inl ⟨rfl, _, rfl, ?_⟩⟩
                      rw [str_dec]
                      rw [show decide ([g].length = 1) = true from rfl, Bool.true_and] at q
                      cases hpu : decide (s0 = "put") with
                      | true =>
                        refine iteT ⟨_, rfl, .inr (.inl ⟨t3, _, 0, _, rfl, rfl, st_of (e4 _ _ h3t), atI_nat (j := 0) rfl, ?_⟩)⟩
                        refine ⟨x3, g, rfl, Da.ex e4 _ hg, okr g (by simp), fun H5 e5 => ?_⟩
                        rw [hpu] at q
                        exact q _ (e14.trans e5)
                      | false =>
                        refine iteF ⟨_, rfl, .inr (.inl ⟨t3, _, 0, _, rfl, rfl, st_of (e4 _ _ h3t), atI_nat (j := 0) rfl, ?_⟩)⟩
                        refine ⟨x3, g, rfl, Da.ex e4 _ hg, okr g (by simp), fun H5 e5 => ?_⟩
                        rw [hpu] at q
                        exact q _ (e14.trans e5)
                    · refine ifF (b := decide (V.int (xr.length : Int) = V.int ((1 : Nat) : Int))) (by rw [int_eq, decide_eq_false (by omega)]) ?_
                      rw [decide_eq_false hl1, Bool.false_and] at q
                      exact q _ e14
                  | false =>
                    simp only [Bool.or_eq_false_iff, decide_eq_false_iff_not] at hpc
                    refine iteF ⟨_, rfl, .inl ⟨rfl, _, rfl, ?_⟩⟩
                    rw [str_dec]
                    by_cases hmo : s0 = "more"
                    · rw [decide_eq_true hmo]
                      subst hmo
                      rw [rest_more] at q
                      refine iteT ⟨_, rfl, .inl ⟨t3, _, rfl, .inr (st_of (e4 _ _ h3t)), .inl ⟨rfl, _, rfl, ?_⟩⟩⟩
                      by_cases hl2 : r.length = 2
                      · obtain ⟨x3, x4, g, g2, rfl, rfl, hg, hg2⟩ := two hR3 hl2
                        refine ifT (b := decide (V.int 2 = V.int 2)) (by decide +kernel) ?_
                        refine ⟨_, rfl, .inr (.inl ⟨t3, _, 0, _, rfl, rfl, st_of (e4 _ _ h3t), atI_nat (j := 0) rfl, ?_⟩)⟩
                        refine ⟨x3, g, 1, rfl, Da.ex e4 _ hg, okr g (by simp), .inr rfl, fun H5 e5 => ⟨_, rfl, ?_⟩⟩
                        rw [show decide ([g, g2].length = 2) = true from rfl, Bool.true_and] at q
                        have q : ∀ H', Ex H H' → Q (.bl (atomD g && sideD g2)) H' := q
                        rw [look1]
                        have e15 := e14.trans e5
                        cases hag : atomD g with
                        | false =>
                          rw [hag] at q
                          exact iteF (q _ e15)
                        | true =>
                          rw [hag] at q
                          refine iteT ⟨_, rfl, .inr (.inl ⟨t3, _, 1, _, rfl, rfl, st_of ((e4.trans e5) _ _ h3t), atI_nat (j := 1) rfl, ?_⟩)⟩
                          refine ⟨x4, g2, rfl, Da.ex (e4.trans e5) _ hg2, okr g2 (by simp), fun H6 e6 => ⟨_, rfl, ?_⟩⟩
                          have e16 := e15.trans e6
                          cases hi2 : intD g2 with
                          | false =>
                            refine iteF ?_
                            rw [show sideD g2 = false from by cases g2 <;> first | rfl | cases hi2] at q
                            exact q _ e16
                          | true =>
                            obtain ⟨i2, rfl⟩ : ∃ i, g2 = .int i := by cases g2 <;> first | exact ⟨_, rfl⟩ | cases hi2
                            have := hg2.int_inv
                            subst this
                            refine iteT ⟨_, rfl, .inr (.inl ⟨t3, _, 1, _, rfl, rfl, st_of (((e4.trans e5).trans e6) _ _ h3t), atI_nat (j := 1) rfl, ?_⟩)⟩
                            refine ⟨by show 2 ≤ sizeLine; decide, fun t7 n7 => ?_⟩
                            generalize hq7 : upd H6 t7 _ = H7
                            obtain ⟨e7, h7⟩ := gen1 hq7 n7
                            refine .inl ⟨t7, _, rfl, .inr (st_of h7), rfl, rfl, ?_⟩
                            show Q (.bl (inV (.int i2) [.int 0, .int 1])) H7
                            rw [side_in]
                            exact q _ (e16.trans e7)
                      · refine ifF (b := decide (V.int (xr.length : Int) = V.int ((2 : Nat) : Int))) (by rw [int_eq, decide_eq_false (by omega)]) ?_
                        rw [decide_eq_false hl2, Bool.false_and] at q
                        exact q _ e14
                    · rw [decide_eq_false hmo]
                      rw [rest_else hpc.1 hpc.2 hmo] at q
                      refine iteF ⟨_, rfl, by show 3 ≤ sizeLine; decide, fun t5 n5 => ?_⟩
                      generalize hq5 : upd H4 t5 _ = H5
                      obtain ⟨e5, h5⟩ := gen1 hq5 n5
                      refine .inl ⟨t5, _, rfl, .inr (st_of h5), rfl, rfl, _, rfl, ?_⟩
                      rw [show inV (.str s0) [.str "out", .str "turn", .str "part"] = _ from otp_in s0]
                      cases hot : (decide (s0 = "out") || (decide (s0 = "turn") || decide (s0 = "part"))) with
                      | false =>
                        rw [hot] at q
                        exact iteF (q _ (e14.trans e5))
                      | true =>
                        rw [hot] at q
                        refine iteT ⟨_, rfl, by show 0 ≤ sizeLine; decide, fun t6 n6 => ?_⟩
                        generalize hq6 : upd H5 t6 _ = H6
                        obtain ⟨e6, h6⟩ := gen1 hq6 n6
                        refine ⟨t3, t6, xr, rfl, rfl, st_of (((e4.trans e5).trans e6) _ _ h3t), st_of h6, ?_⟩
                        rw [show xr.isEmpty = r.isEmpty from by
                          cases r with
                          | nil => cases hR; rfl
                          | cons g gs => cases hR; rfl]
                        exact q _ ((e14.trans e5).trans e6)
      · refine ifT (decide_eq_true (by omega)) ?_
        have e : editD (.tuple ds) = false := editL_len h3
        rw [← e]
        exact q _ (Ex.refl _)
end
end Own

namespace Own
open PySem PySem.Spec PyProof.Rows L2 Evl
abbrev s_l_edit_odd : Stmt := top 39
theorem sc_l_edit_odd : FnScope ["_law_bag_here", "_law_world_here", "_law_line", "_law_few"] ["_law_bag_here", "_law_world_here"] (defScope s_l_edit_odd) := ⟨rfl, rfl, rfl, by decide +kernel, rfl, by decide +kernel, by decide +kernel⟩
def oL1 : List PyData := [.none, .bool true, .bool false, .int 0, .int 1, .int 2, .int (-1), .int (10 ^ (40 : Int).toNat), .str "", .str "a", .str "goal", .str "books", .str "A", .str "ninesigns", .tuple [], .list [], .dict []]
def oL2 : List PyData := [.tuple [.str "eq", .str "a", .str ""], .tuple [.str "le", .str "a", .str "b"], .list [.list [.list [.list [.list [.list [.list []]]]]]]]
def okL (L : List PyData) : Prop := ∀ d ∈ L, okD 10 7710000 d
theorem okL_app {L M : List PyData} (h : okL L) (k : okL M) : okL (L ++ M) := fun d hd => by
  rcases List.mem_append.mp hd with hd | hd
  · exact h d hd
  · exact k d hd
theorem okL_tab {L : List PyData} (h : (L.all fun d => gD d && (decide (d.depth ≤ 10) && decide (wd d ≤ 7710000))) = true) : okL L := fun d hd => by
  have z := List.all_eq_true.mp h d hd
  simp only [Bool.and_eq_true, decide_eq_true_eq] at z
  exact ⟨z.1, z.2.1, z.2.2⟩
theorem oL1_ok : okL oL1 := okL_tab (by decide +kernel)
theorem oL2_ok : okL oL2 := okL_tab (by decide +kernel)
def rowL (r : Rw) (a : A3) : List PyData := [rwD r, .str r.1, faD r.2, atD a, .list [.str r.1, faD r.2], .tuple [.str a.1, .str a.2.1], .tuple [.str r.1, .tuple [atD a, atD a, atD a]], .tuple [.str r.1, .tuple []]]
theorem rowL_ok {r : Rw} {a : A3} (h : gR r) (ha : gA a) : okL (rowL r a) := by
  have h1 : okD 0 85 (.str r.1) := okD_str (L := 8) (nm_ok h.1) (nm_len h.1)
  have h2 : okD 2 600 (faD r.2) := (okD_fa (m := 2) h.2.2 h.2.1).mono (by decide) (by decide)
  have ha' := ha
  obtain ⟨k1, k2, k3, k4⟩ := ha'
  unfold sOk at k1
  rw [Bool.and_eq_true, Bool.and_eq_true] at k1
  intro d hd
  have hd : d ∈ [rwD r, .str r.1, faD r.2, atD a, .list [.str r.1, faD r.2], .tuple [.str a.1, .str a.2.1], .tuple [.str r.1, .tuple [atD a, atD a, atD a]], .tuple [.str r.1, .tuple []]] := hd
  simp only [List.mem_cons, List.not_mem_nil, or_false] at hd
  rcases hd with rfl | rfl | rfl | rfl | rfl | rfl | rfl | rfl
  · exact h.okD.mono (by decide) (by decide)
  · exact h1.mono (by decide) (by decide)
  · exact h2.mono (by decide) (by decide)
  · exact ha.okD.mono (by decide) (by decide)
  · refine (okD_list (n := 2) (W := 600) (m := 2) (fun g hg => ?_) (Nat.le_refl _)).mono (by decide) (by decide)
    simp only [List.mem_cons, List.not_mem_nil, or_false] at hg
    rcases hg with rfl | rfl
    · exact h1.mono (by decide) (by decide)
    · exact h2
  · refine (okD_tup (n := 0) (W := 85) (m := 2) (fun g hg => ?_) (Nat.le_refl _)).mono (by decide) (by decide)
    simp only [List.mem_cons, List.not_mem_nil, or_false] at hg
    rcases hg with rfl | rfl
    · exact okD_str (L := 8) k1.1 k2
    · exact okD_str (L := 8) k1.2.1 k3
  · refine (okD_tup (n := 2) (W := 900) (m := 2) (fun g hg => ?_) (Nat.le_refl _)).mono (by decide) (by decide)
    simp only [List.mem_cons, List.not_mem_nil, or_false] at hg
    rcases hg with rfl | rfl
    · exact h1.mono (by decide) (by decide)
    · refine (okD_tup (n := 1) (W := 264) (m := 3) (fun g hg => ?_) (Nat.le_refl _)).mono (by decide) (by decide)
      simp only [List.mem_cons, List.not_mem_nil, or_false] at hg
      rcases hg with rfl | rfl | rfl <;> exact ha.okD
  · refine (okD_tup (n := 1) (W := 85) (m := 2) (fun g hg => ?_) (Nat.le_refl _)).mono (by decide) (by decide)
    simp only [List.mem_cons, List.not_mem_nil, or_false] at hg
    rcases hg with rfl | rfl
    · exact h1.mono (by decide) (by decide)
    · exact ⟨rfl, by decide, by decide⟩
theorem zeros_ok : okL [.list (List.replicate 4000 (.int 0))] := fun d hd => by
  rw [List.mem_singleton] at hd
  rw [hd]
  refine (okD_list (n := 0) (W := 1921) (m := 4000) (fun g hg => ?_) (by rw [List.length_replicate]; exact Nat.le_refl _)).mono (by decide) (by decide)
  rw [(List.mem_replicate.mp hg).2]
  exact okD_int (by decide) (by decide)
section
variable {P : Program} {w : World} {K : PySem.W.Frag} {mg : Str → Option Value} {base : Heap}
def spEOdd : Sp := fun vs H Q _ => ∃ (b : Addr) (v : V) (ns ts : List Str), vs = [.ref b, v] ∧ BagAt H b ∧ WorldAt H v ns ts ∧ WOk ns ts ∧ ∀ (H' : Hp) (x : V) (d : PyData), Ex H H' → Da H' x d → okD 10 7710000 d → Q x H'
theorem ok_edit_odd (T : Txt0 mg) (D : Df K mg "_law_edit_odd" s_l_edit_odd) (c_l_row : CalG P w K mg base 5 "_law_row" spRow) (c_l_some : CalG P w K mg base 2 "_law_some" (spSome K)) : CalG P w K mg base 6 "_law_edit_odd" spEOdd := by
  refine cal_mk D sc_l_edit_odd (fun _ _ _ _ _ _ us hl => match us, hl with | [_, _], _ => rfl) (fun vs H Q E h => ?_) (fun f cdv A outer s H vs Q E hr hG h => ?_)
  · obtain ⟨b, v, ns, ts, rfl, _⟩ := h
    rfl
  · obtain ⟨b, v, ns, ts, rfl, hb, hv, hw, q⟩ := h
    refine ⟨_, (pss_cons (ps_set (i := 2) sc_l_edit_odd.nd rfl (Or.inl rfl) (pe_cG c_l_row hr hG (by decide) rfl (pa_cons (pv 0) (pa_cons (pv 1) pa_nil))))
      (pss_cons (ps_set (i := 3) sc_l_edit_odd.nd rfl (Or.inl rfl) (pe_lst (pa_cons pe_non (pa_cons pe_bl (pa_cons pe_bl (pa_cons pe_int (pa_cons pe_int (pa_cons pe_int (pa_cons (pe_un un_neg pe_int) (pa_cons (pe_op op_pow pe_int pe_int) (pa_cons pe_str (pa_cons pe_str (pa_cons pe_str (pa_cons pe_str (pa_cons pe_str (pa_cons pe_str (pa_cons (pe_tup pa_nil) (pa_cons (pe_lst pa_nil) (pa_cons pe_dnewK (pa_cons (pv 2) pa_nil))))))))))))))))))))
      (pss_cons (ps_set (i := 3) sc_l_edit_odd.nd rfl (Or.inl rfl) (pe_op opAdd (pv 3) (pe_lst (pa_cons (pe_ix ixAny (pv 2) pe_int (fun _ _ => rfl)) (pa_cons (pe_ix ixAny (pv 2) pe_int (fun _ _ => rfl)) (pa_cons (pe_ix ixAny (pe_ix ixAny (pv 2) pe_int (fun _ _ => rfl)) pe_int (fun _ _ => rfl)) (pa_cons (pe_callTy call_list_of (by rfl) T.list (by decide +kernel) (pa_cons (pv 2) pa_nil)) (pa_cons (pe_slice slAny (pe_ix ixAny (pe_ix ixAny (pv 2) pe_int (fun _ _ => rfl)) pe_int (fun _ _ => rfl)) po_none (po_some pe_int)) (pa_cons (pe_tup (pa_cons (pe_ix ixAny (pv 2) pe_int (fun _ _ => rfl)) (pa_cons (pe_op opMulT (pe_tup (pa_cons (pe_ix ixAny (pe_ix ixAny (pv 2) pe_int (fun _ _ => rfl)) pe_int (fun _ _ => rfl)) pa_nil)) pe_int) pa_nil))) (pa_cons (pe_tup (pa_cons (pe_ix ixAny (pv 2) pe_int (fun _ _ => rfl)) (pa_cons (pe_tup pa_nil) pa_nil))) pa_nil))))))))))
      (pss_one (ps_ret (pe_cG c_l_some hr hG (by decide) rfl (pa_cons (pv 0) (pa_cons (pe_op opAdd (pv 3) (pe_lst (pa_cons (pe_tup (pa_cons pe_str (pa_cons pe_str (pa_cons pe_str pa_nil)))) (pa_cons (pe_tup (pa_cons pe_str (pa_cons pe_str (pa_cons pe_str pa_nil)))) (pa_cons (pe_lst (pa_cons (pe_lst (pa_cons (pe_lst (pa_cons (pe_lst (pa_cons (pe_lst (pa_cons (pe_lst (pa_cons (pe_lst pa_nil) pa_nil)) pa_nil)) pa_nil)) pa_nil)) pa_nil)) pa_nil)) (pa_cons (pe_op opMulT (pe_lst (pa_cons pe_int pa_nil)) pe_int) pa_nil)))))) pa_nil)))))))), ?_⟩
    refine ⟨_, rfl, _, rfl, b, v, ns, ts, rfl, hb, hv, hw, fun H1 u r e1 hu hg htr => ?_⟩
    have hu0 := hu
    obtain ⟨p, vf, rfl, hp, pf, fs, rfl, hf, hat⟩ := hu
    have g2 := hg.2.1
    have g1 := htr.2.1
    have hlf := hat.len
    obtain ⟨f0, hf0⟩ : ∃ f0, fs[0]? = some f0 := ⟨fs[0], List.getElem?_eq_getElem (by omega)⟩
    obtain ⟨a0, ha0, hat0⟩ := hat.at hf0
    have hat00 := hat0
    obtain ⟨pa, rfl, hpa⟩ := hat0
    have hga := hg.2.2 a0 (List.mem_of_getElem? ha0)
    refine ⟨1, rfl, ?_⟩
    refine ⟨10, 40, rfl, rfl, ⟨by decide, by decide, by decide⟩, ?_⟩
    refine ⟨by show 0 ≤ sizeLine; decide, fun t1 m2 => ?_⟩
    generalize hq2 : upd H1 t1 _ = H2
    obtain ⟨e2, h2⟩ := gen1 hq2 m2
    refine ⟨by show 0 ≤ sizeLine; decide, fun l1 m3 => ?_⟩
    generalize hq3 : upd H2 l1 _ = H3
    obtain ⟨e3, h3⟩ := gen1 hq3 m3
    refine fun d1 m4 => ?_
    generalize hq4 : upd H3 d1 _ = H4
    obtain ⟨e4, h4⟩ := gen1 hq4 m4
    refine ⟨_, rfl, by show 18 ≤ sizeLine; decide, fun l2 m5 => ?_⟩
    generalize hq5 : upd H4 l2 _ = H5
    obtain ⟨e5, h5⟩ := gen1 hq5 m5
    refine ⟨_, rfl, ?_⟩
    refine ⟨_, rfl, .inr (.inl ⟨p, _, 0, _, rfl, rfl, st_of (((((e2).trans e3).trans e4).trans e5) _ _ hp), atI_nat (j := 0) rfl, ?_⟩)⟩
    refine ⟨_, rfl, .inr (.inl ⟨p, _, 1, _, rfl, rfl, st_of (((((e2).trans e3).trans e4).trans e5) _ _ hp), atI_nat (j := 1) rfl, ?_⟩)⟩
    refine ⟨_, rfl, .inr (.inl ⟨p, _, 1, _, rfl, rfl, st_of (((((e2).trans e3).trans e4).trans e5) _ _ hp), atI_nat (j := 1) rfl, ?_⟩)⟩
    refine .inr (.inl ⟨pf, _, 0, _, rfl, rfl, st_of (((((e2).trans e3).trans e4).trans e5) _ _ hf), atI_nat (j := 0) hf0, ?_⟩)
    refine ⟨_, rfl, p, _, rfl, .inr (st_of (((((e2).trans e3).trans e4).trans e5) _ _ hp)), fun l3 m6 => ?_⟩
    generalize hq6 : upd H5 l3 _ = H6
    obtain ⟨e6, h6⟩ := gen1 hq6 m6
    refine ⟨_, rfl, .inr (.inl ⟨p, _, 1, _, rfl, rfl, st_of ((((((e2).trans e3).trans e4).trans e5).trans e6) _ _ hp), atI_nat (j := 1) rfl, ?_⟩)⟩
    refine .inr (.inl ⟨pf, _, 0, _, rfl, rfl, st_of ((((((e2).trans e3).trans e4).trans e5).trans e6) _ _ hf), atI_nat (j := 0) hf0, ?_⟩)
    refine ⟨2, rfl, ?_⟩
    refine sl_toG (j := 2) ((((((e2).trans e3).trans e4).trans e5).trans e6) _ _ hpa) fun t2 H7 e7 h7 => ?_
    refine ⟨_, rfl, .inr (.inl ⟨p, _, 0, _, rfl, rfl, st_of (((((((e2).trans e3).trans e4).trans e5).trans e6).trans e7) _ _ hp), atI_nat (j := 0) rfl, ?_⟩)⟩
    refine ⟨_, rfl, .inr (.inl ⟨p, _, 1, _, rfl, rfl, st_of (((((((e2).trans e3).trans e4).trans e5).trans e6).trans e7) _ _ hp), atI_nat (j := 1) rfl, ?_⟩)⟩
    refine .inr (.inl ⟨pf, _, 0, _, rfl, rfl, st_of (((((((e2).trans e3).trans e4).trans e5).trans e6).trans e7) _ _ hf), atI_nat (j := 0) hf0, ?_⟩)
    refine ⟨by show 1 ≤ sizeLine; decide, fun t3 m8 => ?_⟩
    generalize hq8 : upd H7 t3 _ = H8
    obtain ⟨e8, h8⟩ := gen1 hq8 m8
    refine .inr ⟨t3, 3, _, rfl, rfl, st_of h8, (fun e => by cases e), by decide, by decide, by show 1 ≤ 1000; decide, fun t4 m9 => ?_⟩
    generalize hq9 : upd H8 t4 _ = H9
    obtain ⟨e9, h9⟩ := gen1 hq9 m9
    refine ⟨by show 2 ≤ sizeLine; decide, fun t5 m10 => ?_⟩
    generalize hq10 : upd H9 t5 _ = H10
    obtain ⟨e10, h10⟩ := gen1 hq10 m10
    refine ⟨_, rfl, .inr (.inl ⟨p, _, 0, _, rfl, rfl, st_of ((((((((((e2).trans e3).trans e4).trans e5).trans e6).trans e7).trans e8).trans e9).trans e10) _ _ hp), atI_nat (j := 0) rfl, ?_⟩)⟩
    refine ⟨by show 0 ≤ sizeLine; decide, fun t6 m11 => ?_⟩
    generalize hq11 : upd H10 t6 _ = H11
    obtain ⟨e11, h11⟩ := gen1 hq11 m11
    refine ⟨by show 2 ≤ sizeLine; decide, fun t7 m12 => ?_⟩
    generalize hq12 : upd H11 t7 _ = H12
    obtain ⟨e12, h12⟩ := gen1 hq12 m12
    refine ⟨by show 7 ≤ sizeLine; decide, fun l4 m13 => ?_⟩
    generalize hq13 : upd H12 l4 _ = H13
    obtain ⟨e13, h13⟩ := gen1 hq13 m13
    refine .inr (.inr (.inl ⟨l2, l4, _, _, rfl, rfl, ((((((((e6).trans e7).trans e8).trans e9).trans e10).trans e11).trans e12).trans e13) _ _ h5, h13, by show 18 + 7 ≤ sizeLine; decide, fun l5 m14 => ?_⟩))
    generalize hq14 : upd H13 l5 _ = H14
    obtain ⟨e14, h14⟩ := gen1 hq14 m14
    refine ⟨_, rfl, _, rfl, ?_⟩
    refine ⟨by show 3 ≤ sizeLine; decide, fun t8 m15 => ?_⟩
    generalize hq15 : upd H14 t8 _ = H15
    obtain ⟨e15, h15⟩ := gen1 hq15 m15
    refine ⟨by show 3 ≤ sizeLine; decide, fun t9 m16 => ?_⟩
    generalize hq16 : upd H15 t9 _ = H16
    obtain ⟨e16, h16⟩ := gen1 hq16 m16
    refine ⟨by show 0 ≤ sizeLine; decide, fun g0 m17 => ?_⟩
    generalize hq17 : upd H16 g0 _ = H17
    obtain ⟨e17, h17⟩ := gen1 hq17 m17
    refine ⟨by show 1 ≤ sizeLine; decide, fun g1 m18 => ?_⟩
    generalize hq18 : upd H17 g1 _ = H18
    obtain ⟨e18, h18⟩ := gen1 hq18 m18
    refine ⟨by show 1 ≤ sizeLine; decide, fun g2 m19 => ?_⟩
    generalize hq19 : upd H18 g2 _ = H19
    obtain ⟨e19, h19⟩ := gen1 hq19 m19
    refine ⟨by show 1 ≤ sizeLine; decide, fun g3 m20 => ?_⟩
    generalize hq20 : upd H19 g3 _ = H20
    obtain ⟨e20, h20⟩ := gen1 hq20 m20
    refine ⟨by show 1 ≤ sizeLine; decide, fun g4 m21 => ?_⟩
    generalize hq21 : upd H20 g4 _ = H21
    obtain ⟨e21, h21⟩ := gen1 hq21 m21
    refine ⟨by show 1 ≤ sizeLine; decide, fun g5 m22 => ?_⟩
    generalize hq22 : upd H21 g5 _ = H22
    obtain ⟨e22, h22⟩ := gen1 hq22 m22
    refine ⟨by show 1 ≤ sizeLine; decide, fun g6 m23 => ?_⟩
    generalize hq23 : upd H22 g6 _ = H23
    obtain ⟨e23, h23⟩ := gen1 hq23 m23
    refine ⟨by show 1 ≤ sizeLine; decide, fun z0 m24 => ?_⟩
    generalize hq24 : upd H23 z0 _ = H24
    obtain ⟨e24, h24⟩ := gen1 hq24 m24
    refine .inl (.inr ⟨z0, 4000, _, rfl, rfl, h24, by decide, by decide, by show 1 * 4000 ≤ sizeLine; decide, fun z1 m25 => ?_⟩)
    rw [show (4000 : Int).toNat = 4000 from rfl, flat_one]
    generalize hq25 : upd H24 z1 _ = H25
    obtain ⟨e25, h25⟩ := gen1 hq25 m25
    refine ⟨by show 4 ≤ sizeLine; decide, fun l6 m26 => ?_⟩
    generalize hq26 : upd H25 l6 _ = H26
    obtain ⟨e26, h26⟩ := gen1 hq26 m26
    refine .inr (.inr (.inl ⟨l5, l6, _, _, rfl, rfl, ((((((((((((e15).trans e16).trans e17).trans e18).trans e19).trans e20).trans e21).trans e22).trans e23).trans e24).trans e25).trans e26) _ _ h14, h26, by show 25 + 4 ≤ sizeLine; decide, fun l7 m27 => ?_⟩))
    generalize hq27 : upd H26 l7 _ = H27
    obtain ⟨e27, h27⟩ := gen1 hq27 m27
    have F26 := e27
    have F25 := e26.trans F26
    have F24 := e25.trans F25
    have F23 := e24.trans F24
    have F22 := e23.trans F23
    have F21 := e22.trans F22
    have F20 := e21.trans F21
    have F19 := e20.trans F20
    have F18 := e19.trans F19
    have F17 := e18.trans F18
    have F16 := e17.trans F17
    have F15 := e16.trans F16
    have F14 := e15.trans F15
    have F13 := e14.trans F14
    have F12 := e13.trans F13
    have F11 := e12.trans F12
    have F10 := e11.trans F11
    have F9 := e10.trans F10
    have F8 := e9.trans F9
    have F7 := e8.trans F8
    have F6 := e7.trans F7
    have F5 := e6.trans F6
    have F4 := e5.trans F5
    have F3 := e4.trans F4
    have F2 := e3.trans F3
    have F1 := e2.trans F2
    have hrow : Da H27 (.ref p) (rwD r) := Da.ex F1 _ hu0.da
    have hfa : Da H27 (.ref pf) (faD r.2) := Da.ex F1 _ (FactAt.da ⟨pf, fs, rfl, hf, hat⟩)
    have hat2 : Da H27 (.ref pa) (atD a0) := Da.ex F1 _ hat00.da
    have p1 : DaAll H27 _ (oL1 ++ [rwD r]) := (.cons .non (.cons (.bl true) (.cons (.bl false) (.cons (.int 0) (.cons (.int 1) (.cons (.int 2) (.cons (.int (-1)) (.cons (.int _) (.cons (.str "") (.cons (.str "a") (.cons (.str "goal") (.cons (.str "books") (.cons (.str "A") (.cons (.str "ninesigns") (.cons (.tup (F2 _ _ h2) .nil) (.cons (.lst (F3 _ _ h3) .nil) (.cons (.dct (kv := []) (F4 _ _ h4) rfl) (.cons hrow .nil))))))))))))))))))
    have p2 : DaAll H27 _ [.str r.1, faD r.2, atD a0, .list [.str r.1, faD r.2], .tuple [.str a0.1, .str a0.2.1], .tuple [.str r.1, .tuple [atD a0, atD a0, atD a0]], .tuple [.str r.1, .tuple []]] := (.cons (.str _) (.cons hfa (.cons hat2 (.cons (.lst (F6 _ _ h6) (.cons (.str _) (.cons hfa .nil))) (.cons (.tup (F7 _ _ h7) (.cons (.str _) (.cons (.str _) .nil))) (.cons (.tup (F10 _ _ h10) (.cons (.str _) (.cons (.tup (F9 _ _ h9) (.cons hat2 (.cons hat2 (.cons hat2 .nil)))) .nil))) (.cons (.tup (F12 _ _ h12) (.cons (.str _) (.cons (.tup (F11 _ _ h11) .nil) .nil))) .nil)))))))
    have p3 : DaAll H27 _ (oL2 ++ [.list (List.replicate 4000 (.int 0))]) := (.cons (.tup (F15 _ _ h15) (.cons (.str _) (.cons (.str _) (.cons (.str _) .nil)))) (.cons (.tup (F16 _ _ h16) (.cons (.str _) (.cons (.str _) (.cons (.str _) .nil)))) (.cons (.lst (F23 _ _ h23) (.cons (.lst (F22 _ _ h22) (.cons (.lst (F21 _ _ h21) (.cons (.lst (F20 _ _ h20) (.cons (.lst (F19 _ _ h19) (.cons (.lst (F18 _ _ h18) (.cons (.lst (F17 _ _ h17) .nil) .nil)) .nil)) .nil)) .nil)) .nil)) .nil)) (.cons (.lst (F25 _ _ h25) (DaAll.rep (.int 0) 4000)) .nil))))
    have all := DaAll.app (DaAll.app p1 p2) p3
    refine ⟨b, l7, _, rfl, hb.ex (e1.trans F1), .inl (sq_of h27), (fun e => absurd (congrArg List.length e) (by show ¬ 29 = 0; decide)), by show 29 ≤ 100000; decide, fun H' i x e' hx => ?_⟩
    obtain ⟨d, hd, hda⟩ := all.at hx
    refine q _ _ d ((e1.trans F1).trans e') (Da.ex e' d hda) ?_
    have hm := List.mem_of_getElem? hd
    have hrl := rowL_ok hg hga
    rcases List.mem_append.mp hm with hm | hm
    · rcases List.mem_append.mp hm with hm | hm
      · rcases List.mem_append.mp hm with hm | hm
        · exact oL1_ok d hm
        · exact hrl d (by rw [List.mem_singleton] at hm; rw [hm]; exact List.mem_cons_self)
      · exact hrl d (List.mem_cons_of_mem _ hm)
    · exact okL_app oL2_ok zeros_ok d hm
end
end Own

namespace Own
open PySem PySem.Spec PyProof.Rows L2 Evl
abbrev s_l_edit_bent : Stmt := top 40
theorem sc_l_edit_bent : FnScope ["_law_bag_here", "_law_world_here", "_law_thing", "_law_at", "_law_manner"] ["_law_bag_here", "_law_world_here", "_law_thing"] (defScope s_l_edit_bent) := ⟨rfl, rfl, rfl, by decide +kernel, rfl, by decide +kernel, by decide +kernel⟩
theorem wds_cut (ds : List PyData) (j : Nat) : wds (ds.take j) + wds (ds.drop j) = wds ds := by
  rw [← wds_app, List.take_append_drop]
theorem wds_cut1 (ds : List PyData) (j : Nat) : wds (ds.drop (j + 1)) ≤ wds (ds.drop j) := by
  rw [show ds.drop (j + 1) = (ds.drop j).drop 1 from by rw [List.drop_drop]]
  exact wds_drop 1 _
theorem wds_rev (ds : List PyData) : wds ds.reverse = wds ds := by
  induction ds with
  | nil => rfl
  | cons d ds ih =>
    rw [List.reverse_cons, wds_app, ih]
    show wds ds + (wd d + 2 + 0) = wd d + 2 + wds ds
    omega
theorem okDs.ins {n W V : Nat} {ds es : List PyData} {g : PyData} (h : okDs n W ds) (hg : gD g = true) (hd : g.depth ≤ n) (hm : ∀ d ∈ es, d ∈ ds ∨ d = g) (hw : wds es ≤ V) : okDs n V es := by
  refine ⟨gDs_iff.mpr fun d hd => ?_, depthAll_le.mpr fun d hd' => ?_, hw⟩
  · rcases hm d hd with q | rfl
    · exact gDs_iff.mp h.1 d q
    · exact hg
  · rcases hm d hd' with q | rfl
    · exact depthAll_le.mp h.2.1 d q
    · exact hd
theorem DaAll.rev {H : Hp} : ∀ {vs : List V} {ds : List PyData}, DaAll H vs ds → DaAll H vs.reverse ds.reverse
  | _, _, .nil => .nil
  | _, _, .cons h t => by
    rw [List.reverse_cons, List.reverse_cons]
    exact t.rev.snoc h
section
variable {P : Program} {w : World} {K : PySem.W.Frag} {mg : Str → Option Value} {base : Heap}
def spBent : Sp := fun vs H Q _ => ∃ (b : Addr) (v : V) (p : Addr) (ns ts : List Str) (xs : List V) (ds : List PyData) (n W : Nat), vs = [.ref b, v, .ref p] ∧ BagAt H b ∧ WorldAt H v ns ts ∧ WOk ns ts ∧ H p = some (.tup xs) ∧ DaAll H xs ds ∧ 1 ≤ ds.length ∧ ds.length ≤ 100 ∧ okDs n W ds ∧ 10 ≤ n ∧
  ∀ (H' : Hp) (x : V) (d : PyData), Ex H H' → Da H' x d → okD (n + 2) (W + 7710010) d → Q x H'
theorem ok_edit_bent (T : Txt0 mg) (D : Df K mg "_law_edit_bent" s_l_edit_bent) (c_l_take : CalG P w K mg base 1 "_law_take" spTake) (c_l_edit_odd : CalG P w K mg base 6 "_law_edit_odd" spEOdd) : CalG P w K mg base 7 "_law_edit_bent" spBent := by
  refine cal_mk D sc_l_edit_bent (fun _ _ _ _ _ _ us hl => match us, hl with | [_, _, _], _ => rfl) (fun vs H Q E h => ?_) (fun f cdv A outer s H vs Q E hr hG h => ?_)
  · obtain ⟨b, v, p, ns, ts, xs, ds, n, W, rfl, _⟩ := h
    rfl
  · obtain ⟨b, v, p, ns, ts, xs, ds, n, W, rfl, hb, hv, hw, hp, hA, hl1, hl2, hok, hn, q⟩ := h
    refine ⟨_, (pss_cons (ps_par (i := 3) (j := 4) rfl sc_l_edit_bent.nd rfl rfl (by decide) rfl rfl (pa_cons (pe_cG c_l_take hr hG (by decide) rfl (pa_cons (pv 0) (pa_cons (pe_callB callLen (by rfl) T.len PySem.boot_len (pa_cons (pv 2) pa_nil)) pa_nil))) (pa_cons (pe_cG c_l_take hr hG (by decide) rfl (pa_cons (pv 0) (pa_cons pe_int pa_nil))) pa_nil)) (by first | rfl | with_unfolding_all rfl | kernel_rfl))
      (pss_cons (ps_if (pt_cmpR opLt (pv 4) pe_int (nomark _)) (pss_one (ps_ret (pe_op opAdd (pe_op opAdd (pe_slice slAny (pv 2) po_none (po_some (pv 3))) (pe_tup (pa_cons (pe_cG c_l_edit_odd hr hG (by decide) rfl (pa_cons (pv 0) (pa_cons (pv 1) pa_nil))) pa_nil))) (pe_slice slAny (pv 2) (po_some (pe_op opAdd (pv 3) pe_int)) po_none)))) pss_nil)
      (pss_cons (ps_if (pt_cmpR (opEq hr) (pv 4) pe_int (nomark _)) (pss_one (ps_ret (pe_op opAdd (pe_slice slAny (pv 2) po_none (po_some (pv 3))) (pe_slice slAny (pv 2) (po_some (pe_op opAdd (pv 3) pe_int)) po_none)))) pss_nil)
      (pss_cons (ps_if (pt_cmpR (opEq hr) (pv 4) pe_int (nomark _)) (pss_cons (ps_set (i := 3) sc_l_edit_bent.nd rfl (Or.inl rfl) (pe_cG c_l_take hr hG (by decide) rfl (pa_cons (pv 0) (pa_cons (pe_op opAdd (pe_callB callLen (by rfl) T.len PySem.boot_len (pa_cons (pv 2) pa_nil)) pe_int) pa_nil))))
      (pss_one (ps_ret (pe_op opAdd (pe_op opAdd (pe_slice slAny (pv 2) po_none (po_some (pv 3))) (pe_tup (pa_cons (pe_cG c_l_edit_odd hr hG (by decide) rfl (pa_cons (pv 0) (pa_cons (pv 1) pa_nil))) pa_nil))) (pe_slice slAny (pv 2) (po_some (pv 3)) po_none))))) pss_nil)
      (pss_one (ps_ret (pe_ix ixAny (pe_lst (pa_cons (pe_callTy call_list_of (by rfl) T.list (by decide +kernel) (pa_cons (pv 2) pa_nil)) (pa_cons (pe_tup (pa_cons (pv 2) pa_nil)) (pa_cons (pe_revT (pv 2) (pe_un un_neg pe_int)) (pa_cons (pe_cG c_l_edit_odd hr hG (by decide) rfl (pa_cons (pv 0) (pa_cons (pv 1) pa_nil))) pa_nil))))) (pe_cG c_l_take hr hG (by decide) rfl (pa_cons (pv 0) (pa_cons pe_int pa_nil))) (fun _ _ => rfl)))))))), ?_⟩
    have hlen := hA.len
    have mem_t : ∀ {j : Nat} {d : PyData}, d ∈ ds.take j → d ∈ ds := fun h => List.mem_of_mem_take h
    have mem_d : ∀ {j : Nat} {d : PyData}, d ∈ ds.drop j → d ∈ ds := fun h => List.mem_of_mem_drop h
    refine ⟨_, rfl, _, rfl, .inl ⟨p, _, rfl, .inr (st_of hp), ?_⟩⟩
    refine ⟨b, _, rfl, hb, by omega, by omega, fun H1 jj j0 j1 e1 => ?_⟩
    obtain ⟨j, rfl⟩ : ∃ j : Nat, jj = (j : Int) := ⟨jj.toNat, by omega⟩
    refine ⟨_, rfl, b, 6, rfl, hb.ex e1, by decide, by decide, fun H2 r r0 r1 e2 => ?_⟩
    have e02 := e1.trans e2
    refine ⟨_, _, rfl, ?_⟩
    refine ⟨_, rfl, r, 3, rfl, rfl, _, rfl, ite2 (fun _ => ?_) (fun _ => ?_)⟩
    · refine ⟨_, rfl, _, rfl, _, rfl, ?_⟩
      refine sl_toG (j := j) (e02 _ _ hp) fun t3 H3 e3 h3 => ?_
      have e03 := e02.trans e3
      refine ⟨_, rfl, _, rfl, b, v, ns, ts, rfl, hb.ex e03, hv.ex e03, hw, fun H4 ov od e4 hod hook => ?_⟩
      refine ⟨by show 1 ≤ sizeLine; decide, fun t5 n5 => ?_⟩
      generalize hq5 : upd H4 t5 _ = H5
      obtain ⟨e5, h5⟩ := gen1 hq5 n5
      have lt := List.length_take_le j xs
      have ltd := List.length_drop (i := j + 1) (l := xs)
      refine cat_G ((e4.trans e5) _ _ h3) h5 (by show _ + 1 ≤ 1000; rw [List.length_take]; omega) fun t6 H6 e6 h6 => ?_
      have e06 := ((e03.trans e4).trans e5).trans e6
      refine ⟨_, rfl, _, rfl, .inl ⟨_, 1, rfl, rfl, _, rfl, ?_⟩⟩
      show rSlAny K (.ref p) (some ((j + 1 : Nat) : Int)) none _ _
      refine sl_fromG (j := j + 1) (e06 _ _ hp) fun t7 H7 e7 h7 => ?_
      refine cat_G (e7 _ _ h6) h7 (by rw [List.length_append, List.length_take, List.length_drop]; show _ + 1 + _ ≤ 1000; omega) fun t8 H8 e8 h8 => ?_
      have e78 := e7.trans e8
      have hA8 := DaAll.ex (e06.trans e78) _ hA
      refine q H8 _ (.tuple (ds.take j ++ [od] ++ ds.drop (j + 1))) (e06.trans e78) (.tup h8 (((hA8.take j).snoc (Da.ex ((e5.trans e6).trans e78) _ hod)).app (hA8.drop (j + 1)))) ?_
      refine (okDs.tup (okDs.ins (V := W + 7710002) hok hook.1 (Nat.le_trans hook.2.1 hn) (fun d hd => ?_) ?_)).mono (by omega) (by omega)
      · rcases List.mem_append.mp hd with hd | hd
        · rcases List.mem_append.mp hd with hd | hd
          · exact .inl (mem_t hd)
          · exact .inr (List.mem_singleton.mp hd)
        · exact .inl (mem_d hd)
      · have z1 := wds_cut ds j
        have z2 := wds_cut1 ds j
        have z3 := hok.2.2
        have z4 := hook.2.2
        rw [wds_app, wds_app]
        show _ + (wd od + 2 + 0) + _ ≤ _
        omega
    · refine ⟨_, rfl, .inl ⟨rfl, _, rfl, ite2 (fun _ => ?_) (fun _ => ?_)⟩⟩
      · refine ⟨_, rfl, _, rfl, _, rfl, ?_⟩
        refine sl_toG (j := j) (e02 _ _ hp) fun t3 H3 e3 h3 => ?_
        have e03 := e02.trans e3
        refine ⟨_, rfl, _, rfl, .inl ⟨_, 1, rfl, rfl, _, rfl, ?_⟩⟩
        show rSlAny K (.ref p) (some ((j + 1 : Nat) : Int)) none _ _
        refine sl_fromG (j := j + 1) (e03 _ _ hp) fun t7 H7 e7 h7 => ?_
        refine cat_G (e7 _ _ h3) h7 (by rw [List.length_take, List.length_drop]; omega) fun t8 H8 e8 h8 => ?_
        have e78 := e7.trans e8
        have hA8 := DaAll.ex (e03.trans e78) _ hA
        refine q H8 _ (.tuple (ds.take j ++ ds.drop (j + 1))) (e03.trans e78) (.tup h8 ((hA8.take j).app (hA8.drop (j + 1)))) ?_
        refine (okDs.tup (okDs.sub hok (fun d hd => ?_) ?_)).mono (by omega) (by omega)
        · rcases List.mem_append.mp hd with hd | hd
          · exact mem_t hd
          · exact mem_d hd
        · have z1 := wds_cut ds j
          have z2 := wds_cut1 ds j
          have z3 := hok.2.2
          rw [wds_app]
          omega
      · refine ⟨_, rfl, .inl ⟨rfl, _, rfl, ite2 (fun _ => ?_) (fun _ => ?_)⟩⟩
        · refine ⟨_, rfl, _, rfl, .inl ⟨p, _, rfl, .inr (st_of (e02 _ _ hp)), .inl ⟨_, 1, rfl, rfl, ?_⟩⟩⟩
          refine ⟨b, _, rfl, hb.ex e02, by omega, by omega, fun H3 kk k0 k1 e3 => ?_⟩
          obtain ⟨k, rfl⟩ : ∃ k : Nat, kk = (k : Int) := ⟨kk.toNat, by omega⟩
          have e03 := e02.trans e3
          refine ⟨_, rfl, _, rfl, _, rfl, ?_⟩
          refine sl_toG (j := k) (e03 _ _ hp) fun t4 H4 e4 h4 => ?_
          have e04 := e03.trans e4
          refine ⟨_, rfl, _, rfl, b, v, ns, ts, rfl, hb.ex e04, hv.ex e04, hw, fun H5 ov od e5 hod hook => ?_⟩
          refine ⟨by show 1 ≤ sizeLine; decide, fun t6 n6 => ?_⟩
          generalize hq6 : upd H5 t6 _ = H6
          obtain ⟨e6, h6⟩ := gen1 hq6 n6
          refine cat_G ((e5.trans e6) _ _ h4) h6 (by show _ + 1 ≤ 1000; rw [List.length_take]; omega) fun t7 H7 e7 h7 => ?_
          have e07 := ((e04.trans e5).trans e6).trans e7
          refine ⟨_, rfl, _, rfl, _, rfl, ?_⟩
          refine sl_fromG (j := k) (e07 _ _ hp) fun t8 H8 e8 h8 => ?_
          refine cat_G (e8 _ _ h7) h8 (by rw [List.length_append, List.length_take, List.length_drop]; show _ + 1 + _ ≤ 1000; omega) fun t9 H9 e9 h9 => ?_
          have e79 := e8.trans e9
          have hA9 := DaAll.ex (e07.trans e79) _ hA
          refine q H9 _ (.tuple (ds.take k ++ [od] ++ ds.drop k)) (e07.trans e79) (.tup h9 (((hA9.take k).snoc (Da.ex ((e6.trans e7).trans e79) _ hod)).app (hA9.drop k))) ?_
          refine (okDs.tup (okDs.ins (V := W + 7710002) hok hook.1 (Nat.le_trans hook.2.1 hn) (fun d hd => ?_) ?_)).mono (by omega) (by omega)
          · rcases List.mem_append.mp hd with hd | hd
            · rcases List.mem_append.mp hd with hd | hd
              · exact .inl (mem_t hd)
              · exact .inr (List.mem_singleton.mp hd)
            · exact .inl (mem_d hd)
          · have z1 := wds_cut ds k
            have z3 := hok.2.2
            have z4 := hook.2.2
            rw [wds_app, wds_app]
            show _ + (wd od + 2 + 0) + _ ≤ _
            omega
        · refine ⟨_, rfl, p, _, rfl, .inr (st_of (e02 _ _ hp)), fun l3 n3 => ?_⟩
          generalize hq3 : upd H2 l3 _ = H3
          obtain ⟨e3, h3⟩ := gen1 hq3 n3
          refine ⟨_, rfl, by show 1 ≤ sizeLine; decide, fun t4 n4 => ?_⟩
          generalize hq4 : upd H3 t4 _ = H4
          obtain ⟨e4, h4⟩ := gen1 hq4 n4
          have e04 := (e02.trans e3).trans e4
          refine ⟨_, rfl, 1, rfl, _, rfl, p, xs, rfl, st_of (e04 _ _ hp), rfl, fun t5 n5 => ?_⟩
          generalize hq5 : upd H4 t5 _ = H5
          obtain ⟨e5, h5⟩ := gen1 hq5 n5
          have e05 := e04.trans e5
          refine ⟨_, rfl, _, rfl, b, v, ns, ts, rfl, hb.ex e05, hv.ex e05, hw, fun H6 ov od e6 hod hook => ?_⟩
          refine ⟨by show 4 ≤ sizeLine; decide, fun l7 n7 => ?_⟩
          generalize hq7 : upd H6 l7 _ = H7
          obtain ⟨e7, h7⟩ := gen1 hq7 n7
          have e07 := (e05.trans e6).trans e7
          refine ⟨_, rfl, b, 4, rfl, hb.ex e07, by decide, by decide, fun H8 ii i0 i1 e8 => ?_⟩
          obtain ⟨i, rfl⟩ : ∃ i : Nat, ii = (i : Int) := ⟨ii.toNat, by omega⟩
          have e08 := e07.trans e8
          have hA8 := DaAll.ex e08 _ hA
          have e38 := (((e4.trans e5).trans e6).trans e7).trans e8
          have e48 := ((e5.trans e6).trans e7).trans e8
          have e58 := (e6.trans e7).trans e8
          have e68 := e7.trans e8
          have all : DaAll H8 [.ref l3, .ref t4, .ref t5, ov] [.list ds, .tuple [.tuple ds], .tuple ds.reverse, od] :=
            .cons (.lst (e38 _ _ h3) hA8) (.cons (.tup (e48 _ _ h4) (.cons (.tup (e08 _ _ hp) hA8) .nil)) (.cons (.tup (e58 _ _ h5) hA8.rev) (.cons (Da.ex e68 _ hod) .nil)))
          have hi4 : i < [V.ref l3, V.ref t4, V.ref t5, ov].length := by show i < 4; omega
          have hx : [V.ref l3, V.ref t4, V.ref t5, ov][i]? = some ([V.ref l3, V.ref t4, V.ref t5, ov][i]) := List.getElem?_eq_getElem hi4
          obtain ⟨d, hd, hda⟩ := all.at hx
          refine .inl ⟨l7, _, _, _, rfl, rfl, sq_of (e8 _ _ h7), atI_nat hx, ?_⟩
          refine q H8 _ d e08 hda ?_
          have hm := List.mem_of_getElem? hd
          simp only [List.mem_cons, List.not_mem_nil, or_false] at hm
          rcases hm with rfl | rfl | rfl | rfl
          · exact (okDs.list hok).mono (by omega) (by omega)
          · have k1 := okDs.tup hok
            have k2 : okDs (n + 1) (W + 5) [PyData.tuple ds] := by
              refine ⟨gDs_iff.mpr fun d hd => ?_, depthAll_le.mpr fun d hd => ?_, ?_⟩
              · rw [List.mem_singleton.mp hd]; exact k1.1
              · rw [List.mem_singleton.mp hd]; exact k1.2.1
              · have := k1.2.2
                show wd (.tuple ds) + 2 + 0 ≤ _
                omega
            exact (okDs.tup k2).mono (by omega) (by omega)
          · refine (okDs.tup (okDs.sub hok (fun d hd => List.mem_reverse.mp hd) ?_)).mono (by omega) (by omega)
            rw [wds_rev]
            exact hok.2.2
          · exact hook.mono (by omega) (by omega)
end
end Own

namespace Own
open PySem PySem.Spec PyProof.Rows L2 Evl
abbrev s_law : Stmt := top 41
theorem sc_law : FnScope ["_law_script", "_law_bag_here", "_law_world_here", "_law_draft", "_law_k", "_law_thing", "_law_again", "_law_shown", "_law_due"] ["_law_script"] (defScope s_law) := ⟨rfl, rfl, rfl, by decide +kernel, rfl, by decide +kernel, by decide +kernel⟩
theorem pm_in (z : Str) : inV (.str z) [.str "put", .str "more"] = (decide (z = "put") || decide (z = "more")) := by
  rw [show [V.str "put", V.str "more"] = (["put", "more"] : List Str).map V.str from rfl, in_strs]
  by_cases h1 : z = "put" <;> by_cases h2 : z = "more" <;> simp [h1, h2]
theorem editL_inv {ds : List PyData} (h : editL ds = true) : ∃ (z : Str) (b c : PyData) (r : List PyData), ds = .str z :: b :: c :: r ∧ restD z r = true := by
  unfold editL at h
  split at h
  · simp only [Bool.and_eq_true] at h
    exact ⟨_, _, _, _, rfl, h.2.2⟩
  · cases h
theorem lenOf_le (z : Str) : lenOf z ≤ 5 := by
  unfold lenOf
  repeat' split
  all_goals decide
theorem editL_few {ds : List PyData} (h : editL ds = true) : 3 ≤ ds.length ∧ ds.length ≤ 5 := by
  obtain ⟨z, b, c, r, rfl, hr⟩ := editL_inv h
  have h1 := rest_len hr
  have h2 := lenOf_le z
  rw [List.length_cons, List.length_cons, List.length_cons]
  omega
section
variable {P : Program} {w : World} {K : PySem.W.Frag} {mg : Str → Option Value} {base : Heap} {rel hom len : Addr}
def spLaw (K : PySem.W.Frag) : Sp := fun vs H Q _ => ∃ (a : Addr) (ns : List Int), vs = [.ref a] ∧ SqL K H a (ns.map V.int) ∧ ns.length ≤ 63 ∧ ∀ H', Q (.bl true) H'
theorem ok_law {fl : Addr} {fdl : FuncData} (T : Txt0 mg) (hsys : SysAt base) (F : Fun K "law" "law" s_law fl fdl) (c_l_bag : CalG P w K mg base 1 "_law_bag" (spBag K)) (c_l_take : CalG P w K mg base 1 "_law_take" spTake) (c_l_world : CalG P w K mg base 3 "_law_world" spWorld)
    (c_l_start : CalG P w K mg base 7 "_law_start" spStart) (c_l_same_start : CalG P w K mg base 2 "_law_same_start" spSame) (c_l_edit : CalG P w K mg base 5 "_law_edit" spEdit) (c_l_spoilt : CalG P w K mg base 13 "_law_spoilt" (spSpoilt 10))
    (c_is_edit : CalG P w K mg base 5 "is_edit" (spIs editD)) (c_l_edit_form : CalG P w K mg base 5 "_law_edit_form" (spIs editD)) (c_l_edit_bent : CalG P w K mg base 7 "_law_edit_bent" spBent)
    (c_l_alike : CalG P w K mg base 1 "_law_alike" (spAlike K)) : FnG P w K mg base 14 fl fdl ["_law_script"] (spLaw K) := by
  refine fn_mk F sc_law (fun vs H Q E h => ?_) (fun cdv A outer s H vs Q E hr hG h => ?_)
  · obtain ⟨a, ns, rfl, _⟩ := h
    rfl
  · obtain ⟨a, ms, rfl, ha, hl, q⟩ := h
    refine ⟨_, (pss_cons (ps_set (i := 1) sc_law.nd rfl (Or.inl rfl) (pe_cG c_l_bag hr hG (by decide) rfl (pa_cons (pv 0) pa_nil)))
      (pss_cons (ps_set (i := 2) sc_law.nd rfl (Or.inl rfl) (pe_cG c_l_world hr hG (by decide) rfl (pa_cons (pv 1) pa_nil)))
      (pss_cons (ps_set (i := 3) sc_law.nd rfl (Or.inl rfl) (pe_cG c_l_same_start hr hG (by decide) rfl (pa_cons (pe_cG c_l_start hr hG (by decide) rfl (pa_cons (pv 1) (pa_cons (pv 2) (pa_cons pe_int pa_nil)))) pa_nil)))
      (pss_cons (ps_forO (ps_for PassesOwn.never rfl (pi_range1 rfl T.range (pa_cons pe_int pa_nil)) (pg_name (i := 4) sc_law.nd rfl (Or.inl rfl))
        (pss_cons (ps_set (i := 5) sc_law.nd rfl (Or.inl rfl) (pe_cG c_l_edit hr hG (by decide) rfl (pa_cons (pv 1) (pa_cons (pv 2) (pa_cons (pv 3) pa_nil)))))
      (pss_cons (ps_if (pt_not (pt_val (pe_cG c_l_alike hr hG (by decide) rfl (pa_cons (pe_cG c_is_edit hr hG (by decide) rfl (pa_cons (pv 5) pa_nil)) (pa_cons pe_bl pa_nil))))) (pss_one (ps_ret pe_bl)) pss_nil)
      (Evl.pss_cut (ps_if (PW.pt (pw_and (pt_cmpR opIn (pe_ix ixAny (pv 5) pe_int (fun _ _ => rfl)) (pe_tup (pa_cons pe_str (pa_cons pe_str pa_nil))) rfl) (pw_and1 (pt_cmpR (opEq hr) (pe_cG c_l_take hr hG (by decide) rfl (pa_cons (pv 1) (pa_cons pe_int pa_nil))) pe_int (nomark _))))) (pss_one (ps_set (i := 5) sc_law.nd rfl (Or.inl rfl) (pe_op opAdd (pe_op opAdd (pe_slice slAny (pv 5) po_none (po_some pe_int)) (pe_tup (pa_cons (pe_cG c_l_spoilt hr hG (by decide) rfl (pa_cons (pv 1) (pa_cons (pe_ix ixAny (pv 5) pe_int (fun _ _ => rfl)) pa_nil))) pa_nil))) (pe_slice slAny (pv 5) (po_some pe_int) po_none)))) pss_nil)
      (pss_cons (ps_forO (ps_for PassesOwn.never rfl (pi_range1 rfl T.range (pa_cons (pe_cG c_l_take hr hG (by decide) rfl (pa_cons (pv 1) (pa_cons pe_int pa_nil))) pa_nil)) (pg_name (i := 6) sc_law.nd rfl (Or.inl rfl))
        (pss_one (ps_if (pt_val (pe_cG c_l_edit_form hr hG (by decide) rfl (pa_cons (pv 5) pa_nil))) (pss_one (ps_set (i := 5) sc_law.nd rfl (Or.inl rfl) (pe_cG c_l_edit_bent hr hG (by decide) rfl (pa_cons (pv 1) (pa_cons (pv 2) (pa_cons (pv 5) pa_nil)))))) pss_nil))))
      (pss_cons (ps_par (i := 7) (j := 8) rfl sc_law.nd rfl rfl (by decide) rfl rfl (pa_cons (pe_callB (callReprX hsys hG hr) (by rfl) T.repr (by decide +kernel) (pa_cons (pv 5) pa_nil)) (pa_cons (pe_cG c_l_edit_form hr hG (by decide) rfl (pa_cons (pv 5) pa_nil)) pa_nil)) (by first | rfl | with_unfolding_all rfl | kernel_rfl))
      (pss_one (ps_forO (ps_for PassesOwn.never rfl (pi_range1 rfl T.range (pa_cons pe_int pa_nil)) (pg_name (i := 6) sc_law.nd rfl (Or.inl rfl))
        (pss_one (ps_if (PW.pt (pw_or (pt_not (pt_val (pe_cG c_l_alike hr hG (by decide) rfl (pa_cons (pe_cG c_is_edit hr hG (by decide) rfl (pa_cons (pv 5) pa_nil)) (pa_cons (pv 8) pa_nil))))) (pw_or1 (pt_cmpR (opNe hr) (pe_callB (callReprX hsys hG hr) (by rfl) T.repr (by decide +kernel) (pa_cons (pv 5) pa_nil)) (pv 7) (nomark _))))) (pss_one (ps_ret pe_bl)) pss_nil))))))))))))
      (pss_one (ps_ret pe_bl)))))), ?_⟩
    refine ⟨_, rfl, a, ms, rfl, ha, hl, fun H1 b e1 hb => ?_⟩
    refine ⟨_, rfl, b, rfl, hb, fun H2 wv ns ts e2 hwv hw => ?_⟩
    refine ⟨_, rfl, _, rfl, b, wv, ns, ts, 3, rfl, hb.ex e2, hwv, hw, by decide, by decide, fun H3 sv e3 hst => ?_⟩
    refine ⟨sv, rfl, hst, fun H4 dv e4 hdr => ?_⟩
    have hb4 := hb.ex ((e2.trans e3).trans e4)
    have hwv4 := hwv.ex (e3.trans e4)
    refine ⟨40, rfl, by decide, by decide, ?_⟩
    refine frG (walk_range (lo := 0) (n := 40)) (fun i σ H' => ∃ x4 x5 x6 x7 x8 : Option V, σ = [some (.ref a), some (.ref b), some wv, some dv, x4, x5, x6, x7, x8] ∧ Ex H4 H') ⟨_, _, _, _, _, rfl, Ex.refl _⟩ (fun _ _ _ _ _ => trivial) ?_ ?_
    · rintro i x σ H5 H6 hi ⟨x4, x5, x6, x7, x8, rfl, e5⟩ ⟨rfl, rfl⟩
      refine ⟨_, rfl, _, rfl, _, rfl, b, wv, dv, ns, ts, rfl, hb4.ex e5, hwv4.ex e5, hw, hdr.ex e5, fun H7 p xs ds e7 hp hA hed hl5 hok => ?_⟩
      have e47 := e5.trans e7
      have hok' : okD 40 16000000 (.tuple ds) := hok.mono (by decide) (by decide)
      refine ⟨_, rfl, .ref p, .tuple ds, rfl, .tup hp hA, hok', fun H8 e8 => ?_⟩
      have e48 := e47.trans e8
      refine ⟨.bl (editD (.tuple ds)), .bl true, .bool true, rfl, ?_, .bl _, (fin_bool _).fine (by decide) (by decide), _, rfl, iteF ?_⟩
      · rw [show editD (.tuple ds) = true from hed]
        exact .bl _
      have hp8 := e8 _ _ hp
      have hA8 := DaAll.ex e8 _ hA
      refine ⟨fun σ' H' => ∃ (v : V) (d : PyData), σ' = [some (.ref a), some (.ref b), some wv, some dv, some (.int (0 + (i : Int))), some v, x6, x7, x8] ∧ Ex H8 H' ∧ Da H' v d ∧ okD 12 150000 d, ?_, ?_⟩
      · obtain ⟨z, bd, cd, r, rfl, hrs⟩ := editL_inv hed
        obtain ⟨x0, y, c, xr, g0, g1, g2, gr, rfl, hes, h0, hbd, hcd, hR⟩ := three_on hA8 (by rw [List.length_cons, List.length_cons, List.length_cons]; omega)
        cases hes
        have := h0.str_inv
        subst this
        have stay : ∀ H', Ex H8 H' → ∃ (v : V) (d : PyData), [some (V.ref a), some (.ref b), some wv, some dv, some (.int (0 + (i : Int))), some (.ref p), x6, x7, x8] = [some (.ref a), some (.ref b), some wv, some dv, some (.int (0 + (i : Int))), some v, x6, x7, x8] ∧ Ex H8 H' ∧ Da H' v d ∧ okD 12 150000 d :=
          fun H' e' => ⟨.ref p, _, rfl, e', Da.ex e' _ (.tup hp8 hA8), hok.mono (by decide) (by decide)⟩
        refine ⟨_, rfl, .inr (.inl ⟨p, _, 0, _, rfl, rfl, st_of hp8, atI_nat (j := 0) rfl, ?_⟩)⟩
        refine ⟨by show 2 ≤ sizeLine; decide, fun t n9 => ?_⟩
        generalize hq9 : upd H8 t _ = H9
        obtain ⟨e9, h9⟩ := gen1 hq9 n9
        refine .inl ⟨t, _, rfl, .inr (st_of h9), rfl, rfl, _, rfl, ?_⟩
        rw [show inV (.str z) [.str "put", .str "more"] = _ from pm_in z]
        cases hpm : (decide (z = "put") || decide (z = "more")) with
        | false => exact iteF (iteF (stay _ e9))
        | true =>
          refine iteT ⟨_, rfl, b, 3, rfl, hb4.ex (e48.trans e9), by decide, by decide, fun H10 rr _ _ e10 => .inl ⟨rfl, _, rfl, ?_⟩⟩
          have e810 := e9.trans e10
          refine ite2 (fun _ => ?_) (fun _ => stay _ e810)
          have hl4 : 1 ≤ r.length := by
            have h1 := rest_len hrs
            simp only [Bool.or_eq_true, decide_eq_true_eq] at hpm
            have h2 : 4 ≤ lenOf z := by rcases hpm with rfl | rfl <;> decide +kernel
            omega
          obtain ⟨x3, xr', g3, gr', rfl, rfl, hg3, hR'⟩ : ∃ x3 xr' g3 gr', xr = x3 :: xr' ∧ r = g3 :: gr' ∧ Da H8 x3 g3 ∧ DaAll H8 xr' gr' := by
            cases hR with
            | nil => exact absurd hl4 (by decide)
            | cons h t => exact ⟨_, _, _, _, rfl, rfl, h, t⟩
          have okm : ∀ g ∈ (PyData.str z :: bd :: cd :: g3 :: gr'), okD 5 11000 g := fun g hg => hok.memT hg
          have ok3 : okD 4 11000 g3 := by
            obtain ⟨k1, k2, k3⟩ := hok
            have kk : PyData.depthAll (PyData.str z :: bd :: cd :: g3 :: gr') + 1 ≤ 5 := k2
            exact ⟨(okm g3 (by simp)).1, depthAll_le.mp (Nat.le_of_succ_le_succ kk) g3 (by simp), (okm g3 (by simp)).2.2⟩
          refine ⟨_, rfl, 3, rfl, ?_⟩
          refine sl_toG (j := 3) (e810 _ _ hp8) fun t11 H11 e11 h11 => ?_
          have e811 := e810.trans e11
          refine ⟨_, rfl, _, rfl, .inr (.inl ⟨p, _, 3, _, rfl, rfl, st_of (e811 _ _ hp8), atI_nat (j := 3) rfl, ?_⟩)⟩
          refine ⟨b, x3, g3, _, rfl, hb4.ex (e48.trans e811), Da.within g3 (Da.ex e811 _ hg3), (fun _ z => z), ok3.1, Nat.lt_of_le_of_lt ok3.2.1 (by decide), Nat.le_trans ok3.2.2 (by decide), fun H12 v' d' e12 hv' hok2 => ?_⟩
          have o3 := ok3.2.1
          have o4 := ok3.2.2
          have hok2 : okD 6 26000 d' := hok2.mono (by omega) (by omega)
          refine ⟨by show 1 ≤ sizeLine; decide, fun t13 n13 => ?_⟩
          generalize hq13 : upd H12 t13 _ = H13
          obtain ⟨e13, h13⟩ := gen1 hq13 n13
          refine cat_G ((e12.trans e13) _ _ h11) h13 (by show 3 + 1 ≤ 1000; decide) fun t14 H14 e14 h14 => ?_
          have e814 := ((e811.trans e12).trans e13).trans e14
          refine ⟨_, rfl, 4, rfl, ?_⟩
          refine sl_fromG (j := 4) (e814 _ _ hp8) fun t15 H15 e15 h15 => ?_
          have hlx := hR'.len
          rw [List.length_cons, List.length_cons, List.length_cons, List.length_cons] at hl5
          refine cat_G (e15 _ _ h14) h15 (by show 3 + 1 + xr'.length ≤ 1000; omega) fun t16 H16 e16 h16 => ?_
          have e816 := (e814.trans e15).trans e16
          have h16 : H16 t16 = some (.tup ([.str z, y, c] ++ [v'] ++ xr')) := h16
          refine ⟨.ref t16, .tuple ([.str z, bd, cd] ++ [d'] ++ gr'), rfl, e816, .tup h16 ?_, ?_⟩
          · exact ((DaAll.cons (.str z) (.cons (Da.ex e816 _ hbd) (.cons (Da.ex e816 _ hcd) .nil))).snoc (Da.ex (((e13.trans e14).trans e15).trans e16) _ (DaA.da d' hv'))).app (DaAll.ex e816 _ hR')
          · refine (okD_tup (n := 6) (W := 26000) (m := 5) (fun g hg => ?_) ?_).mono (by decide) (by decide)
            · rcases List.mem_append.mp hg with hg | hg
              · rcases List.mem_append.mp hg with hg | hg
                · simp only [List.mem_cons, List.not_mem_nil, or_false] at hg
                  rcases hg with rfl | rfl | rfl
                  · exact (okm _ (by simp)).mono (by decide) (by decide)
                  · exact (okm _ (by simp)).mono (by decide) (by decide)
                  · exact (okm _ (by simp)).mono (by decide) (by decide)
                · rw [List.mem_singleton.mp hg]
                  exact hok2
              · exact (okm g (by simp [hg])).mono (by decide) (by decide)
            · rw [List.length_append, List.length_append]
              show 3 + 1 + gr'.length ≤ 5
              omega
      · rintro σ' H9 ⟨v0, d0, rfl, e9, hv0, hok0⟩
        have e49 := e48.trans e9
        refine ⟨_, rfl, b, 3, rfl, hb4.ex e49, by decide, by decide, fun H10 u u0 u1 e10 => ?_⟩
        obtain ⟨n, rfl⟩ : ∃ n : Nat, u = (n : Int) := ⟨u.toNat, by omega⟩
        have e410 := e49.trans e10
        refine ⟨(n : Int), rfl, by omega, by omega, ?_⟩
        refine frG (walk_range (lo := 0) (n := (n : Int).toNat)) (fun m σ H' => ∃ (v : V) (d : PyData) (z6 : Option V), σ = [some (.ref a), some (.ref b), some wv, some dv, some (.int (0 + (i : Int))), some v, z6, x7, x8] ∧ Ex H10 H' ∧ Da H' v d ∧ okD (12 + 2 * m) (150000 + m * 7710010) d)
          ⟨v0, d0, _, rfl, Ex.refl _, Da.ex e10 _ hv0, hok0⟩ (fun _ _ _ _ _ => trivial) ?_ ?_
        · rintro m x σ H11 H12 hm ⟨v, d, z6, rfl, e11, hv, hokd⟩ ⟨rfl, rfl⟩
          have hm2 : m < 2 := by omega
          have hokd' : okD 40 16000000 d := hokd.mono (by omega) (by omega)
          refine ⟨_, rfl, v, d, rfl, hv, hokd', fun H13 e13 => ⟨_, rfl, ?_⟩⟩
          cases hed2 : editD d with
          | false =>
            refine iteF ⟨v, d, _, rfl, e11.trans e13, Da.ex e13 _ hv, hokd.mono (by omega) (by omega)⟩
          | true =>
            obtain ⟨ds2, rfl⟩ : ∃ ds2, d = .tuple ds2 := by cases d <;> first | exact ⟨_, rfl⟩ | cases hed2
            obtain ⟨f1, f2⟩ := editL_few hed2
            obtain ⟨p2, xs2, rfl, hp2, hA2⟩ := hv.tup_inv
            have okk : okDs (11 + 2 * m) (149997 + m * 7710010) ds2 := by
              obtain ⟨k1, k2, k3⟩ := hokd
              have k2 : PyData.depthAll ds2 + 1 ≤ 12 + 2 * m := k2
              have k3 : wds ds2 + 3 ≤ 150000 + m * 7710010 := k3
              exact ⟨k1, by omega, by omega⟩
            refine iteT ⟨_, rfl, _, rfl, _, rfl, b, wv, p2, ns, ts, xs2, ds2, _, _, rfl, hb4.ex ((e410.trans e11).trans e13), hwv4.ex ((e410.trans e11).trans e13), hw, e13 _ _ hp2, DaAll.ex e13 _ hA2, by omega, by omega, okk, by omega, fun H14 x' d' e14 hx' hok2 => ?_⟩
            exact ⟨x', d', _, rfl, (e11.trans e13).trans e14, hx', hok2.mono (by omega) (by omega)⟩
        · rintro σ H11 ⟨v, d, z6, rfl, e11, hv, hokn⟩
          have hn2 : ((n : Int).toNat) ≤ 2 := by omega
          have hokv : okD 40 16000000 d := hokn.mono (by omega) (by omega)
          have e411 := e410.trans e11
          refine ⟨_, rfl, v, d, rfl, hv, hokv, ?_⟩
          refine ⟨_, rfl, v, d, rfl, hv, hokv, fun H12 e12 => ⟨_, _, rfl, ?_⟩⟩
          have hv12 := Da.ex e12 _ hv
          refine ⟨2, rfl, by decide, by decide, ?_⟩
          refine frG (walk_range (lo := 0) (n := 2)) (fun m σ H' => ∃ y6 : Option V, σ = [some (.ref a), some (.ref b), some wv, some dv, some (.int (0 + (i : Int))), some v, y6, some (.str d.shown), some (.bl (editD d))] ∧ Ex H12 H') ⟨_, rfl, Ex.refl _⟩ (fun _ _ _ _ _ => trivial) ?_ ?_
          · rintro m xm σ H13 H13b hm ⟨y6, rfl, e13⟩ ⟨rfl, rfl⟩
            have hv13 := Da.ex e13 _ hv12
            refine ⟨_, rfl, v, d, rfl, hv13, hokv, fun H14 e14 => ?_⟩
            refine ⟨_, rfl, .bl (editD d), .bl (editD d), .bool (editD d), rfl, .bl _, .bl _, (fin_bool _).fine (by decide) (by decide), _, rfl, iteF ?_⟩
            refine ⟨_, rfl, v, d, rfl, Da.ex e14 _ hv13, hokv, ?_⟩
            refine ⟨_, rfl, .inl ⟨rfl, _, rfl, ?_⟩⟩
            rw [decide_eq_true rfl]
            exact iteF ⟨_, rfl, e13.trans e14⟩
          · rintro σ H13 ⟨y6, rfl, e13⟩
            exact ⟨_, _, _, _, _, rfl, (e411.trans e12).trans e13⟩
    · rintro σ H5 ⟨x4, x5, x6, x7, x8, rfl, e5⟩
      exact q _
end
end Own

namespace Own
open PySem PySem.Spec PyProof.Rows L2 Evl
abbrev lenE (h1 h2 h3 h4 h5 h6 : Int) (k1 k2 k3 k4 k5 k6 v1 v2 v3 v4 v5 v6 : Tok) : Array DictEntry := #[⟨h1, .str "put" k1, .int 4 v1⟩, ⟨h2, .str "out" k2, .int 3 v2⟩, ⟨h3, .str "call" k3, .int 4 v3⟩, ⟨h4, .str "turn" k4, .int 3 v4⟩, ⟨h5, .str "part" k5, .int 3 v5⟩, ⟨h6, .str "more" k6, .int 5 v6⟩]
theorem isStr_ne {a z : Str} (h : z ≠ a) (t : Tok) : (Value.str a t).isStr z = false := by
  show (a == z) = false
  exact beq_eq_false_iff_ne.mpr (fun e => h e.symm)
theorem isStr_eq (a : Str) (t : Tok) : (Value.str a t).isStr a = true := by
  show (a == a) = true
  simp
theorem lens_of {K : PySem.W.Frag} {len : Addr} {n : Nat} {h1 h2 h3 h4 h5 h6 : Int} {k1 k2 k3 k4 k5 k6 v1 v2 v3 v4 v5 v6 : Tok} (lT : K.lookup len = some ⟨.type "dict", none, .dict (lenE h1 h2 h3 h4 h5 h6 k1 k2 k3 k4 k5 k6 v1 v2 v3 v4 v5 v6) n, #[]⟩) (z : Str) :
    (∃ u, PySem.W.nsIn K len z = some (some u) ∧ RelV (.int (lenOf z : Nat)) u) ∨ (PySem.W.nsIn K len z = some none ∧ V.int (lenOf z : Nat) = .int 0) := by
  unfold PySem.W.nsIn
  rw [lT]
  by_cases z1 : z = "put"
  · subst z1
    exact .inl ⟨.int 4 v1, by simp [List.find?, isStr_eq], v1, by rw [show lenOf "put" = 4 from by decide +kernel]; rfl⟩
  by_cases z2 : z = "out"
  · subst z2
    exact .inl ⟨.int 3 v2, by simp [List.find?, isStr_eq, isStr_ne z1], v2, by rw [show lenOf "out" = 3 from by decide +kernel]; rfl⟩
  by_cases z3 : z = "call"
  · subst z3
    exact .inl ⟨.int 4 v3, by simp [List.find?, isStr_eq, isStr_ne z1, isStr_ne z2], v3, by rw [show lenOf "call" = 4 from by decide +kernel]; rfl⟩
  by_cases z4 : z = "turn"
  · subst z4
    exact .inl ⟨.int 3 v4, by simp [List.find?, isStr_eq, isStr_ne z1, isStr_ne z2, isStr_ne z3], v4, by rw [show lenOf "turn" = 3 from by decide +kernel]; rfl⟩
  by_cases z5 : z = "part"
  · subst z5
    exact .inl ⟨.int 3 v5, by simp [List.find?, isStr_eq, isStr_ne z1, isStr_ne z2, isStr_ne z3, isStr_ne z4], v5, by rw [show lenOf "part" = 3 from by decide +kernel]; rfl⟩
  by_cases z6 : z = "more"
  · subst z6
    exact .inl ⟨.int 5 v6, by simp [List.find?, isStr_eq, isStr_ne z1, isStr_ne z2, isStr_ne z3, isStr_ne z4, isStr_ne z5], v6, by rw [show lenOf "more" = 5 from by decide +kernel]; rfl⟩
  · refine .inr ⟨by simp [List.find?, isStr_ne z1, isStr_ne z2, isStr_ne z3, isStr_ne z4, isStr_ne z5, isStr_ne z6, DictEntry.refKey], ?_⟩
    unfold lenOf
    rw [if_neg z1, if_neg z2, if_neg z3, if_neg z4, if_neg z5, if_neg z6]
    rfl
theorem all_mk {P : Program} {w : World} {K : PySem.W.Frag} {h : Heap} {mg : Str → Option Value} {fa : Addr} (X : K.In h) (G : h.Ns mainGlobals mg) (hfa : mg "law" = some (.ref fa))
    {od0 an0 : Option Addr} {sl0 : Array (Option Value)} {oc0 kV0 dc0 pm0 cd0 ct0 : Value} {f0 : Addr}
    {od1 an1 : Option Addr} {sl1 : Array (Option Value)} {oc1 kV1 dc1 pm1 cd1 ct1 : Value} {f1 : Addr}
    {od2 an2 : Option Addr} {sl2 : Array (Option Value)} {oc2 kV2 dc2 pm2 cd2 ct2 : Value} {f2 : Addr}
    {od3 an3 : Option Addr} {sl3 : Array (Option Value)} {oc3 kV3 dc3 pm3 cd3 ct3 : Value} {f3 : Addr}
    {od4 an4 : Option Addr} {sl4 : Array (Option Value)} {oc4 kV4 dc4 pm4 cd4 ct4 : Value} {f4 : Addr}
    {od5 an5 : Option Addr} {sl5 : Array (Option Value)} {oc5 kV5 dc5 pm5 cd5 ct5 : Value} {f5 : Addr}
    {od6 an6 : Option Addr} {sl6 : Array (Option Value)} {oc6 kV6 dc6 pm6 cd6 ct6 : Value} {f6 : Addr}
    {od7 an7 : Option Addr} {sl7 : Array (Option Value)} {oc7 kV7 dc7 pm7 cd7 ct7 : Value} {f7 : Addr}
    {od8 an8 : Option Addr} {sl8 : Array (Option Value)} {oc8 kV8 dc8 pm8 cd8 ct8 : Value} {f8 : Addr}
    {od9 an9 : Option Addr} {sl9 : Array (Option Value)} {oc9 kV9 dc9 pm9 cd9 ct9 : Value} {f9 : Addr}
    {od10 an10 : Option Addr} {sl10 : Array (Option Value)} {oc10 kV10 dc10 pm10 cd10 ct10 : Value} {f10 : Addr}
    {od11 an11 : Option Addr} {sl11 : Array (Option Value)} {oc11 kV11 dc11 pm11 cd11 ct11 : Value} {f11 : Addr}
    {od12 an12 : Option Addr} {sl12 : Array (Option Value)} {oc12 kV12 dc12 pm12 cd12 ct12 : Value} {f12 : Addr}
    {od13 an13 : Option Addr} {sl13 : Array (Option Value)} {oc13 kV13 dc13 pm13 cd13 ct13 : Value} {f13 : Addr}
    {od14 an14 : Option Addr} {sl14 : Array (Option Value)} {oc14 kV14 dc14 pm14 cd14 ct14 : Value} {f14 : Addr}
    {od15 an15 : Option Addr} {sl15 : Array (Option Value)} {oc15 kV15 dc15 pm15 cd15 ct15 : Value} {f15 : Addr}
    {od16 an16 : Option Addr} {sl16 : Array (Option Value)} {oc16 kV16 dc16 pm16 cd16 ct16 : Value} {f16 : Addr}
    {od17 an17 : Option Addr} {sl17 : Array (Option Value)} {oc17 kV17 dc17 pm17 cd17 ct17 : Value} {f17 : Addr}
    {od18 an18 : Option Addr} {sl18 : Array (Option Value)} {oc18 kV18 dc18 pm18 cd18 ct18 : Value} {f18 : Addr}
    {od19 an19 : Option Addr} {sl19 : Array (Option Value)} {oc19 kV19 dc19 pm19 cd19 ct19 : Value} {f19 : Addr}
    {od20 an20 : Option Addr} {sl20 : Array (Option Value)} {oc20 kV20 dc20 pm20 cd20 ct20 : Value} {f20 : Addr}
    {od21 an21 : Option Addr} {sl21 : Array (Option Value)} {oc21 kV21 dc21 pm21 cd21 ct21 : Value} {f21 : Addr}
    {od22 an22 : Option Addr} {sl22 : Array (Option Value)} {oc22 kV22 dc22 pm22 cd22 ct22 : Value} {f22 : Addr}
    {od23 an23 : Option Addr} {sl23 : Array (Option Value)} {oc23 kV23 dc23 pm23 cd23 ct23 : Value} {f23 : Addr}
    {od24 an24 : Option Addr} {sl24 : Array (Option Value)} {oc24 kV24 dc24 pm24 cd24 ct24 : Value} {f24 : Addr}
    {od25 an25 : Option Addr} {sl25 : Array (Option Value)} {oc25 kV25 dc25 pm25 cd25 ct25 : Value} {f25 : Addr}
    {od26 an26 : Option Addr} {sl26 : Array (Option Value)} {oc26 kV26 dc26 pm26 cd26 ct26 : Value} {f26 : Addr}
    {od27 an27 : Option Addr} {sl27 : Array (Option Value)} {oc27 kV27 dc27 pm27 cd27 ct27 : Value} {f27 : Addr}
    {od28 an28 : Option Addr} {sl28 : Array (Option Value)} {oc28 kV28 dc28 pm28 cd28 ct28 : Value} {f28 : Addr}
    {od29 an29 : Option Addr} {sl29 : Array (Option Value)} {oc29 kV29 dc29 pm29 cd29 ct29 : Value} {f29 : Addr}
    {od30 an30 : Option Addr} {sl30 : Array (Option Value)} {oc30 kV30 dc30 pm30 cd30 ct30 : Value} {f30 : Addr}
    {od31 an31 : Option Addr} {sl31 : Array (Option Value)} {oc31 kV31 dc31 pm31 cd31 ct31 : Value} {f31 : Addr}
    {od32 an32 : Option Addr} {sl32 : Array (Option Value)} {oc32 kV32 dc32 pm32 cd32 ct32 : Value} {f32 : Addr}
    {od33 an33 : Option Addr} {sl33 : Array (Option Value)} {oc33 kV33 dc33 pm33 cd33 ct33 : Value} {f33 : Addr} {rel hom len : Addr} {odR odH : Option Addr} {nR nH nT : Nat} {slR slH : Array (Option Value)} {tL t1 t2 t3 t4 t5 : Tok} {hh1 hh2 hh3 hh4 hh5 hh6 : Int} {kk1 kk2 kk3 kk4 kk5 kk6 vv1 vv2 vv3 vv4 vv5 vv6 : Tok}
    (a0 : PySem.W.nsIn K mainGlobals "is_integer" = some (some (.ref f0))) (l0 : K.lookup f0 = some ⟨oc0, od0, .func (PySem.W.fnOf "is_integer" "is_integer" (defArgs s_is_integer) (defBody s_is_integer) (defScope s_is_integer) .none kV0 dc0 pm0 an0 cd0 ct0), sl0⟩) (c0 : PySem.W.codeIn K cd0 "is_integer" = true) (k0 : PySem.W.keepIn K (.ref f0) = true)
    (a1 : PySem.W.nsIn K mainGlobals "is_name" = some (some (.ref f1))) (l1 : K.lookup f1 = some ⟨oc1, od1, .func (PySem.W.fnOf "is_name" "is_name" (defArgs s_is_name) (defBody s_is_name) (defScope s_is_name) .none kV1 dc1 pm1 an1 cd1 ct1), sl1⟩) (c1 : PySem.W.codeIn K cd1 "is_name" = true) (k1 : PySem.W.keepIn K (.ref f1) = true)
    (a2 : PySem.W.nsIn K mainGlobals "is_relation" = some (some (.ref f2))) (l2 : K.lookup f2 = some ⟨oc2, od2, .func (PySem.W.fnOf "is_relation" "is_relation" (defArgs s_is_relation) (defBody s_is_relation) (defScope s_is_relation) .none kV2 dc2 pm2 an2 cd2 ct2), sl2⟩) (c2 : PySem.W.codeIn K cd2 "is_relation" = true) (k2 : PySem.W.keepIn K (.ref f2) = true)
    (a3 : PySem.W.nsIn K mainGlobals "is_home" = some (some (.ref f3))) (l3 : K.lookup f3 = some ⟨oc3, od3, .func (PySem.W.fnOf "is_home" "is_home" (defArgs s_is_home) (defBody s_is_home) (defScope s_is_home) .none kV3 dc3 pm3 an3 cd3 ct3), sl3⟩) (c3 : PySem.W.codeIn K cd3 "is_home" = true) (k3 : PySem.W.keepIn K (.ref f3) = true)
    (a4 : PySem.W.nsIn K mainGlobals "is_atom" = some (some (.ref f4))) (l4 : K.lookup f4 = some ⟨oc4, od4, .func (PySem.W.fnOf "is_atom" "is_atom" (defArgs s_is_atom) (defBody s_is_atom) (defScope s_is_atom) .none kV4 dc4 pm4 an4 cd4 ct4), sl4⟩) (c4 : PySem.W.codeIn K cd4 "is_atom" = true) (k4 : PySem.W.keepIn K (.ref f4) = true)
    (a5 : PySem.W.nsIn K mainGlobals "is_fact" = some (some (.ref f5))) (l5 : K.lookup f5 = some ⟨oc5, od5, .func (PySem.W.fnOf "is_fact" "is_fact" (defArgs s_is_fact) (defBody s_is_fact) (defScope s_is_fact) .none kV5 dc5 pm5 an5 cd5 ct5), sl5⟩) (c5 : PySem.W.codeIn K cd5 "is_fact" = true) (k5 : PySem.W.keepIn K (.ref f5) = true)
    (a6 : PySem.W.nsIn K mainGlobals "is_row" = some (some (.ref f6))) (l6 : K.lookup f6 = some ⟨oc6, od6, .func (PySem.W.fnOf "is_row" "is_row" (defArgs s_is_row) (defBody s_is_row) (defScope s_is_row) .none kV6 dc6 pm6 an6 cd6 ct6), sl6⟩) (c6 : PySem.W.codeIn K cd6 "is_row" = true) (k6 : PySem.W.keepIn K (.ref f6) = true)
    (a7 : PySem.W.nsIn K mainGlobals "is_side" = some (some (.ref f7))) (l7 : K.lookup f7 = some ⟨oc7, od7, .func (PySem.W.fnOf "is_side" "is_side" (defArgs s_is_side) (defBody s_is_side) (defScope s_is_side) .none kV7 dc7 pm7 an7 cd7 ct7), sl7⟩) (c7 : PySem.W.codeIn K cd7 "is_side" = true) (k7 : PySem.W.keepIn K (.ref f7) = true)
    (a8 : PySem.W.nsIn K mainGlobals "is_edit" = some (some (.ref f8))) (l8 : K.lookup f8 = some ⟨oc8, od8, .func (PySem.W.fnOf "is_edit" "is_edit" (defArgs s_is_edit) (defBody s_is_edit) (defScope s_is_edit) .none kV8 dc8 pm8 an8 cd8 ct8), sl8⟩) (c8 : PySem.W.codeIn K cd8 "is_edit" = true) (k8 : PySem.W.keepIn K (.ref f8) = true)
    (a9 : PySem.W.nsIn K mainGlobals "_law_bag" = some (some (.ref f9))) (l9 : K.lookup f9 = some ⟨oc9, od9, .func (PySem.W.fnOf "_law_bag" "_law_bag" (defArgs s_l_bag) (defBody s_l_bag) (defScope s_l_bag) .none kV9 dc9 pm9 an9 cd9 ct9), sl9⟩) (c9 : PySem.W.codeIn K cd9 "_law_bag" = true) (k9 : PySem.W.keepIn K (.ref f9) = true)
    (a10 : PySem.W.nsIn K mainGlobals "_law_take" = some (some (.ref f10))) (l10 : K.lookup f10 = some ⟨oc10, od10, .func (PySem.W.fnOf "_law_take" "_law_take" (defArgs s_l_take) (defBody s_l_take) (defScope s_l_take) .none kV10 dc10 pm10 an10 cd10 ct10), sl10⟩) (c10 : PySem.W.codeIn K cd10 "_law_take" = true) (k10 : PySem.W.keepIn K (.ref f10) = true)
    (a11 : PySem.W.nsIn K mainGlobals "_law_alike" = some (some (.ref f11))) (l11 : K.lookup f11 = some ⟨oc11, od11, .func (PySem.W.fnOf "_law_alike" "_law_alike" (defArgs s_l_alike) (defBody s_l_alike) (defScope s_l_alike) .none kV11 dc11 pm11 an11 cd11 ct11), sl11⟩) (c11 : PySem.W.codeIn K cd11 "_law_alike" = true) (k11 : PySem.W.keepIn K (.ref f11) = true)
    (a12 : PySem.W.nsIn K mainGlobals "_law_some" = some (some (.ref f12))) (l12 : K.lookup f12 = some ⟨oc12, od12, .func (PySem.W.fnOf "_law_some" "_law_some" (defArgs s_l_some) (defBody s_l_some) (defScope s_l_some) .none kV12 dc12 pm12 an12 cd12 ct12), sl12⟩) (c12 : PySem.W.codeIn K cd12 "_law_some" = true) (k12 : PySem.W.keepIn K (.ref f12) = true)
    (a13 : PySem.W.nsIn K mainGlobals "_law_names" = some (some (.ref f13))) (l13 : K.lookup f13 = some ⟨oc13, od13, .func (PySem.W.fnOf "_law_names" "_law_names" (defArgs s_l_names) (defBody s_l_names) (defScope s_l_names) .none kV13 dc13 pm13 an13 cd13 ct13), sl13⟩) (c13 : PySem.W.codeIn K cd13 "_law_names" = true) (k13 : PySem.W.keepIn K (.ref f13) = true)
    (a14 : PySem.W.nsIn K mainGlobals "_law_world" = some (some (.ref f14))) (l14 : K.lookup f14 = some ⟨oc14, od14, .func (PySem.W.fnOf "_law_world" "_law_world" (defArgs s_l_world) (defBody s_l_world) (defScope s_l_world) .none kV14 dc14 pm14 an14 cd14 ct14), sl14⟩) (c14 : PySem.W.codeIn K cd14 "_law_world" = true) (k14 : PySem.W.keepIn K (.ref f14) = true)
    (a15 : PySem.W.nsIn K mainGlobals "_law_atom" = some (some (.ref f15))) (l15 : K.lookup f15 = some ⟨oc15, od15, .func (PySem.W.fnOf "_law_atom" "_law_atom" (defArgs s_l_atom) (defBody s_l_atom) (defScope s_l_atom) .none kV15 dc15 pm15 an15 cd15 ct15), sl15⟩) (c15 : PySem.W.codeIn K cd15 "_law_atom" = true) (k15 : PySem.W.keepIn K (.ref f15) = true)
    (a16 : PySem.W.nsIn K mainGlobals "_law_fact" = some (some (.ref f16))) (l16 : K.lookup f16 = some ⟨oc16, od16, .func (PySem.W.fnOf "_law_fact" "_law_fact" (defArgs s_l_fact) (defBody s_l_fact) (defScope s_l_fact) .none kV16 dc16 pm16 an16 cd16 ct16), sl16⟩) (c16 : PySem.W.codeIn K cd16 "_law_fact" = true) (k16 : PySem.W.keepIn K (.ref f16) = true)
    (a17 : PySem.W.nsIn K mainGlobals "_law_row" = some (some (.ref f17))) (l17 : K.lookup f17 = some ⟨oc17, od17, .func (PySem.W.fnOf "_law_row" "_law_row" (defArgs s_l_row) (defBody s_l_row) (defScope s_l_row) .none kV17 dc17 pm17 an17 cd17 ct17), sl17⟩) (c17 : PySem.W.codeIn K cd17 "_law_row" = true) (k17 : PySem.W.keepIn K (.ref f17) = true)
    (a18 : PySem.W.nsIn K mainGlobals "_law_rows" = some (some (.ref f18))) (l18 : K.lookup f18 = some ⟨oc18, od18, .func (PySem.W.fnOf "_law_rows" "_law_rows" (defArgs s_l_rows) (defBody s_l_rows) (defScope s_l_rows) .none kV18 dc18 pm18 an18 cd18 ct18), sl18⟩) (c18 : PySem.W.codeIn K cd18 "_law_rows" = true) (k18 : PySem.W.keepIn K (.ref f18) = true)
    (a19 : PySem.W.nsIn K mainGlobals "_law_begun" = some (some (.ref f19))) (l19 : K.lookup f19 = some ⟨oc19, od19, .func (PySem.W.fnOf "_law_begun" "_law_begun" (defArgs s_l_begun) (defBody s_l_begun) (defScope s_l_begun) .none kV19 dc19 pm19 an19 cd19 ct19), sl19⟩) (c19 : PySem.W.codeIn K cd19 "_law_begun" = true) (k19 : PySem.W.keepIn K (.ref f19) = true)
    (a20 : PySem.W.nsIn K mainGlobals "_law_start" = some (some (.ref f20))) (l20 : K.lookup f20 = some ⟨oc20, od20, .func (PySem.W.fnOf "_law_start" "_law_start" (defArgs s_l_start) (defBody s_l_start) (defScope s_l_start) .none kV20 dc20 pm20 an20 cd20 ct20), sl20⟩) (c20 : PySem.W.codeIn K cd20 "_law_start" = true) (k20 : PySem.W.keepIn K (.ref f20) = true)
    (a21 : PySem.W.nsIn K mainGlobals "_law_same_start" = some (some (.ref f21))) (l21 : K.lookup f21 = some ⟨oc21, od21, .func (PySem.W.fnOf "_law_same_start" "_law_same_start" (defArgs s_l_same_start) (defBody s_l_same_start) (defScope s_l_same_start) .none kV21 dc21 pm21 an21 cd21 ct21), sl21⟩) (c21 : PySem.W.codeIn K cd21 "_law_same_start" = true) (k21 : PySem.W.keepIn K (.ref f21) = true)
    (a22 : PySem.W.nsIn K mainGlobals "_law_edit" = some (some (.ref f22))) (l22 : K.lookup f22 = some ⟨oc22, od22, .func (PySem.W.fnOf "_law_edit" "_law_edit" (defArgs s_l_edit) (defBody s_l_edit) (defScope s_l_edit) .none kV22 dc22 pm22 an22 cd22 ct22), sl22⟩) (c22 : PySem.W.codeIn K cd22 "_law_edit" = true) (k22 : PySem.W.keepIn K (.ref f22) = true)
    (a23 : PySem.W.nsIn K mainGlobals "_law_odd" = some (some (.ref f23))) (l23 : K.lookup f23 = some ⟨oc23, od23, .func (PySem.W.fnOf "_law_odd" "_law_odd" (defArgs s_l_odd) (defBody s_l_odd) (defScope s_l_odd) .none kV23 dc23 pm23 an23 cd23 ct23), sl23⟩) (c23 : PySem.W.codeIn K cd23 "_law_odd" = true) (k23 : PySem.W.keepIn K (.ref f23) = true)
    (a24 : PySem.W.nsIn K mainGlobals "_law_spoilt" = some (some (.ref f24))) (l24 : K.lookup f24 = some ⟨oc24, od24, .func (PySem.W.fnOf "_law_spoilt" "_law_spoilt" (defArgs s_l_spoilt) (defBody s_l_spoilt) (defScope s_l_spoilt) .none kV24 dc24 pm24 an24 cd24 ct24), sl24⟩) (c24 : PySem.W.codeIn K cd24 "_law_spoilt" = true) (k24 : PySem.W.keepIn K (.ref f24) = true)
    (a25 : PySem.W.nsIn K mainGlobals "_law_is_name" = some (some (.ref f25))) (l25 : K.lookup f25 = some ⟨oc25, od25, .func (PySem.W.fnOf "_law_is_name" "_law_is_name" (defArgs s_l_is_name) (defBody s_l_is_name) (defScope s_l_is_name) .none kV25 dc25 pm25 an25 cd25 ct25), sl25⟩) (c25 : PySem.W.codeIn K cd25 "_law_is_name" = true) (k25 : PySem.W.keepIn K (.ref f25) = true)
    (a26 : PySem.W.nsIn K mainGlobals "_law_is_atom" = some (some (.ref f26))) (l26 : K.lookup f26 = some ⟨oc26, od26, .func (PySem.W.fnOf "_law_is_atom" "_law_is_atom" (defArgs s_l_is_atom) (defBody s_l_is_atom) (defScope s_l_is_atom) .none kV26 dc26 pm26 an26 cd26 ct26), sl26⟩) (c26 : PySem.W.codeIn K cd26 "_law_is_atom" = true) (k26 : PySem.W.keepIn K (.ref f26) = true)
    (a27 : PySem.W.nsIn K mainGlobals "_law_is_fact" = some (some (.ref f27))) (l27 : K.lookup f27 = some ⟨oc27, od27, .func (PySem.W.fnOf "_law_is_fact" "_law_is_fact" (defArgs s_l_is_fact) (defBody s_l_is_fact) (defScope s_l_is_fact) .none kV27 dc27 pm27 an27 cd27 ct27), sl27⟩) (c27 : PySem.W.codeIn K cd27 "_law_is_fact" = true) (k27 : PySem.W.keepIn K (.ref f27) = true)
    (a28 : PySem.W.nsIn K mainGlobals "_law_is_row" = some (some (.ref f28))) (l28 : K.lookup f28 = some ⟨oc28, od28, .func (PySem.W.fnOf "_law_is_row" "_law_is_row" (defArgs s_l_is_row) (defBody s_l_is_row) (defScope s_l_is_row) .none kV28 dc28 pm28 an28 cd28 ct28), sl28⟩) (c28 : PySem.W.codeIn K cd28 "_law_is_row" = true) (k28 : PySem.W.keepIn K (.ref f28) = true)
    (a29 : PySem.W.nsIn K mainGlobals "_law_is_number" = some (some (.ref f29))) (l29 : K.lookup f29 = some ⟨oc29, od29, .func (PySem.W.fnOf "_law_is_number" "_law_is_number" (defArgs s_l_is_number) (defBody s_l_is_number) (defScope s_l_is_number) .none kV29 dc29 pm29 an29 cd29 ct29), sl29⟩) (c29 : PySem.W.codeIn K cd29 "_law_is_number" = true) (k29 : PySem.W.keepIn K (.ref f29) = true)
    (a30 : PySem.W.nsIn K mainGlobals "_law_edit_form" = some (some (.ref f30))) (l30 : K.lookup f30 = some ⟨oc30, od30, .func (PySem.W.fnOf "_law_edit_form" "_law_edit_form" (defArgs s_l_edit_form) (defBody s_l_edit_form) (defScope s_l_edit_form) .none kV30 dc30 pm30 an30 cd30 ct30), sl30⟩) (c30 : PySem.W.codeIn K cd30 "_law_edit_form" = true) (k30 : PySem.W.keepIn K (.ref f30) = true)
    (a31 : PySem.W.nsIn K mainGlobals "_law_edit_odd" = some (some (.ref f31))) (l31 : K.lookup f31 = some ⟨oc31, od31, .func (PySem.W.fnOf "_law_edit_odd" "_law_edit_odd" (defArgs s_l_edit_odd) (defBody s_l_edit_odd) (defScope s_l_edit_odd) .none kV31 dc31 pm31 an31 cd31 ct31), sl31⟩) (c31 : PySem.W.codeIn K cd31 "_law_edit_odd" = true) (k31 : PySem.W.keepIn K (.ref f31) = true)
    (a32 : PySem.W.nsIn K mainGlobals "_law_edit_bent" = some (some (.ref f32))) (l32 : K.lookup f32 = some ⟨oc32, od32, .func (PySem.W.fnOf "_law_edit_bent" "_law_edit_bent" (defArgs s_l_edit_bent) (defBody s_l_edit_bent) (defScope s_l_edit_bent) .none kV32 dc32 pm32 an32 cd32 ct32), sl32⟩) (c32 : PySem.W.codeIn K cd32 "_law_edit_bent" = true) (k32 : PySem.W.keepIn K (.ref f32) = true)
    (a33 : PySem.W.nsIn K mainGlobals "law" = some (some (.ref f33))) (l33 : K.lookup f33 = some ⟨oc33, od33, .func (PySem.W.fnOf "law" "law" (defArgs s_law) (defBody s_law) (defScope s_law) .none kV33 dc33 pm33 an33 cd33 ct33), sl33⟩) (c33 : PySem.W.codeIn K cd33 "law" = true) (k33 : PySem.W.keepIn K (.ref f33) = true)
    (z_abs : PySem.W.nsIn K mainGlobals "abs" = some none)
    (z_int : PySem.W.nsIn K mainGlobals "int" = some none)
    (z_len : PySem.W.nsIn K mainGlobals "len" = some none)
    (z_tuple : PySem.W.nsIn K mainGlobals "tuple" = some none)
    (z_list : PySem.W.nsIn K mainGlobals "list" = some none)
    (z_all : PySem.W.nsIn K mainGlobals "all" = some none)
    (z_any : PySem.W.nsIn K mainGlobals "any" = some none)
    (z_zip : PySem.W.nsIn K mainGlobals "zip" = some none)
    (z_range : PySem.W.nsIn K mainGlobals "range" = some none)
    (z_repr : PySem.W.nsIn K mainGlobals "repr" = some none)
    (z_dict : PySem.W.nsIn K mainGlobals "dict" = some none)
    (z_isinstance : PySem.W.nsIn K mainGlobals "isinstance" = some none)
    (z_str : PySem.W.nsIn K mainGlobals "str" = some none)
    (z_bool : PySem.W.nsIn K mainGlobals "bool" = some none)
    (gLong : PySem.W.nsIn K mainGlobals "LONGEST_NAME" = some (some (.int 8 tL))) (gRel : PySem.W.nsIn K mainGlobals "RELATIONS" = some (some (.ref rel))) (lRel : K.lookup rel = some ⟨.type "tuple", odR, .seq #[.str "eq" t1, .str "lt" t2, .str "gt" t3] nR, slR⟩)
    (gHom : PySem.W.nsIn K mainGlobals "HOMES" = some (some (.ref hom))) (lHom : K.lookup hom = some ⟨.type "tuple", odH, .seq #[.str "goal" t4, .str "book" t5] nH, slH⟩)
    (gLen : PySem.W.nsIn K mainGlobals "LENGTHS" = some (some (.ref len))) (lT : K.lookup len = some ⟨.type "dict", none, .dict (lenE hh1 hh2 hh3 hh4 hh5 hh6 kk1 kk2 kk3 kk4 kk5 kk6 vv1 vv2 vv3 vv4 vv5 vv6) nT, #[]⟩) (litT : PySem.W.KeysLit w.params (lenE hh1 hh2 hh3 hh4 hh5 hh6 kk1 kk2 kk3 kk4 kk5 kk6 vv1 vv2 vv3 vv4 vv5 vv6).toList) (nS : (len == sysModules) = false) :
    ∃ fd : FuncData, (∀ (s : Shared) (v : Value), BindsTo s fd ⟨[v], []⟩ [("_law_script", v)]) ∧ ∀ base : Heap, K.In base → base.Ns mainGlobals mg → SysAt base → FnG P w K mg base 14 fa fd ["_law_script"] (spLaw K) := by
  have e := hfa.symm.trans (PySem.W.mg_of X G a33)
  cases e
  have D_is_integer : Df K mg "is_integer" s_is_integer := df_mk X G a0 l0 c0 k0
  have D_is_name : Df K mg "is_name" s_is_name := df_mk X G a1 l1 c1 k1
  have D_is_relation : Df K mg "is_relation" s_is_relation := df_mk X G a2 l2 c2 k2
  have D_is_home : Df K mg "is_home" s_is_home := df_mk X G a3 l3 c3 k3
  have D_is_atom : Df K mg "is_atom" s_is_atom := df_mk X G a4 l4 c4 k4
  have D_is_fact : Df K mg "is_fact" s_is_fact := df_mk X G a5 l5 c5 k5
  have D_is_row : Df K mg "is_row" s_is_row := df_mk X G a6 l6 c6 k6
  have D_is_side : Df K mg "is_side" s_is_side := df_mk X G a7 l7 c7 k7
  have D_is_edit : Df K mg "is_edit" s_is_edit := df_mk X G a8 l8 c8 k8
  have D_l_bag : Df K mg "_law_bag" s_l_bag := df_mk X G a9 l9 c9 k9
  have D_l_take : Df K mg "_law_take" s_l_take := df_mk X G a10 l10 c10 k10
  have D_l_alike : Df K mg "_law_alike" s_l_alike := df_mk X G a11 l11 c11 k11
  have D_l_some : Df K mg "_law_some" s_l_some := df_mk X G a12 l12 c12 k12
  have D_l_names : Df K mg "_law_names" s_l_names := df_mk X G a13 l13 c13 k13
  have D_l_world : Df K mg "_law_world" s_l_world := df_mk X G a14 l14 c14 k14
  have D_l_atom : Df K mg "_law_atom" s_l_atom := df_mk X G a15 l15 c15 k15
  have D_l_fact : Df K mg "_law_fact" s_l_fact := df_mk X G a16 l16 c16 k16
  have D_l_row : Df K mg "_law_row" s_l_row := df_mk X G a17 l17 c17 k17
  have D_l_rows : Df K mg "_law_rows" s_l_rows := df_mk X G a18 l18 c18 k18
  have D_l_begun : Df K mg "_law_begun" s_l_begun := df_mk X G a19 l19 c19 k19
  have D_l_start : Df K mg "_law_start" s_l_start := df_mk X G a20 l20 c20 k20
  have D_l_same_start : Df K mg "_law_same_start" s_l_same_start := df_mk X G a21 l21 c21 k21
  have D_l_edit : Df K mg "_law_edit" s_l_edit := df_mk X G a22 l22 c22 k22
  have D_l_odd : Df K mg "_law_odd" s_l_odd := df_mk X G a23 l23 c23 k23
  have D_l_spoilt : Df K mg "_law_spoilt" s_l_spoilt := df_mk X G a24 l24 c24 k24
  have D_l_is_name : Df K mg "_law_is_name" s_l_is_name := df_mk X G a25 l25 c25 k25
  have D_l_is_atom : Df K mg "_law_is_atom" s_l_is_atom := df_mk X G a26 l26 c26 k26
  have D_l_is_fact : Df K mg "_law_is_fact" s_l_is_fact := df_mk X G a27 l27 c27 k27
  have D_l_is_row : Df K mg "_law_is_row" s_l_is_row := df_mk X G a28 l28 c28 k28
  have D_l_is_number : Df K mg "_law_is_number" s_l_is_number := df_mk X G a29 l29 c29 k29
  have D_l_edit_form : Df K mg "_law_edit_form" s_l_edit_form := df_mk X G a30 l30 c30 k30
  have D_l_edit_odd : Df K mg "_law_edit_odd" s_l_edit_odd := df_mk X G a31 l31 c31 k31
  have D_l_edit_bent : Df K mg "_law_edit_bent" s_l_edit_bent := df_mk X G a32 l32 c32 k32
  have F_law := fun_mk (st := s_law) l33 c33 k33
  refine ⟨PySem.W.fnOf "law" "law" (defArgs s_law) (defBody s_law) (defScope s_law) .none kV33 dc33 pm33 an33 cd33 ct33, fun s v => .of_eq rfl, fun base _ _ hsys => ?_⟩
  have T : Txt0 mg := ⟨PySem.W.mg_none_of X G z_abs, PySem.W.mg_none_of X G z_int, PySem.W.mg_none_of X G z_len, PySem.W.mg_none_of X G z_tuple, PySem.W.mg_none_of X G z_list, PySem.W.mg_none_of X G z_all, PySem.W.mg_none_of X G z_any, PySem.W.mg_none_of X G z_zip, PySem.W.mg_none_of X G z_range, PySem.W.mg_none_of X G z_repr, PySem.W.mg_none_of X G z_dict⟩
  have TI : TxtI K mg rel := ⟨PySem.W.mg_none_of X G z_isinstance, PySem.W.mg_none_of X G z_str, PySem.W.mg_none_of X G z_bool, T.tuple, ⟨_, PySem.W.mg_of X G gLong⟩, PySem.W.mg_of X G gRel, fun H => .inr ⟨_, _, _, lRel, rfl, rfl, by show 3 ≤ sizeLine; decide, .cons ⟨_, rfl⟩ (.cons ⟨_, rfl⟩ (.cons ⟨_, rfl⟩ .nil))⟩⟩
  have TH : TxtH K w mg rel hom len := ⟨TI, PySem.W.mg_of X G gHom, fun H => .inr ⟨_, _, _, lHom, rfl, rfl, by show 2 ≤ sizeLine; decide, .cons ⟨_, rfl⟩ (.cons ⟨_, rfl⟩ .nil)⟩, PySem.W.mg_of X G gLen, ⟨_, _, lT, litT, nS⟩, fun z => lens_of lT z⟩
  have c1 : CalG P w K mg base 1 "_law_take" spTake := take_ext (ok_takeL T D_l_take)
  have c2 := bag_ext (ok_bagL (P := P) (w := w) (base := base) T D_l_bag)
  have c3 := ok_some (K := K) T D_l_some c1
  have c4 := ok_names T D_l_names c1
  have c5 := ok_world T D_l_world c1 c4
  have c6 := ok_atom T D_l_atom c1 c3
  have c7 := ok_fact T D_l_fact c1 c6
  have c8 := ok_row T D_l_row c3 c7
  have c9 := ok_rows T D_l_rows c1 c8
  have c10 := ok_odd T D_l_odd c3
  have c11 := ok_spoilt T TI D_l_spoilt c1 c10 10
  have c12 := ok_is_name (P := P) (w := w) (base := base) T TI D_is_name
  have c13 := ok_is_relation (P := P) (w := w) (base := base) T TI D_is_relation
  have c14 := ok_is_atom T TI D_is_atom c13 c12
  have c15 := ok_is_fact T TI D_is_fact c14
  have c16 := ok_is_row T TI D_is_row c12 c15
  have c17 := ok_is_integer (P := P) (w := w) (base := base) T TI D_is_integer
  have c18 := ok_is_home (P := P) (w := w) (base := base) T TH D_is_home
  have c19 := ok_is_side T D_is_side c17
  have c20 := ok_is_edit T TH D_is_edit c12 c18 c17 c16 c14 c19
  have c21 := ok_l_is_name (P := P) (w := w) (base := base) T TI D_l_is_name
  have c22 := ok_l_is_atom T TI D_l_is_atom c21
  have c23 := ok_l_is_fact T TI D_l_is_fact c22
  have c24 := ok_l_is_row T TI D_l_is_row c21 c23
  have c25 := ok_is_number (P := P) (w := w) (base := base) T TI D_l_is_number
  have c26 := ok_edit_form T TI D_l_edit_form c25 c24 c21 c22
  have c27 := ok_begun (P := P) (w := w) (base := base) T D_l_begun
  have c28 := ok_start T D_l_start c8 c9 c6
  have c29 := ok_same T D_l_same_start c27
  have c30 := ok_edit T D_l_edit c1 c3 c7 c6
  have c31 := ok_edit_odd T D_l_edit_odd c8 c3
  have c32 := ok_edit_bent T D_l_edit_bent c1 c31
  have c33 : CalG P w K mg base 1 "_law_alike" (spAlike K) := ok_alike T D_l_alike
  exact ok_law T hsys F_law c2 c1 c5 c28 c29 c30 c11 c20 c26 c32 c33
theorem walk {l : PySem.W.OpenLaw} {q : Program} {loose : List Str} {XP : (Str → Option Value) → Heap → Prop} {YP : World → Heap → Prop} {d : DefRec} {K : Params → PySem.W.Frag} (most : l.most = some 63) (nodf : d.params.defaults = [])
    (inn : ∀ (w : World) (h : Heap), YP w h → (K w.params).In h)
    (F : ∀ (w : World) (mg : Str → Option Value) (fa : Addr) (h : Heap), (K w.params).In h → h.Ns mainGlobals mg → mg d.name = some (.ref fa) →
      ∃ fd : FuncData, (∀ (s : Shared) (u : Value), BindsTo s fd ⟨[u], []⟩ [("_law_script", u)]) ∧ ∀ base : Heap, (K w.params).In base → base.Ns mainGlobals mg → SysAt base → FnG l.prog w (K w.params) mg base 14 fa fd ["_law_script"] (spLaw (K w.params))) (imps : importsNone q = true) :
    PySem.W.WalkO q loose XP YP l.row.toRowW d [] (fun f vs => PySem.call f vs) :=
  walk_S (n := 63) (k := 14) (x := "_law_script") (sp := fun w => spLaw (K w.params)) most (by decide) nodf ⟨rfl, by decide, by decide⟩ imps inn F (fun _ _ a ns hl hS => ⟨a, ns, rfl, hS, hl, fun _ => rfl⟩)
end Own
open PySem PySem.W PyProof.Rows in
set_option maxRecDepth 100000 in
set_option maxHeartbeats 0 in
theorem PySem.Challenge.cw_scriptpicks_k50_edits_known_holds : PySem.Challenge.rw_scriptpicks_k50_edits_known.Holds := by
  w_on; o_law; k_head; (case hw => w_witness2)
  k_fill
  refine Own.walk (l := PySem.Challenge.rw_scriptpicks_k50_edits_known) rfl rfl (fun w h Y => PySem.W.kIn_of Y) ?F ?imps
  case imps => decide +kernel
  case F =>
    intro w mg fa h KX G hmg
    refine' Own.all_mk KX G hmg ?a0 ?l0 ?c0 ?k0 ?a1 ?l1 ?c1 ?k1 ?a2 ?l2 ?c2 ?k2 ?a3 ?l3 ?c3 ?k3 ?a4 ?l4 ?c4 ?k4 ?a5 ?l5 ?c5 ?k5 ?a6 ?l6 ?c6 ?k6 ?a7 ?l7 ?c7 ?k7 ?a8 ?l8 ?c8 ?k8 ?a9 ?l9 ?c9 ?k9 ?a10 ?l10 ?c10 ?k10 ?a11 ?l11 ?c11 ?k11 ?a12 ?l12 ?c12 ?k12 ?a13 ?l13 ?c13 ?k13 ?a14 ?l14 ?c14 ?k14 ?a15 ?l15 ?c15 ?k15 ?a16 ?l16 ?c16 ?k16 ?a17 ?l17 ?c17 ?k17 ?a18 ?l18 ?c18 ?k18 ?a19 ?l19 ?c19 ?k19 ?a20 ?l20 ?c20 ?k20 ?a21 ?l21 ?c21 ?k21 ?a22 ?l22 ?c22 ?k22 ?a23 ?l23 ?c23 ?k23 ?a24 ?l24 ?c24 ?k24 ?a25 ?l25 ?c25 ?k25 ?a26 ?l26 ?c26 ?k26 ?a27 ?l27 ?c27 ?k27 ?a28 ?l28 ?c28 ?k28 ?a29 ?l29 ?c29 ?k29 ?a30 ?l30 ?c30 ?k30 ?a31 ?l31 ?c31 ?k31 ?a32 ?l32 ?c32 ?k32 ?a33 ?l33 ?c33 ?k33 ?z_abs ?z_int ?z_len ?z_tuple ?z_list ?z_all ?z_any ?z_zip ?z_range ?z_repr ?z_dict ?z_isinstance ?z_str ?z_bool ?gLong ?gRel ?lRel ?gHom ?lHom ?gLen ?lT ?litT ?nS
    (case a0 => k_is)
    (case l0 => k_is)
    (case c0 => k_is)
    (case k0 => k_is)
    (case a1 => k_is)
    (case l1 => k_is)
    (case c1 => k_is)
    (case k1 => k_is)
    (case a2 => k_is)
    (case l2 => k_is)
    (case c2 => k_is)
    (case k2 => k_is)
    (case a3 => k_is)
    (case l3 => k_is)
    (case c3 => k_is)
    (case k3 => k_is)
    (case a4 => k_is)
    (case l4 => k_is)
    (case c4 => k_is)
    (case k4 => k_is)
    (case a5 => k_is)
    (case l5 => k_is)
    (case c5 => k_is)
    (case k5 => k_is)
    (case a6 => k_is)
    (case l6 => k_is)
    (case c6 => k_is)
    (case k6 => k_is)
    (case a7 => k_is)
    (case l7 => k_is)
    (case c7 => k_is)
    (case k7 => k_is)
    (case a8 => k_is)
    (case l8 => k_is)
    (case c8 => k_is)
    (case k8 => k_is)
    (case a9 => k_is)
    (case l9 => k_is)
    (case c9 => k_is)
    (case k9 => k_is)
    (case a10 => k_is)
    (case l10 => k_is)
    (case c10 => k_is)
    (case k10 => k_is)
    (case a11 => k_is)
    (case l11 => k_is)
    (case c11 => k_is)
    (case k11 => k_is)
    (case a12 => k_is)
    (case l12 => k_is)
    (case c12 => k_is)
    (case k12 => k_is)
    (case a13 => k_is)
    (case l13 => k_is)
    (case c13 => k_is)
    (case k13 => k_is)
    (case a14 => k_is)
    (case l14 => k_is)
    (case c14 => k_is)
    (case k14 => k_is)
    (case a15 => k_is)
    (case l15 => k_is)
    (case c15 => k_is)
    (case k15 => k_is)
    (case a16 => k_is)
    (case l16 => k_is)
    (case c16 => k_is)
    (case k16 => k_is)
    (case a17 => k_is)
    (case l17 => k_is)
    (case c17 => k_is)
    (case k17 => k_is)
    (case a18 => k_is)
    (case l18 => k_is)
    (case c18 => k_is)
    (case k18 => k_is)
    (case a19 => k_is)
    (case l19 => k_is)
    (case c19 => k_is)
    (case k19 => k_is)
    (case a20 => k_is)
    (case l20 => k_is)
    (case c20 => k_is)
    (case k20 => k_is)
    (case a21 => k_is)
    (case l21 => k_is)
    (case c21 => k_is)
    (case k21 => k_is)
    (case a22 => k_is)
    (case l22 => k_is)
    (case c22 => k_is)
    (case k22 => k_is)
    (case a23 => k_is)
    (case l23 => k_is)
    (case c23 => k_is)
    (case k23 => k_is)
    (case a24 => k_is)
    (case l24 => k_is)
    (case c24 => k_is)
    (case k24 => k_is)
    (case a25 => k_is)
    (case l25 => k_is)
    (case c25 => k_is)
    (case k25 => k_is)
    (case a26 => k_is)
    (case l26 => k_is)
    (case c26 => k_is)
    (case k26 => k_is)
    (case a27 => k_is)
    (case l27 => k_is)
    (case c27 => k_is)
    (case k27 => k_is)
    (case a28 => k_is)
    (case l28 => k_is)
    (case c28 => k_is)
    (case k28 => k_is)
    (case a29 => k_is)
    (case l29 => k_is)
    (case c29 => k_is)
    (case k29 => k_is)
    (case a30 => k_is)
    (case l30 => k_is)
    (case c30 => k_is)
    (case k30 => k_is)
    (case a31 => k_is)
    (case l31 => k_is)
    (case c31 => k_is)
    (case k31 => k_is)
    (case a32 => k_is)
    (case l32 => k_is)
    (case c32 => k_is)
    (case k32 => k_is)
    (case a33 => k_is)
    (case l33 => k_is)
    (case c33 => k_is)
    (case k33 => k_is)
    (case z_abs => k_is)
    (case z_int => k_is)
    (case z_len => k_is)
    (case z_tuple => k_is)
    (case z_list => k_is)
    (case z_all => k_is)
    (case z_any => k_is)
    (case z_zip => k_is)
    (case z_range => k_is)
    (case z_repr => k_is)
    (case z_dict => k_is)
    (case z_isinstance => k_is)
    (case z_str => k_is)
    (case z_bool => k_is)
    (case gLong => k_is)
    (case gRel => k_is)
    (case lRel => k_is)
    (case gHom => k_is)
    (case lHom => k_is)
    (case gLen => k_is)
    (case lT => k_is)
    (case litT => exact ⟨⟨_, _, rfl, rfl⟩, ⟨_, _, rfl, rfl⟩, ⟨_, _, rfl, rfl⟩, ⟨_, _, rfl, rfl⟩, ⟨_, _, rfl, rfl⟩, ⟨_, _, rfl, rfl⟩, trivial⟩)
    (case nS => rfl)
