import PyProof.Rows.All
import Wide.All
import OpenK.AllK
import Wide.FinOn
import HandS.ForMost
import HandS.Wide
import HandS.Zip
import HandS.Style
import HandS.TupAny
import HandS.Replace
import HandS.IsInst
import HandS.Codes
import HandS.Conv
import HandS.More
import HandS.Evl
import HandS.NoneIn
import HandS.Deep
import HandS.Flow
import PyProof.ReprRoads
import HandS.Walk
import PyProof.StrLawsRepr
import PyProof.Rows.RegStrFacts
import PyProof.P3Eq
import HandS.Ends
import PySem.Challenge.RW_scriptpicks_k16_patterns_compared
set_option Elab.async false
set_option linter.all false
set_option maxRecDepth 100000
/-! rules of our own over the hand layer -/
namespace Own
open PySem PySem.Spec PyProof.Rows L2
section
variable {X : Cx}
theorem CallR.or {f : Value} {r r' : List V → Hp → VK → Prop} (h : CallR X f r) (h' : CallR X f r') : CallR X f (fun xs H Z => r xs H Z ∨ r' xs H Z) := by
  intro pk s τ H xs us Z I rs q
  rcases q with q | q
  · exact h pk s τ H xs us Z I rs q
  · exact h' pk s τ H xs us Z I rs q
theorem SlR.or {r r' : V → Option Int → Option Int → Hp → VK → Prop} (h : SlR X r) (h' : SlR X r') : SlR X (fun x lo hi H Z => r x lo hi H Z ∨ r' x lo hi H Z) := by
  intro pk s τ H x v vl vu lo hi sl Z I rx hst pl pu q
  rcases q with q | q
  · exact h pk s τ H x v vl vu lo hi sl Z I rx hst pl pu q
  · exact h' pk s τ H x v vl vu lo hi sl Z I rx hst pl pu q
theorem PI.or {tg iter : Expr} {w w' : TI} (h : PI X tg iter w) (h' : PI X tg iter w') : PI X tg iter (fun τ H R => w τ H R ∨ w' τ H R) :=
  ⟨fun pk s τ H R I q => q.elim (h.run pk s τ H R I) (h'.run pk s τ H R I)⟩
/-! ### unions: the reading chooses -/
def rAddI : R2 := rI0 fun i j => .int (i + j)
def rAddS : R2 := fun x y H Z => ∃ i j, x = .str i ∧ y = .str j ∧ i.length + j.length ≤ sizeLine ∧ Z (.str (i ++ j)) H
def rAdd (K : PySem.W.Frag) : R2 := fun x y H Z => rAddI x y H Z ∨ rAddS x y H Z ∨ rCat x y H Z ∨ rCatA K x y H Z
theorem opAdd : OpR X (binaryOp .Add) (rAdd X.K) := OpR.or op_add (OpR.or op_add_str (OpR.or op_cat op_catA))
def rMulI : R2 := rI CMul fun i j => .int (i * j)
def rMul : R2 := fun x y H Z => rMulI x y H Z ∨ rRep x y H Z
theorem opMul : OpR X (binaryOp .Mult) rMul := OpR.or op_mul op_rep
def rEqA (K : PySem.W.Frag) : R2 := fun x y H Z => rEq x y H Z ∨ rEqD K x y H Z
def rNeA (K : PySem.W.Frag) : R2 := fun x y H Z => rNe x y H Z ∨ rNeD K x y H Z
theorem opEq {k : Nat} (hr : Room k X.A) : OpR X (compareOp .Eq) (rEqA X.K) := OpR.or op_eq (op_eqD hr.units)
theorem opNe {k : Nat} (hr : Room k X.A) : OpR X (compareOp .NotEq) (rNeA X.K) := OpR.or op_ne (op_neD hr.units)
def rLtI : R2 := rI0 fun i j => .bl (decide (i < j))
def rLeI : R2 := rI0 fun i j => .bl (decide (i ≤ j))
def rGtI : R2 := rI0 fun i j => .bl (decide (j < i))
def rGeI : R2 := rI0 fun i j => .bl (decide (j ≤ i))
theorem opLt : OpR X (compareOp .Lt) rLtI := op_lt
theorem opLe : OpR X (compareOp .LtE) rLeI := op_le
theorem opGt : OpR X (compareOp .Gt) rGtI := op_gt
theorem opGe : OpR X (compareOp .GtE) rGeI := op_ge
def rInS : R2 := fun x y H Z => ∃ i j, x = .str i ∧ y = .str j ∧ Z (.bl (!(Builtin.Str.occurrences j i 0 j.length 1).isEmpty)) H
def rNotInS : R2 := fun x y H Z => ∃ i j, x = .str i ∧ y = .str j ∧ Z (.bl (!(!(Builtin.Str.occurrences j i 0 j.length 1).isEmpty))) H
def rInA (K : PySem.W.Frag) : R2 := fun x y H Z => rIn K false x y H Z ∨ rInS x y H Z
def rNotInA (K : PySem.W.Frag) : R2 := fun x y H Z => rIn K true x y H Z ∨ rNotInS x y H Z
theorem opIn : OpR X (compareOp .In) (rInA X.K) := OpR.or op_in_seq op_in_str
theorem opNotIn : OpR X (compareOp .NotIn) (rNotInA X.K) := OpR.or op_notIn_seq L2.op_notin_str
def rIxA (K : PySem.W.Frag) (w : World) : R2 := fun x y H Z => rIxL K x y H Z ∨ rIxT K x y H Z ∨ rIxS x y H Z ∨ rIxD K w x y H Z
theorem ixAny : IxR X (rIxA X.K X.w) := IxR.or ix_list (IxR.or ix_tup (IxR.or ix_str ix_kdict))
def rSlAny (K : PySem.W.Frag) : V → Option Int → Option Int → Hp → VK → Prop := fun x lo hi H Z => rSlL K x lo hi H Z ∨ rSlA K x lo hi H Z ∨ rSlS x lo hi H Z
theorem slAny : SlR X (rSlAny X.K) := SlR.or sl_list (SlR.or sl_tupA sl_str)
def iAny (K : PySem.W.Frag) (tl : TE) : TI := fun τ H R => iList K tl τ H R ∨ iTup K tl τ H R ∨ iStr tl τ H R
theorem piAny {tg l : Expr} {tl : TE} (hlen : PE X l tl) : PI X tg l (iAny X.K tl) := PI.or (pi_list hlen) (PI.or (pi_tup hlen) (pi_str hlen))
def rLenA (K : PySem.W.Frag) : List V → Hp → VK → Prop := fun xs H Z => (∃ p ys, xs = [.ref p] ∧ (SqL K H p ys ∨ SqT K H p ys) ∧ Z (.int ys.length) H) ∨ (∃ z, xs = [.str z] ∧ z.length ≤ sizeLine ∧ Z (.int z.length) H)
theorem callLen : CallR X (.builtin "len") (rLenA X.K) := CallR.or call_len_seq call_len_str
theorem pgetL : PGet X (rIxL X.K) := by
  intro pk s τ H x y v u Z I rx ry h
  obtain ⟨p, xs, i, z, rfl, rfl, hsq, hes, q⟩ := h
  cases rx
  obtain ⟨t, rfl⟩ := ry
  obtain ⟨gs, r, pl, hz⟩ := I.list hsq
  obtain ⟨j, h1, h2, h3, h4, h5⟩ := atI_get hes
  obtain ⟨w, ew, rw'⟩ := r.get h2
  have hlen := r.length
  have hn := line63
  have ready : EP X pk τ Z w s := ⟨z, H, I, rw', q⟩
  by_cases h0 : 0 ≤ i
  · have hj : i.toNat = j := by
      rw [seqIndex_of h0 h5] at h1
      exact Option.some.inj h1
    exact wpAny_getItem_list pl.isList h0 (by omega) (by rw [hj]; simpa using ew) ready
  · have hj : (i + (gs.toArray.size : Int)).toNat = j := by
      rw [seqIndex_neg (by omega) h4] at h1
      rw [List.size_toArray, ← hlen]
      exact Option.some.inj h1
    exact wpAny_getItem_list_neg pl.isList (by omega) (by rw [List.size_toArray] <;> omega) (by omega) (by rw [hj]; simpa using ew) ready
/-- repr of data -/
def rRepr (K : PySem.W.Frag) : List V → Hp → VK → Prop := fun xs H Z => ∃ a d, xs = [.ref a] ∧ Dp K H (.ref a) d ∧ d.showable = true ∧ d.hasDict = false ∧ d.depth ≤ 20 ∧ d.shown.length ≤ sizeLine ∧ Z (.str d.shown) H
theorem callRepr {k : Nat} (hg : X.A.guards = some []) (hr : Room k X.A) : CallR X (.builtin "repr") (rRepr X.K) := by
  intro pk s τ H xs us Z I r h
  obtain ⟨a, d, rfl, hd, hst, hn, hz, hlen, q⟩ := h
  rw [Vals.ref1 r]
  obtain ⟨as, rd⟩ := Dp.reads I d _ _ hd rfl
  have hu := hr.units
  exact repr_of_reads' rd hst (fun e => by rw [hn] at e; cases e) hg (by omega) (fun _ _ e => e) (fun h' u tk hkp => ⟨.str d.shown, H, I.kept (h' := h') (t' := tk) hkp, ⟨_, rfl⟩, q⟩) hlen
end
/-! ### defs that are called where no container is being shown -/
structure FnG (P : Program) (w : World) (K : PySem.W.Frag) (mg : Str → Option Value) (base : Heap) (k : Nat) (f : Addr) (fd : FuncData) (ps : List Str) (sp : Sp) : Prop where
  len : ∀ vs H Z EE, sp vs H Z EE → vs.length = ps.length
  run : ∀ (A : Around) (outer : List Env) (s : Shared) (H : Hp) (args : Args) (us : List Value) (vs : List V) (Z : VK) (EE : XK), Room k A → A.guards = some [] → Env0 P w K mg base A outer s H → BindsTo s fd args (ps.zip us) → Vals vs us → sp vs H Z EE →
    codeAny (model P w) A (.call (.ref f) args) (CR CX0 outer P w H s Z EE) s
structure CalG (P : Program) (w : World) (K : PySem.W.Frag) (mg : Str → Option Value) (base : Heap) (k : Nat) (x : Str) (sp : Sp) : Prop where
  ex : ∃ (f : Addr) (fd : FuncData) (ps : List Str), FnG P w K mg base k f fd ps sp ∧ mg x = some (.ref f) ∧ PySem.W.keepIn K (.ref f) = true ∧ Binds K fd ps []
structure Df (K : PySem.W.Frag) (mg : Str → Option Value) (x : Str) (st : Stmt) : Prop where
  ex : ∃ (f : Addr) (fd : FuncData), mg x = some (.ref f) ∧ Fun K x x st f fd
section
variable {P : Program} {w : World} {K : PySem.W.Frag} {mg : Str → Option Value} {base : Heap}
theorem CalG.imp {k : Nat} {x : Str} {sp sp' : Sp} (c : CalG P w K mg base k x sp) (h : ∀ vs H Z EE, sp' vs H Z EE → sp vs H Z EE) : CalG P w K mg base k x sp' := by
  obtain ⟨f, fd, ps, F, a, b, d⟩ := c.ex
  exact ⟨f, fd, ps, ⟨fun vs H Z EE q => F.len vs H Z EE (h _ _ _ _ q), fun A outer s H args us vs Z EE hr hg hes hbd hv hst => F.run A outer s H args us vs Z EE hr hg hes hbd hv (h _ _ _ _ hst)⟩, a, b, d⟩
theorem fn_mk {x : Str} {f : Addr} {fd : FuncData} {st : Stmt} {N ps : List Str} {k : Nat} {sp : Sp} (F : Fun K x x st f fd) (S : FnScope N ps (defScope st))
    (len : ∀ vs H Z EE, sp vs H Z EE → vs.length = ps.length)
    (hbody : ∀ (cdv : Value) (A : Around) (outer : List Env) (s : Shared) (H : Hp) (vs : List V) (Z : VK) (EE : XK), Room k (A.deeper (envOfC x (defScope st) s.heap.objs.size f cdv)) → (A.deeper (envOfC x (defScope st) s.heap.objs.size f cdv)).guards = some [] → sp vs H Z EE →
      ∃ t, PSs (cxOf CX0 P w K mg base N x (defScope st) f cdv A outer s H EE).nox (defBody st) t ∧ t { nx := fun _ H' => Z .non H', rt := Z } (start N vs) H) : FnG P w K mg base (k + 1) f fd ps sp := by
  obtain ⟨oc, od, kV, doc, pm, an, cdv, ct, sl, rfl, lkp, hcd⟩ := F.ex
  refine ⟨len, fun A outer s H args us vs Z EE hr hg e0 hbt r hsp => ?_⟩
  have body : ∀ (A : Around) (outer : List Env) (s : Shared) (H : Hp) (vs : List V) (Z : VK) (EE : XK), Room k (A.deeper (envOfC x (defScope st) s.heap.objs.size f cdv)) → A.guards = some [] → sp vs H Z EE →
      ∃ t, PSs (cxOf CX0 P w K mg base N x (defScope st) f cdv A outer s H EE) (defBody st) t ∧ t { nx := fun _ H' => Z .non H', rt := Z } (start N vs) H := fun A outer s H vs Z EE hr hg hsp => by
    obtain ⟨t, h, q⟩ := hbody cdv A outer s H vs Z EE hr hg hsp
    exact ⟨t, h.nox, q⟩
  have hlen := len _ _ _ _ hsp
  have KI : K.In s.heap := e0.mod.kin.keeps fun b o e => (e0.bs b o e).1
  have nlm : s.heap.NoLimit := e0.mod.nolimit.keeps fun b o e => (e0.bs b o e).1
  have hkind : ∀ y ∈ ps.zip us, (defScope st).names.lookup y.1 = some .local ∨ ((defScope st).names.lookup y.1 = some .cell ∧ ((cellsFrom (s.heap.objs.size + 1) (defScope st).names []).lookup y.1).isSome = true) := fun ⟨n, v⟩ hyy => by
    rcases S.par n (List.of_mem_zip hyy).1 with q | q
    · exact .inl q
    · exact .inr ⟨q, PySem.W.cellsFrom_some _ _ _ (.inl q)⟩
  refine codeAny_call_function hr.depth (KI _ _ lkp) rfl S.co S.gen rfl (PySem.W.codeRec_of KI hcd) (hbt _ _ _ _ ?_)
  refine wpAny_newFunctionEnv_cells S.kind hkind fun env hes st1 xx => ?_
  subst hes
  refine ⟨nlm.keeps xx.toInCall.keep, codeAny_func ?_⟩
  obtain ⟨t, ht, hsq⟩ := body A outer s H vs Z EE (hr.deeper _) hg hsp
  have I : Inv (cxOf CX0 P w K mg base N x (defScope st) f cdv A outer s H EE) [] (start N vs) H st1 := inv_start S hr.hd e0 hlen r xx
  refine wpAny_mono (ht.run [] st1 (start N vs) H _ I hsq) (fun fl s' hst => ?_) fun e s' hst => hst
  have ready : ∀ {τ' : L2.St} {H' : Hp} {v : V} {u : Value}, Inv (cxOf CX0 P w K mg base N x (defScope st) f cdv A outer s H EE) [] τ' H' s' → RelV v u → Z v H' → CE outer P w H s Z u s' :=
    fun {τ' H' v u} J rv q => ⟨v, H', J.os, J.bare, J.base, J.hok, rv, q⟩
  cases fl with
  | ret u =>
    obtain ⟨v, τ', H', J, rv, q⟩ := hst
    exact ready J rv q
  | next =>
    obtain ⟨τ', H', J, q⟩ := hst
    exact ready (v := V.non) (u := Value.none) J rfl q
  | brk =>
    obtain ⟨_, _, _, q⟩ := hst
    exact False.elim q
  | cont =>
    obtain ⟨_, _, _, q⟩ := hst
    exact False.elim q
theorem cal_mk {x : Str} {st : Stmt} {N ps : List Str} {k : Nat} {sp : Sp} (D : Df K mg x st) (S : FnScope N ps (defScope st))
    (hbd : ∀ (kV doc pm : Value) (an : Option Addr) (cdv ct : Value) (us : List Value), us.length = ps.length → bindArgs (PySem.W.fnOf x x (defArgs st) (defBody st) (defScope st) .none kV doc pm an cdv ct) ⟨us, []⟩ = pure (ps.zip us))
    (len : ∀ vs H Z EE, sp vs H Z EE → vs.length = ps.length)
    (hbody : ∀ (f : Addr) (cdv : Value) (A : Around) (outer : List Env) (s : Shared) (H : Hp) (vs : List V) (Z : VK) (EE : XK), Room k (A.deeper (envOfC x (defScope st) s.heap.objs.size f cdv)) → (A.deeper (envOfC x (defScope st) s.heap.objs.size f cdv)).guards = some [] → sp vs H Z EE →
      ∃ t, PSs (cxOf CX0 P w K mg base N x (defScope st) f cdv A outer s H EE).nox (defBody st) t ∧ t { nx := fun _ H' => Z .non H', rt := Z } (start N vs) H) : CalG P w K mg base (k + 1) x sp := by
  obtain ⟨f, fd, hmg, F⟩ := D.ex
  exact ⟨f, fd, ps, fn_mk F S len (hbody f), hmg, F.kp, F.binds hbd⟩
end
section
variable {X : Cx} {pk : List (Addr × Obj)} {τ : L2.St} {H : Hp} {s : Shared} {k j : Nat} {sp : Sp} {f : Addr} {fd : FuncData} {ps : List Str} {Z : VK} {us : List Value} {vs : List V} {x : Str} {p pos : Pos} {e : Expr} {es : List Expr} {t : TA}
theorem run_fnG (F : FnG X.prog X.w X.K X.mg X.base k f fd ps sp) (hr : Room k X.A) (hg : X.A.guards = some []) (hbd : Binds X.K fd ps [])
    (I : Inv X pk τ H s) (r : Vals vs us) (h : sp vs H Z E0) : wpAny (model X.prog X.w) X.A (call (.ref f) us) (EP X pk τ Z) X.xe s := by
  have hlen : us.length = ps.length := by rw [← r.length]; exact F.len _ _ _ _ h
  have e1 : us ++ [] = us := List.append_nil us
  refine wpAny_call (codeAny_mono (F.run X.A X.stack s H ⟨us, []⟩ us vs Z E0 hr hg I.env0 (by have q := hbd s us I.kIn (by rw [e1]; exact hlen); rw [e1] at q; exact q) r h) fun r s' hsq => ?_)
  cases r with
  | error e => exact (show False from hsq).elim
  | ok fl =>
    cases fl with
    | ret u => exact I.after hsq
    | next => exact False.elim hsq
    | brk => exact False.elim hsq
    | cont => exact False.elim hsq
theorem pe_cG (c : CalG X.prog X.w X.K X.mg X.base k x sp) (hr : Room j X.A) (hg0 : X.A.guards = some []) (hkp : k ≤ j) (hg : Gl X x) (ha : PA X (e :: es) t)
    (hdb : (x == ("__debug__" : Str)) = false := by decide) (hes : starEach (e :: es) X.env = (false, eval e X.env) :: starEach es X.env := by rfl) (hpl : (backTo pos (starEach es X.env)).any (·.1) = false := by rfl) :
    PE X (.Call (.Name x p) (e :: es) [] pos) (tCall sp [] E0 t) := by
  obtain ⟨f, fd, ps, F, hmg, kp, b⟩ := c.ex
  refine ⟨fun pk s τ H Z I h => ?_⟩
  refine wpAny_Call_Name_kw (ld_glob I hg hmg ?_ hdb)
  refine PySem.W.callWith_K (h₀ := X.base) I.ok.mod.kin kp (thn (ha.run pos pk s τ H _ I h) fun us st1 ⟨vs, H1, I1, r, q⟩ => ⟨I1.kIn, ?_⟩) hes hpl
  have q : sp (vs ++ []) H1 Z E0 := q
  rw [List.append_nil] at q
  exact run_fnG F (hr.mono hkp) hg0 b I1 r q
end
end Own

namespace Own
open PySem PySem.Spec PyProof.Rows L2 Evl
theorem up_old {H : Hp} {p q : Addr} {o u : HO} (hp : H p = none) (h : H q = some u) : upd H p o q = some u := by
  rw [upd_ne (ne_of_none h hp)]
  exact h
theorem gen1 {H H1 : Hp} {p : Addr} {o : HO} (hq : upd H p o = H1) (hp : H p = none) : Ex H H1 ∧ H1 p = some o := by
  subst hq
  exact ⟨Ex.new hp, upd_same⟩
/-! ### tuples never change -/
def TEx (H H' : Hp) : Prop := ∀ a xs, H a = some (.tup xs) → H' a = some (.tup xs)
theorem TEx.refl (H : Hp) : TEx H H := fun _ _ h => h
theorem TEx.trans {H H1 H2 : Hp} (a : TEx H H1) (b : TEx H1 H2) : TEx H H2 := fun x o h => b x o (a x o h)
theorem TEx.of {H H' : Hp} (e : Ex H H') : TEx H H' := fun a _ h => e a _ h
theorem TEx.lst {H : Hp} {D : Addr} {xs : List V} {o : HO} (h : H D = some (.lst xs)) : TEx H (upd H D o) := fun a ys q => by
  rw [upd_ne (fun z => by rw [z, h] at q; cases q)]
  exact q
/-- two tuples, zipped -/
theorem walk_zipT {K : PySem.W.Frag} {a b : Addr} {xs ys : List V} {n : Nat} (hn : n = min xs.length ys.length) :
    Walk (RZ.ItzT K a b) n (fun H => SqT K H a xs ∧ SqT K H b ys) (YPair (fun i => xs[i]?) (fun i => ys[i]?)) := by
  refine ⟨fun i H hi h => ?_, fun H h => ⟨xs, ys, h.1, h.2, by omega⟩, fun i H x H' hi h y => ?_⟩
  · exact ⟨xs, ys, xs[i], ys[i], h.1, h.2, List.getElem?_eq_getElem (by omega), List.getElem?_eq_getElem (by omega)⟩
  · obtain ⟨T, u, v, rfl, h1, h2, h3, h4⟩ := y
    exact ⟨T, u, v, rfl, h1, h2, h3 _ h.1, h4 _ h.2⟩
/-- what is left of a comprehension, of a for, behind its source -/
def LcRest (g : TG) (tt : TT) (te : TE) (vs : List Nat) (σ : L2.St) (Q : VK) : It → Hp → Prop := fun J H1 => tLc (fun _ _ R => R J H1) g tt te vs σ H1 Q
def tLcO (wi : TI) (g : TG) (tt : TT) (te : TE) (vs : List Nat) : TE := fun σ H Q => wi σ H (LcRest g tt te vs σ Q)
def ForRest (g : TG) (tb : TS) (D : Ends) : L2.St → It → Hp → Prop := fun σ J H1 => tFor (fun _ _ R => R J H1) g tb D σ H1
def tForO (wi : TI) (g : TG) (tb : TS) : TS := fun D σ H => wi σ H (ForRest g tb D σ)
theorem pe_lcO {X : Cx} {e : Expr} {wi : TI} {g : TG} {tt : TT} {te : TE} {vs : List Nat} (h : PE X e (tLc wi g tt te vs)) : PE X e (tLcO wi g tt te vs) := h
theorem ps_setLcO {X : Cx} {st : Stmt} {wi : TI} {g k : TG} {tt : TT} {te : TE} {vs : List Nat} (h : PS X st (tAsg (tLc wi g tt te vs) k)) : PS X st (tAsg (tLcO wi g tt te vs) k) := h
theorem ps_forO {X : Cx} {st : Stmt} {wi : TI} {g : TG} {tb : TS} (h : PS X st (tFor wi g tb)) : PS X st (tForO wi g tb) := h
/-! ### the unions within a comprehension -/
section
variable {X : Cx} {s : Shared} {H : Hp} {sc : Scope} {ce : Env} {fp : List Addr} {s' : Shared} {H' : Hp} {sc' : Scope} {ce' : Env} {fp' : List Addr}
theorem pg_tupB {es : List Expr} {k n : Nat} {pos : Pos} {t : TGs} (hc : X.calm = true) (h : PGs (X.blk s H sc ce fp) es t) (hn : (assignEach es (X.blk s H sc ce fp).env).length = n := by rfl)
    (hst : (assignEach es (X.blk s H sc ce fp).env).findIdx? (·.1) = none := by rfl) : PG (X.blk s H sc ce fp) (.Tuple es k pos) (gTup X.K n t) := pg_tup (X := X.blk s H sc ce fp) hc h hn hst
theorem opAddB : OpR (X.blk s H sc ce fp) (binaryOp .Add) (rAdd X.K) := opAdd
theorem opEqB {k : Nat} (hr : Room k X.A) : OpR (X.blk s H sc ce fp) (compareOp .Eq) (rEqA X.K) := opEq hr
theorem opNeB {k : Nat} (hr : Room k X.A) : OpR (X.blk s H sc ce fp) (compareOp .NotEq) (rNeA X.K) := opNe hr
theorem opInB : OpR (X.blk s H sc ce fp) (compareOp .In) (rInA X.K) := opIn
theorem opNotInB : OpR (X.blk s H sc ce fp) (compareOp .NotIn) (rNotInA X.K) := opNotIn
theorem ixAnyB : IxR (X.blk s H sc ce fp) (rIxA X.K X.w) := ixAny
theorem slAnyB : SlR (X.blk s H sc ce fp) (rSlAny X.K) := slAny
theorem callLenB : CallR (X.blk s H sc ce fp) (.builtin "len") (rLenA X.K) := callLen
theorem opAddBB : OpR ((X.blk s H sc ce fp).blk s' H' sc' ce' fp') (binaryOp .Add) (rAdd X.K) := opAdd
theorem opEqBB {k : Nat} (hr : Room k X.A) : OpR ((X.blk s H sc ce fp).blk s' H' sc' ce' fp') (compareOp .Eq) (rEqA X.K) := opEq hr
theorem opNeBB {k : Nat} (hr : Room k X.A) : OpR ((X.blk s H sc ce fp).blk s' H' sc' ce' fp') (compareOp .NotEq) (rNeA X.K) := opNe hr
theorem opInBB : OpR ((X.blk s H sc ce fp).blk s' H' sc' ce' fp') (compareOp .In) (rInA X.K) := opIn
theorem opNotInBB : OpR ((X.blk s H sc ce fp).blk s' H' sc' ce' fp') (compareOp .NotIn) (rNotInA X.K) := opNotIn
theorem ixAnyBB : IxR ((X.blk s H sc ce fp).blk s' H' sc' ce' fp') (rIxA X.K X.w) := ixAny
theorem slAnyBB : SlR ((X.blk s H sc ce fp).blk s' H' sc' ce' fp') (rSlAny X.K) := slAny
theorem callLenBB : CallR ((X.blk s H sc ce fp).blk s' H' sc' ce' fp') (.builtin "len") (rLenA X.K) := callLen
end
/-- a for: Pv by the turn, the slots and the heap -/
theorem frG {J : It} {n : Nat} {G : Hp → Prop} {Y : Nat → Hp → V → Hp → Prop} (w : Walk J n G Y) {g : TG} {tb : TS} {D : Ends} {σ : L2.St} {H : Hp} (Pv : Nat → L2.St → Hp → Prop) (h0 : Pv 0 σ H) (hG : ∀ i σ H, i ≤ n → Pv i σ H → G H)
    (hs : ∀ i x σ H H', i < n → Pv i σ H → Y i H x H' → g x σ H' fun σ2 H2 => tb { D with nx := Pv (i + 1), ct := Pv (i + 1), bk := D.nx } σ2 H2) (hd : ∀ σ H, Pv n σ H → D.nx σ H) : ForRest g tb D σ J H := for_it w Pv h0 hG hs hd
/-- a comprehension whose turns may give anything: Pa speaks of the turn, what has been given, and tuples -/
theorem lcG {J : It} {n : Nat} {G : Hp → Prop} {Y : Nat → Hp → V → Hp → Prop} (w : Walk J n G Y) {g : TG} {tt : TT} {te : TE} {vs : List Nat} {σ : L2.St} {H1 : Hp} {Q : VK} (hn : n ≤ 40000) (hG0 : G H1) (hGm : ∀ H H', Ex H H' → G H → G H') (hY : ∀ i H x H', Y i H x H' → Ex H H')
    (Pa : Nat → List V → Hp → Prop) (hm : ∀ i ys H H', TEx H H' → Pa i ys H → Pa i ys H') (p0 : Pa 0 [] H1)
    (hs : ∀ i x H H' ys, i < n → Ex H1 H → Y i H x H' → Pa i ys H' → ∀ (N : V → Hp → Prop) (N0 : Hp → Prop), (∀ y H4, Ex H' H4 → Pa (i + 1) (ys ++ [y]) H4 → N y H4) → (∀ H3, Ex H' H3 → Pa (i + 1) ys H3 → N0 H3) →
      g x (wipe σ vs) H' fun σ2 H2 => wipe σ2 vs = wipe σ vs ∧ tt σ2 H2 fun b H3 => if b = true then te σ2 H3 N else N0 H3)
    (k : ∀ D H2 ys, H1 D = none → Ex H1 H2 → H2 D = some (.lst ys) → ys.length ≤ n → Pa n ys H2 → Q (.ref D) H2) :
    LcRest g tt te vs σ Q J H1 := by
  intro D hD
  refine lc_it w (fun i H => ∃ ys, Ex H1 H ∧ H D = some (.lst ys) ∧ ys.length ≤ i ∧ Pa i ys H) ⟨[], Ex.new hD, upd_same, Nat.zero_le _, hm _ _ _ _ (TEx.of (Ex.new hD)) p0⟩ (fun i H hi ⟨ys, e, _⟩ => hGm _ _ e hG0) ?_ ?_
  · rintro i x H H' hi ⟨ys, e, hd, hl, hp⟩ hy
    have e' := hY _ _ _ _ hy
    refine hs i x H H' ys hi e hy (hm _ _ _ _ (TEx.of e') hp) _ _ (fun y H4 e4 p4 => ?_) (fun H3 e3 p3 => ?_)
    · have d4 := e4 _ _ (e' _ _ hd)
      refine ⟨ys, d4, sz_lt (by omega), ys ++ [y], Ex.mut ((e.trans e').trans e4) hD, upd_same, ?_, hm _ _ _ _ (TEx.lst d4) p4⟩
      rw [List.length_append]
      show ys.length + 1 ≤ i + 1
      omega
    · exact ⟨ys, (e.trans e').trans e3, e3 _ _ (e' _ _ hd), by omega, p3⟩
  · rintro H ⟨ys, e, hd, hl, hp⟩
    exact k D H ys hD e hd hl hp
theorem ex_eq {H H' : Hp} (h : H' = H) : Ex H H' := by
  subst h
  exact Ex.refl _
theorem yAt_ex {xs : List V} : ∀ i H x H', YAt xs i H x H' → Ex H H' := fun _ _ _ _ h => ex_eq h.1
theorem yFn_ex {f : Nat → V} : ∀ i H x H', YFn f i H x H' → Ex H H' := fun _ _ _ _ h => ex_eq h.1
theorem yPair_ex {xs ys : Nat → Option V} : ∀ i H x H', YPair xs ys i H x H' → Ex H H' := fun _ _ _ _ h => by
  obtain ⟨T, u, v, _, h1, rfl, _, _⟩ := h
  exact Ex.new h1
/-! ### texts by their signs -/
def cs (z : Str) : List Nat := z.cps.toList
theorem cs_ext {a b : Str} (h : cs a = cs b) : a = b := PyProof.Rows.ext_toList h
theorem cs_len (z : Str) : z.length = (cs z).length := by simp [cs, Str.length]
theorem cs_add (a b : Str) : cs (a ++ b) = cs a ++ cs b := TL.tl_append a b
theorem cs_one (c : Nat) : cs ⟨#[c]⟩ = [c] := rfl
theorem cut_from (xs : List V) (j : Nat) : cutV xs (some (j : Int)) none = xs.drop j := by
  unfold cutV
  rw [HT.sIx_nat, HT.sIx_none]
  by_cases h : j ≤ xs.length
  · rw [Nat.min_eq_left h]
    apply List.take_of_length_le
    rw [List.length_drop]
    exact Nat.le_refl _
  · rw [Nat.min_eq_right (by omega), Nat.sub_self, List.take_zero, List.drop_of_length_le (by omega)]
theorem joinL_one : ∀ l : List Nat, TL.joinL [] (l.map fun c => [c]) = l
  | [] => rfl
  | [c] => rfl
  | c :: d :: r => by
    show [c] ++ ([] ++ TL.joinL [] ((d :: r).map fun c => [c])) = c :: d :: r
    rw [joinL_one (d :: r)]
    rfl
def sgn (c : Nat) : Str := ⟨#[c]⟩
theorem sum_sgn : ∀ cr : List Nat, ((cr.map sgn).map (·.length)).sum = cr.length
  | [] => rfl
  | c :: r => by
    rw [List.map_cons, List.map_cons, List.sum_cons, sum_sgn r, List.length_cons]
    show 1 + r.length = r.length + 1
    omega
theorem join_sgn (l : List Nat) : Txt.join ("" : Str) (l.map sgn) = SX.S l := by
  have e : l.map sgn = (l.map fun c => [c]).map SX.S := by
    rw [List.map_map]
    rfl
  rw [e]
  have q := SX.join_S [] (l.map fun c => [c])
  rw [joinL_one] at q
  exact q
theorem in_strs (z : Str) : ∀ ns : List Str, inV (.str z) (ns.map V.str) = decide (z ∈ ns)
  | [] => rfl
  | n :: ns => by
    have ih := in_strs z ns
    unfold inV at ih ⊢
    rw [List.map_cons, List.any_cons, ih]
    show ((n == z) || decide (z ∈ ns)) = decide (z ∈ n :: ns)
    by_cases h : n = z
    · subst h
      simp
    · have h2 : ¬ z = n := fun e => h e.symm
      have h3 : (n == z) = false := beq_eq_false_iff_ne.mpr h
      rw [h3, Bool.false_or]
      simp [h2]
theorem flat_strs (ns : List Str) : (ns.map V.str).all flatV = true := by
  rw [List.all_eq_true]
  intro x hx
  obtain ⟨y, _, rfl⟩ := List.mem_map.mp hx
  rfl
theorem str_at {ns : List Str} {i : Nat} {x : V} (h : (ns.map V.str)[i]? = some x) : ∃ z, ns[i]? = some z ∧ x = .str z := by
  rw [List.getElem?_map] at h
  cases e : ns[i]? with
  | none => rw [e] at h; cases h
  | some z => rw [e] at h; exact ⟨z, rfl, (Option.some.inj h).symm⟩
end Own

namespace Own
open PySem PySem.Spec PyProof.Rows L2 Evl
theorem listText_le (ts : List Str) : (listText ts).length ≤ piled ts + 3 := by
  unfold listText
  rw [strLen_append]
  cases ts with
  | nil => decide
  | cons t r =>
    show (textFrom 1 (("[" : Str) ++ ("" : Str) ++ t) r).length + 1 ≤ _
    rw [textFrom_length_pos _ _ _ (by decide), piled_cons, strLen_append, strLen_append]
    show 1 + 0 + t.length + piled r + 1 ≤ _
    omega
theorem tupleText_le (ts : List Str) : (tupleText ts).length ≤ piled ts + 3 := by
  unfold tupleText
  rw [strLen_append, strLen_append]
  have e3 : (((if ts.length == 1 then ",)" else ")" : String) : Str)).length ≤ 2 := by split <;> decide
  have e1 : ((("(" : String) : Str)).length = 1 := rfl
  by_cases h : ts = []
  · subst h
    decide
  · have := join_length_add ts h
    omega
mutual
/-- no text of d is longer -/
def wt : PyData → Nat
  | .none => 4
  | .bool _ => 5
  | .int _ => 1921
  | .str x => 10 * x.length + 2
  | .list xs => wts xs + 3
  | .tuple xs => wts xs + 3
  | .dict _ => 0
def wts : List PyData → Nat
  | [] => 0
  | x :: xs => wt x + 2 + wts xs
end
mutual
theorem shown_le : ∀ d : PyData, d.canLay0 = true → d.showable = true → d.shown.length ≤ wt d
  | .none, _, _ => by decide
  | .bool b, _, _ => by cases b <;> decide
  | .int i, _, h => int_text_len_1921 (of_decide_eq_true h)
  | .str x, h, _ => by
    refine StrLaws.reprText_len x fun c hc => ?_
    have h2 : x.cps.all (· < 0x110000) = true := h
    rw [← Array.all_toList] at h2
    have q := of_decide_eq_true ((List.all_eq_true.mp h2) c hc)
    exact Nat.lt_trans q (by decide)
  | .list xs, h, h2 => by
    have q := shownAll_le xs h h2
    have z := listText_le (PyData.shownAll xs)
    show (listText (PyData.shownAll xs)).length ≤ wts xs + 3
    omega
  | .tuple xs, h, h2 => by
    have q := shownAll_le xs h h2
    have z := tupleText_le (PyData.shownAll xs)
    show (tupleText (PyData.shownAll xs)).length ≤ wts xs + 3
    omega
  | .dict _, h, _ => by cases h
theorem shownAll_le : ∀ ds : List PyData, PyData.canLayAll0 ds = true → PyData.showableAll ds = true → piled (PyData.shownAll ds) ≤ wts ds
  | [], _, _ => Nat.le_refl _
  | d :: ds, h, h2 => by
    have h' : (d.canLay0 && PyData.canLayAll0 ds) = true := h
    have h2' : (d.showable && PyData.showableAll ds) = true := h2
    rw [Bool.and_eq_true] at h' h2'
    have q1 := shown_le d h'.1 h2'.1
    have q2 := shownAll_le ds h'.2 h2'.2
    show piled (d.shown :: PyData.shownAll ds) ≤ wt d + 2 + wts ds
    rw [piled_cons]
    omega
end
/-- data that may be shown and compared -/
def fine (d : PyData) : Prop := d.canLay0 = true ∧ d.showable = true ∧ d.depth ≤ 20 ∧ wt d ≤ 16000000
theorem fine.noDict {d : PyData} (h : fine d) : d.hasDict = false := PyData.hasDict_of_canLay d h.1
theorem fine.shp {d : PyData} (h : fine d) : SeqAt.shaped d = true := by
  unfold SeqAt.shaped
  rw [h.1, Bool.true_and]
  exact decide_eq_true (Nat.le_trans h.2.2.1 (by decide))
theorem fine.len {d : PyData} (h : fine d) : d.shown.length ≤ sizeLine := Nat.le_trans (shown_le d h.1 h.2.1) (Nat.le_trans h.2.2.2 (by decide))
/-- repr of any data -/
def rReprA (K : PySem.W.Frag) : List V → Hp → VK → Prop := fun xs H Q => ∃ v d, xs = [v] ∧ Dp K H v d ∧ fine d ∧ Q (.str d.shown) H
theorem callReprA {X : Cx} {k : Nat} (hg : X.A.guards = some []) (hr : Room k X.A) : CallR X (.builtin "repr") (rReprA X.K) := by
  intro pk s τ H xs us Q I r h
  obtain ⟨v, d, rfl, hd, hf, q⟩ := h
  cases hd with
  | lst h1 h2 => exact callRepr hg hr pk s τ H _ us Q I r ⟨_, _, rfl, .lst h1 h2, hf.2.1, hf.noDict, hf.2.2.1, hf.len, q⟩
  | tup h1 h2 => exact callRepr hg hr pk s τ H _ us Q I r ⟨_, _, rfl, .tup h1 h2, hf.2.1, hf.noDict, hf.2.2.1, hf.len, q⟩
  | non =>
    obtain ⟨u, rfl, ru⟩ := vals1 r
    cases ru
    exact PySem.P.repr_of_none ⟨.str "None", H, I.tok _, ⟨_, rfl⟩, q⟩
  | bl b =>
    obtain ⟨u, rfl, ru⟩ := vals1 r
    cases ru
    exact PySem.P.repr_of_bool ⟨.str (if b then "True" else "False"), H, I.tok _, ⟨_, by cases b <;> rfl⟩, by cases b <;> exact q⟩
  | int i =>
    obtain ⟨u, rfl, t, rfl⟩ := vals1 r
    exact PySem.P.repr_of_int (of_decide_eq_true hf.2.1) ⟨.str (toString i), H, I.tok _, ⟨_, rfl⟩, q⟩
  | str x =>
    obtain ⟨u, rfl, t, rfl⟩ := vals1 r
    exact PySem.P.repr_of_str ⟨.str (reprText x), H, I.tok _, ⟨_, rfl⟩, q⟩ hf.len
def spAlike (K : PySem.W.Frag) : Sp := fun vs H Q _ => ∃ (x y : V) (d : PyData), vs = [x, y] ∧ Dp K H x d ∧ Dp K H y d ∧ fine d ∧ Q (.bl true) H
/-- bounds by parts -/
def fin (n W : Nat) (d : PyData) : Prop := d.canLay0 = true ∧ d.showable = true ∧ d.depth ≤ n ∧ wt d ≤ W
theorem fin.fine {n W : Nat} {d : PyData} (h : fin n W d) (h1 : n ≤ 20) (h2 : W ≤ 16000000) : fine d := ⟨h.1, h.2.1, Nat.le_trans h.2.2.1 h1, Nat.le_trans h.2.2.2 h2⟩
theorem fin.mono {n W n' W' : Nat} {d : PyData} (h : fin n W d) (h1 : n ≤ n') (h2 : W ≤ W') : fin n' W' d := ⟨h.1, h.2.1, Nat.le_trans h.2.2.1 h1, Nat.le_trans h.2.2.2 h2⟩
theorem fin_all {n W : Nat} : ∀ {ds : List PyData}, (∀ d ∈ ds, fin n W d) → PyData.canLayAll0 ds = true ∧ PyData.showableAll ds = true ∧ PyData.depthAll ds ≤ n ∧ wts ds ≤ ds.length * (W + 2)
  | [], _ => ⟨rfl, rfl, Nat.zero_le _, Nat.zero_le _⟩
  | d :: ds, h => by
    obtain ⟨a1, a2, a3, a4⟩ := h d List.mem_cons_self
    obtain ⟨b1, b2, b3, b4⟩ := fin_all fun x hx => h x (List.mem_cons_of_mem _ hx)
    refine ⟨?_, ?_, ?_, ?_⟩
    · show (d.canLay0 && PyData.canLayAll0 ds) = true
      rw [a1, b1]
      rfl
    · show (d.showable && PyData.showableAll ds) = true
      rw [a2, b2]
      rfl
    · show max d.depth (PyData.depthAll ds) ≤ n
      omega
    · show wt d + 2 + wts ds ≤ (ds.length + 1) * (W + 2)
      rw [Nat.add_mul]
      omega
theorem fin_list {n W m : Nat} {ds : List PyData} (h : ∀ d ∈ ds, fin n W d) (hm : ds.length ≤ m) : fin (n + 1) (m * (W + 2) + 3) (.list ds) := by
  obtain ⟨b1, b2, b3, b4⟩ := fin_all h
  refine ⟨b1, b2, Nat.succ_le_succ b3, ?_⟩
  show wts ds + 3 ≤ _
  have q := Nat.mul_le_mul_right (W + 2) hm
  omega
theorem fin_tup {n W m : Nat} {ds : List PyData} (h : ∀ d ∈ ds, fin n W d) (hm : ds.length ≤ m) : fin (n + 1) (m * (W + 2) + 3) (.tuple ds) := by
  obtain ⟨b1, b2, b3, b4⟩ := fin_all h
  refine ⟨b1, b2, Nat.succ_le_succ b3, ?_⟩
  show wts ds + 3 ≤ _
  have q := Nat.mul_le_mul_right (W + 2) hm
  omega
theorem fin_str {z : Str} {L : Nat} (h : (PyData.str z).canLay0 = true) (hl : z.length ≤ L) : fin 0 (10 * L + 2) (.str z) := by
  refine ⟨h, rfl, Nat.le_refl _, ?_⟩
  show 10 * z.length + 2 ≤ _
  omega
theorem fin_bool (b : Bool) : fin 0 5 (.bool b) := ⟨rfl, rfl, Nat.le_refl _, Nat.le_refl _⟩
theorem fin_none : fin 0 5 .none := ⟨rfl, rfl, Nat.le_refl _, by show 4 ≤ 5; decide⟩
theorem fin_int {i : Int} (h : i.natAbs.log2 < 1920) : fin 0 1921 (.int i) := ⟨rfl, decide_eq_true h, Nat.le_refl _, Nat.le_refl _⟩
/-- a text times 0 or 1 -/
def rMulS : R2 := fun x y H Q => ∃ (z : Str) (k : Bool), x = .str z ∧ y = .int (if k then 1 else 0) ∧ z.length ≤ 100000 ∧ Q (.str (if k then z else Str.empty)) H
theorem op_mulS {X : Cx} : OpR X (binaryOp .Mult) rMulS := by
  intro pk s τ H x y v u Q I rx ry h
  obtain ⟨z, k, rfl, rfl, hl, q⟩ := h
  obtain ⟨t, rfl⟩ := rx
  cases k with
  | false =>
    obtain ⟨t', rfl⟩ := ry
    exact PySem.P.mul_str_none (by decide) (by decide) ⟨.str _, H, I.tok _, ⟨_, rfl⟩, q⟩
  | true =>
    obtain ⟨t', rfl⟩ := ry
    have z : EP X pk τ Q (.str z t) s := ⟨.str _, H, I, ⟨_, rfl⟩, q⟩
    refine PySem.P.mul_str (by decide) (fun _ h => absurd h (by simp)) (fun _ h => absurd h (by simp)) ?_
    rw [if_neg (by decide), if_pos (by simp)]
    exact z
end Own

namespace Own
open PySem PySem.Spec PyProof.Rows L2 Evl
def top (i : Nat) : Stmt := PySem.Challenge.pw_scriptpicks_k16_patterns_compared.main.body.getD i (.Pass ⟨0, 0, 0, 0⟩)
/-- all but b stands -/
def ExB (b : Addr) (H H' : Hp) : Prop := ∀ a o, a ≠ b → H a = some o → H' a = some o
theorem ExB.refl (b : Addr) (H : Hp) : ExB b H H := fun _ _ _ h => h
theorem ExB.set {b : Addr} {H H' : Hp} {o : HO} (e : ExB b H H') : ExB b H (upd H' b o) := fun a u n h => by
  rw [upd_ne n]
  exact e a u n h
theorem ExB.new {b p : Addr} {H H' : Hp} {o : HO} (e : ExB b H H') (hp : H' p = none) : ExB b H (upd H' p o) := fun a u n h => by
  have q := e a u n h
  rw [upd_ne (ne_of_none q hp)]
  exact q
theorem ints_ne4 {ns : List Int} {i j k : Int} {c : Addr} (z : HO.lst (ns.map V.int) = .lst [.int i, .int j, .int k, .ref c]) : False := by
  have z2 : ns.map V.int = [.int i, .int j, .int k, .ref c] := by injection z
  match ns, z2 with
  | [], z2 => cases z2
  | [_], z2 => cases z2
  | [_, _], z2 => cases z2
  | [_, _, _], z2 => cases z2
  | _ :: _ :: _ :: _ :: _, z2 =>
    simp only [List.map_cons] at z2
    injection z2 with _ z2
    injection z2 with _ z2
    injection z2 with _ z2
    injection z2 with z2 _
    cases z2
theorem first_int (ns : List Int) (lo hi : Option Int) : ∃ z, atI (cutV (ns.map V.int) lo hi ++ [V.int 0]) 0 = some (V.int z) := by
  unfold cutV
  rw [← List.map_drop, ← List.map_take]
  generalize (List.take _ (List.drop _ ns)) = l
  cases l with
  | nil => exact ⟨0, rfl⟩
  | cons a r => exact ⟨a, atI_nat (j := 0) rfl⟩
theorem genB {H H3 H4 : Hp} {b : Addr} {o : HO} (hq : upd H3 b o = H4) (e : ExB b H H3) : ExB b H H4 ∧ H4 b = some o := by
  subst hq
  exact ⟨e.set, upd_same⟩
structure Txt0 (mg : Str → Option Value) : Prop where
  abs : mg "abs" = none
  int : mg "int" = none
  len : mg "len" = none
  tuple : mg "tuple" = none
  list : mg "list" = none
  all : mg "all" = none
  any : mg "any" = none
  zip : mg "zip" = none
  range : mg "range" = none
  repr : mg "repr" = none
  dict : mg "dict" = none
abbrev s_l_bag : Stmt := top 5
theorem sc_l_bag : FnScope ["_law_script", "_law_cell"] ["_law_script"] (defScope s_l_bag) := ⟨rfl, rfl, rfl, by decide +kernel, rfl, by decide +kernel, by decide +kernel⟩
abbrev s_l_take : Stmt := top 6
theorem sc_l_take : FnScope ["_law_bag_here", "_law_many", "_law_cell", "_law_mixed", "_law_value", "_law_begin", "_law_second"] ["_law_bag_here", "_law_many"] (defScope s_l_take) := ⟨rfl, rfl, rfl, by decide +kernel, rfl, by decide +kernel, by decide +kernel⟩
abbrev s_l_some : Stmt := top 8
theorem sc_l_some : FnScope ["_law_bag_here", "_law_things"] ["_law_bag_here", "_law_things"] (defScope s_l_some) := ⟨rfl, rfl, rfl, by decide +kernel, rfl, by decide +kernel, by decide +kernel⟩
section
variable {P : Program} {w : World} {K : PySem.W.Frag} {mg : Str → Option Value} {base : Heap}
/-- the bag as a list -/
def spTakeL : Sp := fun vs H Q _ => ∃ (b c : Addr) (m i j k : Int) (ns : List Int), vs = [.ref b, .int m] ∧ H b = some (.lst [.int i, .int j, .int k, .ref c]) ∧ H c = some (.lst (ns.map V.int)) ∧ ns.length ≤ 63 ∧ 0 < m ∧ m < 1000000000 ∧
  ∀ (H' : Hp) (r i' j' k' : Int), 0 ≤ r → r < m → ExB b H H' → H' b = some (.lst [.int i', .int j', .int k', .ref c]) → Q (.int r) H'
theorem ok_takeL (T : Txt0 mg) (D : Df K mg "_law_take" s_l_take) : CalG P w K mg base 1 "_law_take" spTakeL := by
  refine cal_mk D sc_l_take (fun _ _ _ _ _ _ us hl => match us, hl with | [_, _], _ => rfl) (fun vs H Q E h => ?_) (fun f cdv A outer s H vs Q E hr hG h => ?_)
  · obtain ⟨b, c, m, i, j, k, ns, rfl, _⟩ := h
    rfl
  · obtain ⟨b, c, m, i, j, k, ns, rfl, hb, hc, h63, hm, hm9, q⟩ := h
    have nbc : c ≠ b := ne_of hc hb (fun z => ints_ne4 z)
    refine ⟨_, (Evl.pss_cut (ps_if (pt_cmpR (opEq hr) (pe_ix ixAny (pv 0) pe_int (fun _ _ => rfl)) pe_int (nomark _)) (pss_cons (ps_set (i := 2) sc_l_take.nd rfl (Or.inl rfl) (pe_ix ixAny (pe_op opAdd (pe_slice slAny (pe_ix ixAny (pv 0) pe_int (fun _ _ => rfl)) (po_some (pe_ix ixAny (pv 0) pe_int (fun _ _ => rfl))) po_none) (pe_lst (pa_cons pe_int pa_nil))) pe_int (fun _ _ => rfl)))
      (pss_cons (ps_augS (pv 0) pe_int pgetL pe_int ip_add set_list)
      (Evl.pss_cut (ps_if (pt_cmpR opGe (pv 2) pe_int (nomark _)) (pss_one (ps_asg (pv 2) (pg_sub (pv 0) pe_int set_list))) pss_nil)
      (pss_cons (ps_set (i := 3) sc_l_take.nd rfl (Or.inl rfl) (pe_op opAdd (pe_op opAdd (pe_op opMul (pe_ix ixAny (pv 0) pe_int (fun _ _ => rfl)) pe_int) (pe_op op_mod (pe_callTy call_int1 (by rfl) T.int (by decide +kernel) (pa_cons (pv 2) pa_nil)) pe_int)) (pe_op opMul pe_int (pe_ix ixAny (pv 0) pe_int (fun _ _ => rfl)))))
      (pss_one (ps_asg (pe_op op_mod (pe_callTy call_int1 (by rfl) T.int (by decide +kernel) (pa_cons (pv 3) pa_nil)) pe_int) (pg_sub (pv 0) pe_int set_list))))))) pss_nil)
      (pss_cons (ps_if (pt_cmpR opGt (pe_ix ixAny (pv 0) pe_int (fun _ _ => rfl)) pe_int (nomark _)) (pss_cons (ps_set (i := 4) sc_l_take.nd rfl (Or.inl rfl) (pe_op op_mod (pe_callTy call_int1 (by rfl) T.int (by decide +kernel) (pa_cons (pe_ix ixAny (pv 0) pe_int (fun _ _ => rfl)) pa_nil)) (pv 1)))
      (pss_cons (ps_asg (pe_op op_fdivW (pe_ix ixAny (pv 0) pe_int (fun _ _ => rfl)) (pv 1)) (pg_sub (pv 0) pe_int set_list))
      (pss_one (ps_ret (pv 4))))) pss_nil)
      (pss_cons (ps_set (i := 5) sc_l_take.nd rfl (Or.inl rfl) (pe_op op_mod (pe_callTy call_int1 (by rfl) T.int (by decide +kernel) (pa_cons (pe_op opMul (pe_op opAdd (pe_ix ixAny (pv 0) pe_int (fun _ _ => rfl)) pe_int) pe_int) pa_nil)) pe_int))
      (pss_cons (ps_set (i := 6) sc_l_take.nd rfl (Or.inl rfl) (pe_op op_mod (pe_callTy call_int1 (by rfl) T.int (by decide +kernel) (pa_cons (pe_op opMul (pe_op op_mod (pe_callTy call_int1 (by rfl) T.int (by decide +kernel) (pa_cons (pe_op opMul (pv 5) (pv 5)) pa_nil)) pe_int) pe_int) pa_nil)) pe_int))
      (pss_one (ps_ret (pe_op op_mod (pe_callTy call_int1 (by rfl) T.int (by decide +kernel) (pa_cons (pe_op op_fdivW (pv 6) pe_int) pa_nil)) (pv 1)))))))), ?_⟩
    refine ⟨fun σ' H' => ∃ (i j k : Int) (x2 x3 : Option V), σ' = [some (.ref b), some (.int m), x2, x3, none, none, none] ∧ ExB b H H' ∧ H' b = some (.lst [.int i, .int j, .int k, .ref c]), ?_, ?_⟩
    · refine ⟨_, rfl, .inl ⟨b, _, 0, _, rfl, rfl, sq_of hb, rfl, .inl ⟨rfl, _, rfl, ?_⟩⟩⟩
      refine ite2 (fun _ => ?_) (fun _ => ⟨i, j, k, none, none, rfl, ExB.refl b H, hb⟩)
      -- cell = (bag[3][bag[2]:] + [0])[0]
      refine ⟨_, rfl, .inl ⟨b, _, 3, _, rfl, rfl, sq_of hb, rfl, ⟨_, rfl, .inl ⟨b, _, 2, _, rfl, rfl, sq_of hb, rfl, k, rfl, .inl ⟨c, _, rfl, sq_of hc, fun p hp => ?_⟩⟩⟩⟩⟩
      refine ⟨by show 1 ≤ sizeLine; decide, fun p2 hp2 => .inr (.inr (.inl ⟨p, p2, _, _, rfl, rfl, up_old hp2 upd_same, upd_same, ?_, fun p3 hp3 => ?_⟩))⟩
      · refine sz_of ?_
        have q1 := cutV_length (ns.map V.int) (some k) none
        rw [List.length_map] at q1
        show _ + 1 ≤ 100000
        omega
      obtain ⟨z, hz⟩ := first_int ns (some k) none
      refine .inl ⟨p3, _, 0, _, rfl, rfl, sq_of upd_same, hz, ?_⟩
      have e3 := (((ExB.refl b H).new (o := .lst (cutV (ns.map V.int) (some k) none)) hp).new (o := .lst [V.int 0]) hp2).new (o := .lst (cutV (ns.map V.int) (some k) none ++ [V.int 0])) hp3
      have hb3 := up_old (o := .lst (cutV (ns.map V.int) (some k) none ++ [V.int 0])) hp3 (up_old (o := .lst [V.int 0]) hp2 (up_old (o := .lst (cutV (ns.map V.int) (some k) none)) hp hb))
      generalize upd (upd (upd H p _) p2 _) p3 _ = H3 at e3 hb3 ⊢
      -- bag[2] += 1
      refine ⟨_, rfl, b, _, 2, _, rfl, rfl, sq_of hb3, rfl, k, 1, rfl, rfl, b, _, 2, 2, rfl, rfl, hb3, rfl, ?_⟩
      generalize hq4 : upd H3 b _ = H4
      obtain ⟨e4, hb4⟩ := genB hq4 e3
      -- if cell >= ..: bag[0] = cell
      refine ⟨fun σ' H' => ∃ (i : Int), σ' = [some (.ref b), some (.int m), some (.int z), none, none, none, none] ∧ ExB b H H' ∧ H' b = some (.lst [.int i, .int j, .int (k + 1), .ref c]), ?_, ?_⟩
      · refine ⟨_, rfl, z, _, rfl, rfl, _, rfl, ?_⟩
        refine ite2 (fun _ => ?_) (fun _ => ⟨i, rfl, e4, hb4⟩)
        exact ⟨_, rfl, _, rfl, b, _, 0, 0, rfl, rfl, hb4, rfl, z, rfl, e4.set, upd_same⟩
      · rintro σ5 H5 ⟨i5, rfl, e5, hb5⟩
        -- mixed
        refine ⟨_, rfl, .inl ⟨b, _, 1, _, rfl, rfl, sq_of hb5, rfl, .inl ⟨j, 48271, rfl, rfl, .inr (by decide), ?_⟩⟩⟩
        refine ⟨_, rfl, .inl ⟨z, rfl, ?_⟩⟩
        refine ⟨_, _, rfl, rfl, (show (0 : Int) < 2147483647 by decide), .inl ⟨_, _, rfl, rfl, ?_⟩⟩
        refine ⟨_, rfl, .inl ⟨b, _, 2, _, rfl, rfl, sq_of hb5, rfl, .inl ⟨7919, _, rfl, rfl, .inl (by decide), .inl ⟨_, _, rfl, rfl, ?_⟩⟩⟩⟩
        refine ⟨_, rfl, .inl ⟨_, rfl, ?_⟩⟩
        refine ⟨_, _, rfl, rfl, (show (0 : Int) < 2147483647 by decide), _, rfl, b, _, 1, 1, rfl, rfl, hb5, rfl, ?_⟩
        exact ⟨i5, _, k + 1, _, _, rfl, e5.set, upd_same⟩
    · rintro σ' H' ⟨i, j, k, x2, x3, rfl, e, hb⟩
      refine ⟨_, rfl, .inl ⟨b, _, 0, _, rfl, rfl, sq_of hb, rfl, i, 0, rfl, rfl, _, rfl, ?_⟩⟩
      refine ite2 (fun _ => ?_) (fun _ => ?_)
      · refine ⟨_, rfl, .inl ⟨b, _, 0, _, rfl, rfl, sq_of hb, rfl, .inl ⟨_, rfl, ?_⟩⟩⟩
        refine ⟨_, rfl, _, _, rfl, rfl, hm, ?_⟩
        refine ⟨_, rfl, .inl ⟨b, _, 0, _, rfl, rfl, sq_of hb, rfl, ?_⟩⟩
        refine ⟨_, rfl, _, _, rfl, rfl, wide_div hm (b := 30) (by omega) (by decide) (by decide), ?_⟩
        refine ⟨_, rfl, b, _, 0, 0, rfl, rfl, hb, rfl, ?_⟩
        exact ⟨_, rfl, q _ _ _ _ _ (Int.emod_nonneg _ (by omega)) (Int.emod_lt_of_pos _ hm) e.set upd_same⟩
      · refine ⟨_, rfl, .inl ⟨b, _, 1, _, rfl, rfl, sq_of hb, rfl, .inl ⟨j, 1, rfl, rfl, .inl ⟨_, 39373, rfl, rfl, .inr (by decide), .inl ⟨_, rfl, ?_⟩⟩⟩⟩⟩
        refine ⟨_, _, rfl, rfl, (show (0 : Int) < 1000000007 by decide), ?_⟩
        have h0 : 0 ≤ (j + 1) * 39373 % 1000000007 := Int.emod_nonneg _ (by decide)
        have h1 : (j + 1) * 39373 % 1000000007 < 1000000007 := Int.emod_lt_of_pos _ (by decide)
        refine ⟨_, rfl, _, rfl, .inl ⟨_, _, rfl, rfl, .inl ⟨Int.lt_of_lt_of_le (by decide) h0, Int.lt_trans h1 (by decide)⟩, .inl ⟨_, rfl, ?_⟩⟩⟩
        refine ⟨_, _, rfl, rfl, (show (0 : Int) < 998244353 by decide), .inl ⟨_, 30011, rfl, rfl, .inr (by decide), .inl ⟨_, rfl, ?_⟩⟩⟩
        refine ⟨_, _, rfl, rfl, (show (0 : Int) < 998244353 by decide), ?_⟩
        refine ⟨_, rfl, _, _, rfl, rfl, wide_div (b := 30) (by decide) (by decide) (by decide) (by decide), .inl ⟨_, rfl, ?_⟩⟩
        exact ⟨_, rfl, _, _, rfl, rfl, hm, q _ _ _ _ _ (Int.emod_nonneg _ (by omega)) (Int.emod_lt_of_pos _ hm) e hb⟩
end
/-- the bag, its numbers left open -/
def bagF (b c : Addr) (h : Heap) : Prop := ∃ (i j k : Int) (t u v : Tok) (n : Nat), h.get? b = some { cls := .type "list", data := .seq #[.int i t, .int j u, .int k v, .ref c] n }
def bagO (b c : Addr) : HO := .ext (bagF b c)
def BagAt (H : Hp) (b : Addr) : Prop := ∃ (c : Addr) (ns : List Int), H b = some (bagO b c) ∧ H c = some (.lst (ns.map V.int)) ∧ ns.length ≤ 63
theorem BagAt.ex {H H' : Hp} {b : Addr} (e : Ex H H') (h : BagAt H b) : BagAt H' b := by
  obtain ⟨c, ns, h1, h2, h3⟩ := h
  exact ⟨c, ns, e _ _ h1, e _ _ h2, h3⟩
theorem objOk_swap {P : Program} {w : World} {H H' : Hp} {h : Heap} (ht : ∀ a xs, H a = some (.tup xs) → H' a = some (.tup xs)) (ho : ∀ a x, H a = some (.own x) → H' a = some (.own x)) : ∀ (o : HO) (a : Addr), ObjOk P w H h a o → ObjOk P w H' h a o
  | .lst _, _, q => q
  | .tup _, _, q => q
  | .dK _, _, q => q
  | .dT kvs, a, q => by
    obtain ⟨q1, q2, xs, q3, q4⟩ := q
    exact ⟨q1, q2, xs, Paired.mapP q3 fun x y z => ⟨z.1, ht _ _ z.2.1, z.2.2⟩, q4⟩
  | .set _ _, _, q => q
  | .ins _ _ _, a, q => by
    obtain ⟨q1, q2⟩ := q
    exact ⟨ho _ _ q1, q2⟩
  | .own _, _, q => q
  | .xd _, _, q => q
  | .met _ _, _, q => q
  | .rng _ _, _, q => q
  | .frz o u, a, q => ⟨q.1, objOk_swap ht ho u a q.2⟩
  | .tbl _, _, q => q
  | .ext _, _, q => q
theorem hOk_set {P : Program} {w : World} {H : Hp} {h : Heap} {b : Addr} {o1 o2 : HO} (hk : HOk P w H h) (h1 : H b = some o1) (nt : ∀ xs, o1 ≠ .tup xs) (no : ∀ x, o1 ≠ .own x) (h2 : ObjOk P w (upd H b o2) h b o2) : HOk P w (upd H b o2) h := fun a o e => by
  by_cases ea : a = b
  · subst ea
    rw [upd_same] at e
    cases e
    exact h2
  · rw [upd_ne ea] at e
    refine objOk_swap (fun a' xs q => ?_) (fun a' x q => ?_) o a (hk a o e)
    · have n : a' ≠ b := fun z => by
        rw [z, h1] at q
        exact nt _ (Option.some.inj q)
      rw [upd_ne n]
      exact q
    · have n : a' ≠ b := fun z => by
        rw [z, h1] at q
        exact no _ (Option.some.inj q)
      rw [upd_ne n]
      exact q
def spTake : Sp := fun vs H Q _ => ∃ (b : Addr) (m : Int), vs = [.ref b, .int m] ∧ BagAt H b ∧ 0 < m ∧ m < 1000000000 ∧ ∀ (H' : Hp) (r : Int), 0 ≤ r → r < m → Ex H H' → Q (.int r) H'
section
variable {P : Program} {w : World} {K : PySem.W.Frag} {mg : Str → Option Value} {base : Heap}
theorem bag_shut {P : Program} {w : World} {H : Hp} {h : Heap} {b c : Addr} {i j k : Int} (q : ObjOk P w H h b (.lst [.int i, .int j, .int k, .ref c])) : bagF b c h := by
  obtain ⟨_, its, n, rv, ho⟩ := q
  cases rv with
  | cons r1 rv => cases rv with
    | cons r2 rv => cases rv with
      | cons r3 rv => cases rv with
        | cons r4 rv =>
          cases rv
          obtain ⟨t, rfl⟩ := r1
          obtain ⟨u, rfl⟩ := r2
          obtain ⟨v, rfl⟩ := r3
          cases r4
          exact ⟨i, j, k, t, u, v, n, ho⟩
theorem take_ext (C : CalG P w K mg base 1 "_law_take" spTakeL) : CalG P w K mg base 1 "_law_take" spTake := by
  obtain ⟨f, fd, ps, F, a, kp, bd⟩ := C.ex
  have hps : ps.length = 2 := (F.len [.ref 0, .int 1] (fun x => if x = 0 then some (.lst [.int 0, .int 0, .int 0, .ref 1]) else if x = 1 then some (.lst ([].map V.int)) else none) (fun _ _ => True) (fun _ _ _ => True) ⟨0, 1, 1, 0, 0, 0, [], rfl, rfl, rfl, by decide, by decide, by decide, fun _ _ _ _ _ _ _ _ _ => trivial⟩).symm
  refine ⟨f, fd, ps, ⟨fun vs H Q E h => ?_, fun A outer s H args us vs Q E hr hg e0 hb rv h => ?_⟩, a, kp, bd⟩
  · obtain ⟨b, m, rfl, _⟩ := h
    exact hps.symm
  · obtain ⟨b, m, rfl, ⟨c, ns, h1, h2, h3⟩, hm, hm9, q⟩ := h
    obtain ⟨⟨i, j, k, t, u, v, n, ho⟩, _, _⟩ := e0.hok b _ h1
    have nbc : c ≠ b := ne_of h2 h1 (by intro z; cases z)
    have hok : HOk P w (upd H b (.lst [.int i, .int j, .int k, .ref c])) s.heap := hOk_set e0.hok h1 (fun _ z => by cases z) (fun _ z => by cases z)
      ⟨by show 4 ≤ sizeLine; decide, [.int i t, .int j u, .int k v, .ref c], n, .cons ⟨t, rfl⟩ (.cons ⟨u, rfl⟩ (.cons ⟨v, rfl⟩ (.cons rfl .nil))), ho⟩
    have nb : ∀ x, H x = none → (upd H b (.lst [.int i, .int j, .int k, .ref c])) x = none := fun x e => by
      rw [upd_ne (fun z => by rw [z, h1] at e; cases e)]
      exact e
    have e1 : Env0 P w K mg base A outer s (upd H b (.lst [.int i, .int j, .int k, .ref c])) :=
      ⟨e0.frames, e0.mod, fun x o e => ⟨(e0.bs x o e).1, nb _ (e0.bs x o e).2⟩, e0.bsz, e0.funs, fun x hx => nb _ (e0.frf x hx), hok, e0.bare⟩
    have run := F.run A outer s _ args us [.ref b, .int m] (fun v H'' => (∃ i j k, H'' b = some (.lst [.int i, .int j, .int k, .ref c])) ∧ Q v (upd H'' b (bagO b c))) E hr hg e1 hb rv
      ⟨b, c, m, i, j, k, ns, rfl, upd_same, by rw [upd_ne nbc]; exact h2, h3, hm, hm9, fun H' r i' j' k' r0 r1 e2 hb' => ⟨⟨_, _, _, hb'⟩, q _ r r0 r1 fun x o hx => by
        by_cases ex : x = b
        · rw [ex] at hx ⊢
          rw [upd_same, ← h1]
          exact hx
        · rw [upd_ne ex]
          exact e2 x o ex (by rw [upd_ne ex]; exact hx)⟩⟩
    refine codeAny_mono run fun r s' hq => ?_
    cases r with
    | error e => exact hq
    | ok fl =>
      cases fl with
      | next => exact hq
      | brk => exact hq
      | cont => exact hq
      | ret u' =>
        obtain ⟨v', H'', q1, q2, q3, q4, q5, ⟨i2, j2, k2, q6⟩, q7⟩ := hq
        refine ⟨v', upd H'' b (bagO b c), q1, q2, ⟨?_, ?_, ?_, ?_, ?_, ?_, ?_⟩, ?_, q5, q7⟩
        · exact fun x o e n f g => q3.keep x o e (nb x n) f g
        · exact fun x o e n f g => q3.slot x o e (nb x n) f g
        · intro x o e n g
          have nx : x ≠ b := fun z => by
            rw [z, h1] at n
            cases n
          rw [upd_ne nx]
          exact q3.free x o e (nb x n) g
        · exact q3.there
        · intro x xs e
          have nx : x ≠ b := fun z => by
            rw [z, h1] at e
            cases e
          rw [upd_ne nx]
          exact q3.tups x xs (by rw [upd_ne nx]; exact e)
        · intro x o u e
          have nx : x ≠ b := fun z => by
            rw [z, h1] at e
            cases e
          rw [upd_ne nx]
          exact q3.frzs x o u (by rw [upd_ne nx]; exact e)
        · intro x ps e
          have nx : x ≠ b := fun z => by
            rw [z, h1] at e
            cases e
          rw [upd_ne nx]
          exact q3.tbls x ps (by rw [upd_ne nx]; exact e)
        · refine hOk_set q4 q6 (fun _ z => by cases z) (fun _ z => by cases z) ?_
          have q8 := bag_shut (q4 b _ q6)
          refine ⟨q8, ?_, fun ha hb ⟨i, j, k, t, u, v, n, x⟩ y => ⟨i, j, k, t, u, v, n, y _ x⟩⟩
          obtain ⟨_, _, _, _, _, _, _, x⟩ := q8
          exact ⟨_, x⟩
def spBagL (K : PySem.W.Frag) : Sp := fun vs H Q _ => ∃ (a : Addr) (ns : List Int), vs = [.ref a] ∧ SqL K H a (ns.map V.int) ∧ ns.length ≤ 63 ∧
  ∀ (H' : Hp) (b c : Addr) (ms : List Int), Ex H H' → H' b = some (.lst [.int 0, .int 1234567891, .int 0, .ref c]) → H' c = some (.lst (ms.map V.int)) → ms.length ≤ 63 → H b = none → Q (.ref b) H'
theorem all_ints : ∀ (ys : List V), (∀ (i : Nat) y, ys[i]? = some y → ∃ z : Int, y = .int z) → ∃ ms : List Int, ys = ms.map V.int
  | [], _ => ⟨[], rfl⟩
  | y :: ys, h => by
    obtain ⟨z, rfl⟩ := h 0 y rfl
    obtain ⟨ms, e⟩ := all_ints ys fun i y q => h (i + 1) y q
    exact ⟨z :: ms, by rw [e]; rfl⟩
theorem cut_at {xs : List V} {lo hi : Option Int} {i : Nat} {x : V} (h : (cutV xs lo hi)[i]? = some x) : ∃ j : Nat, xs[j]? = some x := by
  unfold cutV at h
  rw [List.getElem?_take] at h
  split at h
  · rw [List.getElem?_drop] at h
    exact ⟨_, h⟩
  · cases h
theorem map_at {ns : List Int} {i : Nat} {x : V} (h : (ns.map V.int)[i]? = some x) : ∃ z : Int, x = .int z := by
  rw [List.getElem?_map] at h
  cases e : ns[i]? with
  | none => rw [e] at h; cases h
  | some z => rw [e] at h; exact ⟨z, (Option.some.inj h).symm⟩
theorem ok_bagL (T : Txt0 mg) (D : Df K mg "_law_bag" s_l_bag) : CalG P w K mg base 1 "_law_bag" (spBagL K) := by
  refine cal_mk D sc_l_bag (fun _ _ _ _ _ _ us hl => match us, hl with | [_], _ => rfl) (fun vs H Q E h => ?_) (fun f cdv A outer s H vs Q E hr hG h => ?_)
  · obtain ⟨a, ns, rfl, _⟩ := h
    rfl
  · obtain ⟨a, ns, rfl, ha, h63, q⟩ := h
    refine ⟨_, (pss_one (ps_ret (pe_lst (pa_cons pe_int (pa_cons pe_int (pa_cons pe_int (pa_cons (pe_lcO (pe_lc (own := [("_law_cell", 1)]) rfl sc_l_bag.nd (piAny (pe_slice slAny (pv 0) po_none (po_some pe_int))) (blkOk_by (own := [("_law_cell", 1)]) (N := ["_law_script", "_law_cell"]) (sc := defScope s_l_bag) (by decide +kernel)) (fun _ _ _ _ _ => pg_name (i := 1) sc_l_bag.nd rfl (Or.inl rfl)) (fun _ _ _ _ _ => pts_nil) (fun _ _ _ _ _ => pe_callB call_abs (by rfl) T.abs (by decide +kernel) (pa_cons (pv 1) pa_nil)))) pa_nil))))))), ?_⟩
    refine .inl ⟨_, rfl, 63, rfl, .inl ⟨a, _, rfl, ha, fun p hp => ?_⟩⟩
    generalize hq1 : upd H p _ = H1
    obtain ⟨e1, h1⟩ := gen1 hq1 hp
    have hlen := cutV_length (ns.map V.int) none (some 63)
    rw [List.length_map] at hlen
    refine ⟨p, rfl, ⟨_, sq_of h1⟩, ?_⟩
    refine lcG (walk_list (xs := cutV (ns.map V.int) none (some 63))) (by omega) (sq_of h1) (fun _ _ e h => ex_l e h) yAt_ex (fun i ys _ => ∀ (j : Nat) y, ys[j]? = some y → ∃ z : Int, y = .int z) (fun _ _ _ _ _ h => h) (fun j y z => by simp at z) ?_ ?_
    · rintro i x H2 H3 ys hi e2 ⟨rfl, hx⟩ hp N N0 kN kN0
      obtain ⟨j, hj⟩ := cut_at hx
      obtain ⟨z, rfl⟩ := map_at hj
      refine ⟨rfl, ?_⟩
      refine ⟨_, rfl, z, rfl, ?_⟩
      refine kN _ _ (Ex.refl _) fun j y hy => ?_
      rw [List.getElem?_append] at hy
      split at hy
      · exact hp j y hy
      · rw [List.getElem?_singleton] at hy
        split at hy
        · exact ⟨_, (Option.some.inj hy).symm⟩
        · cases hy
    · intro D H2 ys hD e2 h2 hl hp
      obtain ⟨ms, rfl⟩ := all_ints ys hp
      refine ⟨by show 4 ≤ sizeLine; decide, fun b hb => ?_⟩
      generalize hq3 : upd H2 b _ = H3
      obtain ⟨e3, h3⟩ := gen1 hq3 hb
      rw [List.length_map] at hl
      exact q _ b D ms ((e1.trans e2).trans e3) h3 (e3 _ _ h2) (by omega) (fresh_back (e1.trans e2) hb)
/-- script: any list of ints -/
def spBag (K : PySem.W.Frag) : Sp := fun vs H Q _ => ∃ (a : Addr) (ns : List Int), vs = [.ref a] ∧ SqL K H a (ns.map V.int) ∧ ns.length ≤ 63 ∧ ∀ (H' : Hp) (b : Addr), Ex H H' → BagAt H' b → Q (.ref b) H'
theorem bag_ext (C : CalG P w K mg base 1 "_law_bag" (spBagL K)) : CalG P w K mg base 1 "_law_bag" (spBag K) := by
  obtain ⟨f, fd, ps, F, a, kp, bd⟩ := C.ex
  refine ⟨f, fd, ps, ⟨fun vs H Q E h => ?_, fun A outer s H args us vs Q E hr hg e0 hb rv h => ?_⟩, a, kp, bd⟩
  · obtain ⟨a, ns, rfl, ha, hl, _⟩ := h
    exact F.len [.ref a] H (fun _ _ => True) E ⟨a, ns, rfl, ha, hl, fun _ _ _ _ _ _ _ _ _ => trivial⟩
  · obtain ⟨a, ns, rfl, ha, hl, q⟩ := h
    have run := F.run A outer s _ args us [.ref a] (fun v H'' => ∃ (b c : Addr) (ms : List Int), v = .ref b ∧ Ex H H'' ∧ H'' b = some (.lst [.int 0, .int 1234567891, .int 0, .ref c]) ∧ H'' c = some (.lst (ms.map V.int)) ∧ ms.length ≤ 63 ∧ H b = none) E hr hg e0 hb rv
      ⟨a, ns, rfl, ha, hl, fun H' b c ms e h1 h2 h3 h4 => ⟨b, c, ms, rfl, e, h1, h2, h3, h4⟩⟩
    refine codeAny_mono run fun r s' hq => ?_
    cases r with
    | error e => exact hq
    | ok fl =>
      cases fl with
      | next => exact hq
      | brk => exact hq
      | cont => exact hq
      | ret u' =>
        obtain ⟨v', H'', q1, q2, q3, q4, q5, b, c, ms, rfl, e, h1, h2, h3, h4⟩ := hq
        have nbc : c ≠ b := ne_of h2 h1 (fun z => ints_ne4 z)
        have no : ∀ x o, H x = some o → x ≠ b := fun x o hx z => by
          rw [z, h4] at hx
          cases hx
        refine ⟨.ref b, upd H'' b (bagO b c), q1, q2, ⟨q3.keep, q3.slot, ?_, q3.there, ?_, ?_, ?_⟩, ?_, q5, q _ b (Ex.mut e h4) ⟨c, ms, upd_same, ?_, h3⟩⟩
        · intro x o ho n g
          have z := q3.free x o ho n g
          have nx : x ≠ b := fun y => by
            rw [y, h1] at z
            cases z
          rw [upd_ne nx]
          exact z
        · intro x xs hx
          rw [upd_ne (no _ _ hx)]
          exact q3.tups x xs hx
        · intro x o u hx
          rw [upd_ne (no _ _ hx)]
          exact q3.frzs x o u hx
        · intro x ps hx
          rw [upd_ne (no _ _ hx)]
          exact q3.tbls x ps hx
        · refine hOk_set q4 h1 (fun _ z => by cases z) (fun _ z => by cases z) ?_
          have q8 := bag_shut (q4 b _ h1)
          refine ⟨q8, ?_, fun ha hb ⟨i, j, k, t, u, v, n, x⟩ y => ⟨i, j, k, t, u, v, n, y _ x⟩⟩
          obtain ⟨_, _, _, _, _, _, _, x⟩ := q8
          exact ⟨_, x⟩
        · rw [upd_ne nbc]
          exact h2
def spSome (K : PySem.W.Frag) : Sp := fun vs H Q _ => ∃ (b a : Addr) (xs : List V), vs = [.ref b, .ref a] ∧ BagAt H b ∧ (SqL K H a xs ∨ SqT K H a xs) ∧ xs ≠ [] ∧ xs.length ≤ 100000 ∧
  ∀ (H' : Hp) (i : Nat) (x : V), Ex H H' → xs[i]? = some x → Q x H'
theorem ok_some (T : Txt0 mg) (D : Df K mg "_law_some" s_l_some) (c_l_take : CalG P w K mg base 1 "_law_take" spTake) : CalG P w K mg base 2 "_law_some" (spSome K) := by
  refine cal_mk D sc_l_some (fun _ _ _ _ _ _ us hl => match us, hl with | [_, _], _ => rfl) (fun vs H Q E h => ?_) (fun f cdv A outer s H vs Q E hr hG h => ?_)
  · obtain ⟨b, a, xs, rfl, _⟩ := h
    rfl
  · obtain ⟨b, a, xs, rfl, hb, ha, hne, hl, q⟩ := h
    have hpos : 0 < xs.length := List.length_pos_iff.mpr hne
    refine ⟨_, (pss_one (ps_ret (pe_ix ixAny (pv 1) (pe_cG c_l_take hr hG (by decide) rfl (pa_cons (pv 0) (pa_cons (pe_callB callLen (by rfl) T.len PySem.boot_len (pa_cons (pv 1) pa_nil)) pa_nil))) (fun _ _ => rfl)))), ?_⟩
    refine ⟨_, rfl, _, rfl, _, rfl, .inl ⟨a, xs, rfl, ha, ?_⟩⟩
    refine ⟨b, _, rfl, hb, by omega, by omega, fun H' r r0 r1 e => ?_⟩
    obtain ⟨j, rfl⟩ : ∃ j : Nat, r = (j : Int) := ⟨r.toNat, by omega⟩
    have hj : j < xs.length := by omega
    rcases ha with ha | ha
    · exact .inl ⟨a, xs, _, xs[j], rfl, rfl, ex_l e ha, atI_nat (List.getElem?_eq_getElem hj), q H' j _ e (List.getElem?_eq_getElem hj)⟩
    · exact .inr (.inl ⟨a, xs, _, xs[j], rfl, rfl, ex_t e ha, atI_nat (List.getElem?_eq_getElem hj), q H' j _ e (List.getElem?_eq_getElem hj)⟩)
end
abbrev s_l_names : Stmt := top 9
theorem sc_l_names : FnScope ["_law_bag_here", "_law_many", "_law_letters", "_law_found", "_law_words", "_law_k", "_law_signs", "_law_spin", "_law_at", "_law_rest", "_law_some_here", "_law_one"] ["_law_bag_here", "_law_many"] (defScope s_l_names) := ⟨rfl, rfl, rfl, by decide +kernel, rfl, by decide +kernel, by decide +kernel⟩
section
variable {P : Program} {w : World} {K : PySem.W.Frag} {mg : Str → Option Value} {base : Heap}
/-! ### names -/
def LET : Str := "abcdefghijklmnopqrstuvwxyz"
def WRD : Str := "at as last like all name book goal with turn part drop call copy chain close eq lt gt put"
def WL : List Str := ["at", "as", "last", "like", "all", "name", "book", "goal", "with", "turn", "part", "drop", "call", "copy", "chain", "close", "eq", "lt", "gt", "put"]
def lowc (c : Nat) : Bool := decide (97 ≤ c) && decide (c ≤ 122)
def isNm (z : Str) : Bool := decide (1 ≤ z.length) && decide (z.length ≤ 8) && (TL.tl z).all lowc
theorem wl_split : Txt.split WRD " " = WL := by decide +kernel
theorem wl_nm : WL.all isNm = true := by decide +kernel
theorem let_at : ∀ j : Fin 26, atI LET.cps.toList ((j.val : Nat) : Int) = some (97 + j.val) := by decide +kernel
theorem let_occ : ∀ j : Fin 26, Builtin.Str.occurrences LET (sgn (97 + j.val)) 0 LET.length 1 = [j.val] := by decide +kernel
theorem let_rot : ∀ j : Fin 26, (TL.tl (cutS LET (some (j.val : Int)) none ++ cutS LET none (some (j.val : Int)))).Nodup ∧ (TL.tl (cutS LET (some (j.val : Int)) none ++ cutS LET none (some (j.val : Int)))).all lowc = true ∧ (TL.tl (cutS LET (some (j.val : Int)) none ++ cutS LET none (some (j.val : Int)))).length = 26 := by decide +kernel
theorem let_cut : ∀ j : Fin 26, (cutS LET (some (j.val : Int)) none).length + (cutS LET none (some (j.val : Int))).length ≤ 26 := by decide +kernel
theorem four_at {r : Int} (h0 : 0 ≤ r) (h1 : r < 4) : ∃ n : Nat, 1 ≤ n ∧ n ≤ 8 ∧ atI [V.int 1, V.int 2, V.int 8, V.int 4] r = some (.int (n : Int)) := by
  have q : r = 0 ∨ r = 1 ∨ r = 2 ∨ r = 3 := by omega
  rcases q with rfl | rfl | rfl | rfl
  · exact ⟨1, by decide, by decide, rfl⟩
  · exact ⟨2, by decide, by decide, rfl⟩
  · exact ⟨8, by decide, by decide, rfl⟩
  · exact ⟨4, by decide, by decide, rfl⟩
/-- of more different names than stand in a list one is none of it -/
theorem more_left {α : Type} [DecidableEq α] : ∀ (xs ys : List α), xs.Nodup → ys.length < xs.length → ∃ x ∈ xs, x ∉ ys
  | [], ys, _, h => by simp at h
  | x :: xs, ys, hn, h => by
    by_cases hx : x ∈ ys
    · have hn2 := (List.nodup_cons.mp hn)
      obtain ⟨z, hz, hz2⟩ := more_left xs (ys.erase x) hn2.2 (by
        rw [List.length_erase_of_mem hx]
        rw [List.length_cons] at h
        have : 0 < ys.length := List.length_pos_of_mem hx
        omega)
      refine ⟨z, List.mem_cons_of_mem _ hz, fun q => hz2 ?_⟩
      have ne : z ≠ x := fun e => hn2.1 (e ▸ hz)
      exact (List.mem_erase_of_ne ne).mpr q
    · exact ⟨x, List.mem_cons_self, hx⟩
def spNames : Sp := fun vs H Q _ => ∃ (b : Addr) (m : Int), vs = [.ref b, .int m] ∧ BagAt H b ∧ 0 ≤ m ∧ m ≤ 25 ∧
  ∀ (H' : Hp) (p : Addr) (ns : List Str), Ex H H' → H p = none → H' p = some (.lst (ns.map V.str)) → (ns.length : Int) = m → ns.Nodup → (∀ z ∈ ns, isNm z = true) → Q (.ref p) H'
theorem ok_names (T : Txt0 mg) (D : Df K mg "_law_names" s_l_names) (c_l_take : CalG P w K mg base 1 "_law_take" spTake) : CalG P w K mg base 2 "_law_names" spNames := by
  refine cal_mk D sc_l_names (fun _ _ _ _ _ _ us hl => match us, hl with | [_, _], _ => rfl) (fun vs H Q E h => ?_) (fun f cdv A outer s H vs Q E hr hG h => ?_)
  · obtain ⟨b, m, rfl, _⟩ := h
    rfl
  · obtain ⟨b, m, rfl, hb, m0, m25, q⟩ := h
    refine ⟨_, (pss_cons (ps_asg (pe_tup (pa_cons pe_str (pa_cons (pe_lst pa_nil) pa_nil))) (pg_tup rfl (pgs_cons (pg_name (i := 2) sc_l_names.nd rfl (Or.inr rfl)) (pgs_cons (pg_name (i := 3) sc_l_names.nd rfl (Or.inr rfl)) pgs_nil))))
      (pss_cons (ps_set (i := 4) sc_l_names.nd rfl (Or.inl rfl) (pe_split pe_str pe_str))
      (pss_cons (ps_forO (ps_for PassesOwn.never rfl (pi_range1 rfl T.range (pa_cons (pv 1) pa_nil)) (pg_name (i := 5) sc_l_names.nd rfl (Or.inl rfl))
        (pss_cons (ps_setLcO (ps_setLc (i := 6) (own := [("_law_spin", 7)]) rfl sc_l_names.nd rfl rfl (sw_true rfl rfl rfl (by decide +kernel)) (pi_range1 rfl T.range (pa_cons (pe_ix ixAny (pe_lst (pa_cons pe_int (pa_cons pe_int (pa_cons pe_int (pa_cons pe_int pa_nil))))) (pe_cG c_l_take hr hG (by decide) rfl (pa_cons (pv 0) (pa_cons pe_int pa_nil))) (fun _ _ => rfl)) pa_nil)) (blkOk_by (own := [("_law_spin", 7)]) (N := ["_law_bag_here", "_law_many", "_law_letters", "_law_found", "_law_words", "_law_k", "_law_signs", "_law_spin", "_law_at", "_law_rest", "_law_some_here", "_law_one"]) (sc := defScope s_l_names) (by decide +kernel)) (fun _ _ _ _ _ => pg_name (i := 7) sc_l_names.nd rfl (Or.inl rfl)) (fun _ _ _ _ _ => pts_nil) (fun _ _ _ _ _ => pe_ix ixAnyB (pv 2) (pe_cG c_l_take hr hG (by decide) rfl (pa_cons (pv 0) (pa_cons pe_int pa_nil))) (fun _ _ => rfl))))
      (pss_cons (ps_asg (pe_tup (pa_cons (pe_bm PySem.F.plainAttrs_str PySem.F.slot_str_index PySem.F.type_str_index mt_sindex (pv 2) (pa_cons (pe_ix ixAny (pv 6) pe_int (fun _ _ => rfl)) pa_nil)) (pa_cons (pe_join pe_str (pe_slice slAny (pv 6) (po_some pe_int) po_none)) pa_nil))) (pg_tup rfl (pgs_cons (pg_name (i := 8) sc_l_names.nd rfl (Or.inl rfl)) (pgs_cons (pg_name (i := 9) sc_l_names.nd rfl (Or.inr rfl)) pgs_nil))))
      (pss_cons (ps_set (i := 10) sc_l_names.nd rfl (Or.inl rfl) (pe_op opAdd (pe_op opMul (pe_slice slAny (pv 4) (po_some (pv 8)) po_none) (pe_callTy call_int1 (by rfl) T.int (by decide +kernel) (pa_cons (pe_cmpR (opEq hr) (pe_cG c_l_take hr hG (by decide) rfl (pa_cons (pv 0) (pa_cons pe_int pa_nil))) pe_int (nomark _)) pa_nil))) (pe_lcO (pe_lc (own := [("_law_one", 11)]) rfl sc_l_names.nd (piAny (pe_op opAdd (pe_slice slAny (pv 2) (po_some (pv 8)) po_none) (pe_slice slAny (pv 2) po_none (po_some (pv 8))))) (blkOk_by (own := [("_law_one", 11)]) (N := ["_law_bag_here", "_law_many", "_law_letters", "_law_found", "_law_words", "_law_k", "_law_signs", "_law_spin", "_law_at", "_law_rest", "_law_some_here", "_law_one"]) (sc := defScope s_l_names) (by decide +kernel)) (fun _ _ _ _ _ => pg_name (i := 11) sc_l_names.nd rfl (Or.inl rfl)) (fun _ _ _ _ _ => pts_nil) (fun _ _ _ _ _ => pe_op opAddB (pv 11) (pv 9))))))
      (pss_one (ps_expr (pe_bm PySem.F.plainAttrs_list PySem.F.slot_list_append PySem.F.type_list_append mt_append (pv 3) (pa_cons (pe_ix ixAny (pe_lcO (pe_lc (own := [("_law_one", 11)]) rfl sc_l_names.nd (piAny (pv 10)) (blkOk_by (own := [("_law_one", 11)]) (N := ["_law_bag_here", "_law_many", "_law_letters", "_law_found", "_law_words", "_law_k", "_law_signs", "_law_spin", "_law_at", "_law_rest", "_law_some_here", "_law_one"]) (sc := defScope s_l_names) (by decide +kernel)) (fun _ _ _ _ _ => pg_name (i := 11) sc_l_names.nd rfl (Or.inl rfl)) (fun _ _ _ _ _ => pts_one (pt_cmpR opNotInB (pv 11) (pv 3) rfl)) (fun _ _ _ _ _ => pv 11))) pe_int (fun _ _ => rfl)) pa_nil)))))))))
      (pss_one (ps_ret (pv 3)))))), ?_⟩
    -- letters, found = '..', []
    refine ⟨Nat.zero_le _, fun fp hfp => ?_⟩
    generalize hq1 : upd H fp _ = H0
    obtain ⟨e0, h0⟩ := gen1 hq1 hfp
    refine ⟨by show 2 ≤ sizeLine; decide, fun tp htp => ?_⟩
    generalize hqt : upd H0 tp _ = H1
    obtain ⟨et, ht⟩ := gen1 hqt htp
    have e1 := e0.trans et
    have h1 := et _ _ h0
    refine ⟨tp, _, rfl, st_of ht, rfl, _, _, rfl, _, _, rfl, rfl, ?_⟩
    -- words
    refine ⟨⟨_, rfl⟩, _, _, rfl, rfl, (by decide), (by decide), fun wp hwp => ?_⟩
    generalize hq2 : upd H1 wp _ = H2
    obtain ⟨e2, h2⟩ := gen1 hq2 hwp
    have h2 : H2 wp = some (.lst (WL.map V.str)) := h2.trans (by rw [← wl_split]; rfl)
    refine ⟨_, rfl, m, rfl, by omega, by omega, ?_⟩
    refine frG (walk_range (lo := 0) (n := m.toNat)) (fun i σ H' => ∃ (ns : List Str) (x5 x6 x8 x9 x10 : Option V), σ = [some (.ref b), some (.int m), some (.str LET), some (.ref fp), some (.ref wp), x5, x6, none, x8, x9, x10, none] ∧ Ex H H' ∧
      H' fp = some (.lst (ns.map V.str)) ∧ H' wp = some (.lst (WL.map V.str)) ∧ ns.length = i ∧ ns.Nodup ∧ ∀ z ∈ ns, isNm z = true) ?_ (fun _ _ _ _ _ => trivial) ?_ ?_
    · exact ⟨[], none, none, none, none, none, rfl, e1.trans e2, e2 _ _ h1, h2, rfl, List.nodup_nil, fun z hz => by cases hz⟩
    · rintro i x σ H3 H4 hi ⟨ns, x5, x6, x8, x9, x10, rfl, e3, hf, hw, hl, hnd, hnm⟩ ⟨rfl, rfl⟩
      -- signs
      refine ⟨by show 4 ≤ sizeLine; decide, fun l4 hl4 => ?_⟩
      generalize hq5 : upd H4 l4 _ = H5
      obtain ⟨e5, h5⟩ := gen1 hq5 hl4
      refine ⟨_, rfl, b, 4, rfl, hb.ex (e3.trans e5), by decide, by decide, fun H6 r r0 r1 e6 => ?_⟩
      obtain ⟨n, n1, n8, hn⟩ := four_at r0 r1
      refine .inl ⟨l4, _, r, _, rfl, rfl, sq_of (e6 _ _ h5), hn, ?_⟩
      refine ⟨(n : Int), rfl, by omega, by omega, ?_⟩
      refine lcG (walk_range (lo := 0) (n := (n : Int).toNat)) (by omega) trivial (fun _ _ _ _ => trivial) yFn_ex (fun i ys _ => ∃ cl : List Nat, ys = (cl.map sgn).map V.str ∧ cl.length = i ∧ cl.all lowc = true) (fun _ _ _ _ _ h => h) ⟨[], rfl, rfl, rfl⟩ ?_ ?_
      · rintro j x H7 H8 ys hj e7 ⟨rfl, rfl⟩ ⟨cl, rfl, hcl, hlow⟩ N N0 kN kN0
        refine ⟨rfl, ?_⟩
        refine ⟨_, rfl, _, rfl, b, 26, rfl, hb.ex (((e3.trans e5).trans e6).trans e7), by decide, by decide, fun H9 r r0 r1 e9 => ?_⟩
        obtain ⟨j, rfl⟩ : ∃ j : Nat, r = (j : Int) := ⟨r.toNat, by omega⟩
        have ha := let_at ⟨j, by omega⟩
        refine .inr (.inr (.inl ⟨_, _, 97 + j, rfl, rfl, by decide, ha, ?_⟩))
        refine kN _ _ e9 ⟨cl ++ [97 + j], by simp [sgn], by simp [hcl], ?_⟩
        rw [List.all_append, hlow]
        simp [lowc]
        omega
      · rintro sp H7 ys hsp e7 h7 _ ⟨cl, rfl, hcl, hlow⟩
        -- at, rest
        have hcn : cl.length = n := by rw [hcl]; rfl
        obtain ⟨c0, cr, rfl⟩ : ∃ c0 cr, cl = c0 :: cr := by
          cases cl with
          | nil => rw [List.length_nil] at hcn; omega
          | cons c r => exact ⟨c, r, rfl⟩
        rw [List.all_cons, Bool.and_eq_true] at hlow
        obtain ⟨hc0, hcr⟩ := hlow
        obtain ⟨j0, rfl⟩ : ∃ j : Fin 26, c0 = 97 + j.val := by
          simp only [lowc, Bool.and_eq_true, decide_eq_true_eq] at hc0
          exact ⟨⟨c0 - 97, by omega⟩, by show c0 = 97 + (c0 - 97); omega⟩
        have hcrl : cr.length ≤ 7 := by rw [List.length_cons] at hcn; omega
        refine ⟨_, rfl, rfl, _, rfl, .inl ⟨sp, _, 0, .str (sgn (97 + j0.val)), rfl, rfl, sq_of h7, atI_nat (j := 0) rfl, ?_⟩⟩
        refine ⟨LET, sgn (97 + j0.val), j0.val, [], rfl, rfl, let_occ j0, ?_⟩
        refine ⟨⟨_, rfl⟩, _, rfl, 1, rfl, .inl ⟨sp, _, rfl, sq_of h7, fun l8 hl8 => ?_⟩⟩
        generalize hq8 : upd H7 l8 _ = H8
        obtain ⟨e8, h8⟩ := gen1 hq8 hl8
        have h8 : H8 l8 = some (.lst ((cr.map sgn).map V.str)) := by
          rw [h8]
          have z := cut_from (((((97 + j0.val) :: cr : List Nat)).map sgn).map V.str) 1
          rw [show (some (1 : Int)) = some ((1 : Nat) : Int) from rfl, z]
          rfl
        refine ⟨_, l8, cr.map sgn, rfl, rfl, .inl (sq_of h8), ?_, ?_⟩
        · have z := sum_sgn cr
          rw [z, List.length_map]
          show cr.length + cr.length * 0 ≤ 16777216
          omega
        generalize hR : Txt.join _ (cr.map sgn) = R
        have hR : R = SX.S cr := hR.symm.trans (join_sgn cr)
        refine ⟨by show 2 ≤ sizeLine; decide, fun t9 ht9 => ?_⟩
        generalize hq9 : upd H8 t9 _ = H9
        obtain ⟨e9, h9⟩ := gen1 hq9 ht9
        refine ⟨t9, _, rfl, st_of h9, rfl, _, _, rfl, _, _, rfl, rfl, ?_⟩
        have ee := (((e5.trans e6).trans e7).trans e8).trans e9
        -- some = words[at:] * int(take(8) == 0) + ..
        refine ⟨_, rfl, _, rfl, _, rfl, .inl ⟨wp, _, rfl, sq_of (ee _ _ hw), fun l10 hl10 => ?_⟩⟩
        generalize hq10 : upd H9 l10 _ = H10
        obtain ⟨e10, h10⟩ := gen1 hq10 hl10
        refine ⟨_, rfl, b, 8, rfl, hb.ex ((e3.trans ee).trans e10), by decide, by decide, fun H11 r r0 r1 e11 => ?_⟩
        refine .inl ⟨rfl, .inr ⟨_, rfl, ?_⟩⟩
        have hz10 : H10 l10 = some (.lst ((WL.drop j0.val).map V.str)) := by
          rw [h10, cut_from, List.map_drop]
        obtain ⟨kk, hkk⟩ : ∃ kk : Nat, (kk = 0 ∨ kk = 1) ∧ (if decide (V.int r = V.int 0) = true then (1 : Int) else 0) = (kk : Int) := by
          by_cases hz : decide (V.int r = V.int 0) = true
          · exact ⟨1, .inr rfl, by rw [if_pos hz]; rfl⟩
          · exact ⟨0, .inl rfl, by rw [if_neg hz]; rfl⟩
        refine .inr ⟨l10, (kk : Int), (WL.drop j0.val).map V.str, rfl, by rw [hkk.2], e11 _ _ hz10, by omega, by omega, ?_, fun l12 hl12 => ?_⟩
        · refine sz_of ?_
          rw [List.length_map, List.length_drop, Int.toNat_natCast]
          have z : WL.length = 20 := rfl
          rw [z]
          rcases hkk.1 with rfl | rfl <;> omega
        generalize hq12 : upd H11 l12 _ = H12
        obtain ⟨e12, h12⟩ := gen1 hq12 hl12
        obtain ⟨W0, hW0, hW1, hW2⟩ : ∃ W0 : List Str, H12 l12 = some (.lst (W0.map V.str)) ∧ W0.length ≤ 20 ∧ W0.all isNm = true := by
          rw [h12, Int.toNat_natCast]
          rcases hkk.1 with rfl | rfl
          · exact ⟨[], rfl, by decide, rfl⟩
          · refine ⟨WL.drop j0.val, by simp, ?_, ?_⟩
            · rw [List.length_drop]
              have z : WL.length = 20 := rfl
              omega
            · rw [List.all_eq_true]
              exact fun x hx => (List.all_eq_true.mp wl_nm) x (List.drop_subset _ _ hx)
        refine .inr (.inr ⟨_, rfl, _, rfl, _, rfl, .inr (.inr ⟨LET, rfl, by decide, ?_⟩)⟩)
        refine ⟨_, rfl, _, rfl, _, rfl, .inr (.inr ⟨LET, rfl, by decide, ?_⟩)⟩
        refine .inr (.inl ⟨_, _, rfl, rfl, sz_of (Nat.le_trans (let_cut j0) (by decide)), _, rfl, ?_⟩)
        obtain ⟨rnd, rlow, rlen⟩ := let_rot j0
        generalize hrot : (cutS LET (some (j0.val : Int)) none ++ cutS LET none (some (j0.val : Int))) = ROT at rnd rlow rlen
        have eW := (ee.trans e10).trans (e11.trans e12)
        have hrotl : ROT.cps.size = 26 := by rw [← rlen, Array.length_toList]
        refine lcG (walk_str (z := ROT)) (by rw [hrotl]; decide) trivial (fun _ _ _ _ => trivial) (fun _ _ _ _ h => ex_eq h.1) (fun i ys _ => ys = (((TL.tl ROT).take i).map fun c => sgn c ++ R).map V.str) (fun _ _ _ _ _ h => h) rfl ?_ ?_
        · rintro j x H13 H14 ys hj e13 ⟨rfl, c, hc, rfl⟩ rfl N N0 kN kN0
          refine ⟨rfl, ?_⟩
          refine ⟨_, rfl, _, rfl, .inr (.inl ⟨sgn c, R, rfl, rfl, ?_, ?_⟩)⟩
          · rw [hR]
            show 1 + cr.toArray.size ≤ sizeLine
            refine sz_of ?_
            rw [List.size_toArray]
            omega
          · refine kN _ _ (Ex.refl _) ?_
            have hc' : (TL.tl ROT)[j]? = some c := by rw [Array.getElem?_toList]; exact hc
            rw [List.take_add_one, hc', List.map_append, List.map_append]
            rfl
        · rintro l15 H15 ys hl15 e15 h15 _ rfl
          rw [hrotl, List.take_of_length_le (by rw [rlen]; decide)] at h15
          have c2l : ((TL.tl ROT).map fun c => sgn c ++ R).length = 26 := by rw [List.length_map]; exact rlen
          refine .inr (.inr (.inl ⟨l12, l15, W0.map V.str, ((TL.tl ROT).map fun c => sgn c ++ R).map V.str, rfl, rfl, e15 _ _ hW0, h15, ?_, fun l16 hl16 => ?_⟩))
          · rw [List.length_map, List.length_map]
            refine sz_of ?_
            omega
          generalize hq16 : upd H15 l16 _ = H16
          obtain ⟨e16, h16⟩ := gen1 hq16 hl16
          rw [← List.map_append] at h16
          have eA := (eW.trans e15).trans e16
          have hf16 := eA _ _ hf
          have hcl2 : (W0 ++ (TL.tl ROT).map fun c => sgn c ++ R).length ≤ 46 := by
            rw [List.length_append, c2l]
            omega
          have hcn2 : ∀ z ∈ (W0 ++ (TL.tl ROT).map fun c => sgn c ++ R), isNm z = true := by
            intro z hz
            rcases List.mem_append.mp hz with hz | hz
            · exact (List.all_eq_true.mp hW2) z hz
            · obtain ⟨c, hc, rfl⟩ := List.mem_map.mp hz
              have lc := (List.all_eq_true.mp rlow) c hc
              have e1 : TL.tl (sgn c ++ R) = c :: cr := by
                rw [TL.tl_append, hR]
                rfl
              unfold isNm
              rw [TL.len_tl, e1, List.all_cons, lc, hcr, List.length_cons]
              simp
              omega
          have hmore : ∃ z ∈ (W0 ++ (TL.tl ROT).map fun c => sgn c ++ R), z ∉ ns := by
            obtain ⟨z, hz, hz2⟩ := more_left ((TL.tl ROT).map fun c => sgn c ++ R) ns (by
              rw [List.Nodup, List.pairwise_map]
              refine List.Pairwise.imp (fun {a b} hab e => hab ?_) rnd
              have q := congrArg TL.tl e
              rw [TL.tl_append, TL.tl_append] at q
              exact (List.cons.inj q).1) (by rw [c2l]; omega)
            exact ⟨z, List.mem_append_right _ hz, hz2⟩
          generalize (W0 ++ (TL.tl ROT).map fun c => sgn c ++ R) = C at h16 hcl2 hcn2 hmore
          refine ⟨_, rfl, .inl ⟨rfl, _, sq_of hf16⟩, .inl ⟨_, rfl, l16, rfl, ⟨_, sq_of h16⟩, ?_⟩⟩
          refine lcG (walk_list (xs := C.map V.str)) (by rw [List.length_map]; omega) (sq_of h16) (fun _ _ e h => ex_l e h) yAt_ex (fun i ys _ => ys = ((C.take i).filter fun z => !decide (z ∈ ns)).map V.str) (fun _ _ _ _ _ h => h) rfl ?_ ?_
          · rintro j x H17 H18 ys hj e17 ⟨rfl, hx⟩ rfl N N0 kN kN0
            obtain ⟨z, hz, rfl⟩ := str_at hx
            refine ⟨rfl, ?_⟩
            refine ⟨_, rfl, _, rfl, .inl ⟨fp, _, rfl, .inl (sq_of (e17 _ _ hf16)), rfl, flat_strs ns, _, rfl, ?_⟩⟩
            have hin : (if true = true then !inV (V.str z) (ns.map V.str) else inV (V.str z) (ns.map V.str)) = !decide (z ∈ ns) := by
              rw [if_pos rfl, in_strs]
            rw [hin]
            by_cases hm : (!decide (z ∈ ns)) = true
            · rw [hm]
              refine iteT ⟨_, rfl, kN _ _ (Ex.refl _) ?_⟩
              rw [List.take_add_one, hz, List.filter_append, Option.toList, List.filter_cons, if_pos hm, List.map_append]
              rfl
            · rw [show (!decide (z ∈ ns)) = false by simpa using hm]
              refine iteF (kN0 _ (Ex.refl _) ?_)
              rw [List.take_add_one, hz, List.filter_append, Option.toList, List.filter_cons, if_neg hm, List.map_append]
              simp
          · rintro l17 H17 ys hl17 e17 h17 _ rfl
            rw [List.take_of_length_le (by rw [List.length_map]; exact Nat.le_refl _)] at h17
            obtain ⟨z0, zr, hz0⟩ : ∃ z0 zr, (C.filter fun z => !decide (z ∈ ns)) = z0 :: zr := by
              cases hc : (C.filter fun z => !decide (z ∈ ns)) with
              | nil =>
                obtain ⟨z, hz, hz2⟩ := hmore
                have q : z ∈ C.filter fun z => !decide (z ∈ ns) := List.mem_filter.mpr ⟨hz, by simpa using hz2⟩
                rw [hc] at q
                cases q
              | cons z0 zr => exact ⟨z0, zr, rfl⟩
            rw [hz0] at h17
            have hm0 : z0 ∈ C.filter fun z => !decide (z ∈ ns) := by rw [hz0]; exact List.mem_cons_self
            obtain ⟨hz1, hz2⟩ := List.mem_filter.mp hm0
            have hz2 : z0 ∉ ns := by simpa using hz2
            refine .inl ⟨l17, _, 0, .str z0, rfl, rfl, sq_of h17, atI_nat (j := 0) rfl, ?_⟩
            have hf17 := e17 _ _ hf16
            refine ⟨fp, _, .str z0, rfl, rfl, hf17, ?_, ?_⟩
            · rw [List.length_map]
              refine sz_lt ?_
              omega
            · have fe := (e3.trans eA).trans e17
              have nfw : wp ≠ fp := fun z => by
                have q := fe wp
                rw [z] at hwp
                rw [h1] at hwp
                cases hwp
              refine ⟨ns ++ [z0], _, _, _, _, _, rfl, Ex.mut fe hfp, ?_, ?_, ?_, ?_, ?_⟩
              · rw [upd_same, List.map_append]
                rfl
              · rw [upd_ne nfw]
                exact e17 _ _ (eA _ _ hw)
              · rw [List.length_append, hl]
                rfl
              · rw [List.nodup_append]
                refine ⟨hnd, by simp, fun a ha b hb e => hz2 ?_⟩
                rw [List.mem_singleton] at hb
                rw [← hb, ← e]
                exact ha
              · intro z hz
                rcases List.mem_append.mp hz with hz | hz
                · exact hnm z hz
                · rw [List.mem_singleton] at hz
                  rw [hz]
                  exact hcn2 z0 hz1
    · rintro σ H3 ⟨ns, x5, x6, x8, x9, x10, rfl, e3, hf, hw, hl, hnd, hnm⟩
      exact ⟨_, rfl, q _ fp ns e3 hfp hf (by omega) hnd hnm⟩
end
/-! ### atoms and facts as data -/
abbrev A3 := Str × Str × Str
def sl3 (a : A3) : List Str := [a.1, a.2.1, a.2.2]
def AtomAt (H : Hp) (v : V) (a : A3) : Prop := ∃ p, v = .ref p ∧ H p = some (.tup ((sl3 a).map V.str))
theorem AtomAt.tex {H H' : Hp} {v : V} {a : A3} (e : TEx H H') (h : AtomAt H v a) : AtomAt H' v a := by
  obtain ⟨p, h1, h2⟩ := h
  exact ⟨p, h1, e _ _ h2⟩
theorem AtomAt.ex {H H' : Hp} {v : V} {a : A3} (e : Ex H H') (h : AtomAt H v a) : AtomAt H' v a := h.tex (TEx.of e)
def AllAt (H : Hp) : List V → List A3 → Prop
  | [], [] => True
  | v :: vs, a :: as => AtomAt H v a ∧ AllAt H vs as
  | _, _ => False
theorem AllAt.tex {H H' : Hp} (e : TEx H H') : ∀ {vs : List V} {as : List A3}, AllAt H vs as → AllAt H' vs as
  | [], [], _ => trivial
  | _ :: _, _ :: _, h => ⟨h.1.tex e, AllAt.tex e h.2⟩
  | [], _ :: _, h => h.elim
  | _ :: _, [], h => h.elim
theorem AllAt.len {H : Hp} : ∀ {vs : List V} {as : List A3}, AllAt H vs as → vs.length = as.length
  | [], [], _ => rfl
  | _ :: vs, _ :: as, h => by rw [List.length_cons, List.length_cons, AllAt.len h.2]
  | [], _ :: _, h => h.elim
  | _ :: _, [], h => h.elim
theorem AllAt.at {H : Hp} : ∀ {vs : List V} {as : List A3} {i : Nat} {v : V}, AllAt H vs as → vs[i]? = some v → ∃ a, as[i]? = some a ∧ AtomAt H v a
  | _ :: _, a :: _, 0, _, h, e => ⟨a, rfl, by cases e; exact h.1⟩
  | _ :: vs, _ :: as, i + 1, v, h, e => AllAt.at (vs := vs) (as := as) (i := i) h.2 e
  | [], [], _, _, _, e => by simp at e
  | [], _ :: _, _, _, h, _ => h.elim
  | _ :: _, [], _, _, h, _ => h.elim
theorem AllAt.snoc {H : Hp} {v : V} {a : A3} (hv : AtomAt H v a) : ∀ {vs : List V} {as : List A3}, AllAt H vs as → AllAt H (vs ++ [v]) (as ++ [a])
  | [], [], _ => ⟨hv, trivial⟩
  | _ :: vs, _ :: as, h => ⟨h.1, AllAt.snoc hv h.2⟩
  | [], _ :: _, h => h.elim
  | _ :: _, [], h => h.elim
def FactAt (H : Hp) (v : V) (as : List A3) : Prop := ∃ p xs, v = .ref p ∧ H p = some (.tup xs) ∧ AllAt H xs as
theorem FactAt.ex {H H' : Hp} {v : V} {as : List A3} (e : Ex H H') (h : FactAt H v as) : FactAt H' v as := by
  obtain ⟨p, xs, h1, h2, h3⟩ := h
  exact ⟨p, xs, h1, e _ _ h2, h3.tex (TEx.of e)⟩
def atD (a : A3) : PyData := .tuple ((sl3 a).map PyData.str)
theorem dp_strs {K : PySem.W.Frag} {H : Hp} : ∀ ns : List Str, DpAll K H (ns.map V.str) (ns.map PyData.str)
  | [] => .nil
  | n :: ns => .cons (.str n) (dp_strs ns)
theorem AtomAt.dp {K : PySem.W.Frag} {H : Hp} {v : V} {a : A3} (h : AtomAt H v a) : Dp K H v (atD a) := by
  obtain ⟨p, rfl, h2⟩ := h
  exact .tup (st_of h2) (dp_strs _)
theorem AllAt.dp {K : PySem.W.Frag} {H : Hp} : ∀ {vs : List V} {as : List A3}, AllAt H vs as → DpAll K H vs (as.map atD)
  | [], [], _ => .nil
  | _ :: vs, _ :: as, h => .cons h.1.dp (AllAt.dp h.2)
  | [], _ :: _, h => h.elim
  | _ :: _, [], h => h.elim
def faD (as : List A3) : PyData := .tuple (as.map atD)
theorem FactAt.dp {K : PySem.W.Frag} {H : Hp} {v : V} {as : List A3} (h : FactAt H v as) : Dp K H v (faD as) := by
  obtain ⟨p, xs, rfl, h2, h3⟩ := h
  exact .tup (st_of h2) h3.dp
/-! ### the mathematics -/
def isR (r : Str) : Bool := r == "eq" || r == "lt" || r == "gt" || r == ""
def trR (r : Str) : Str := if r = "lt" then "gt" else if r = "gt" then "lt" else r
def trA (a : A3) : A3 := (trR a.1, a.2.2, a.2.1)
def okp (p a : Str) : Bool := (("" : Str) == p) || (a == p)
def fitL (p a : A3) : List Bool := List.zipWith okp (sl3 p) (sl3 a)
def fitB (p a : A3) : Bool := (fitL p a).all id
theorem isR_cases {r : Str} (h : isR r = true) : r = "eq" ∨ r = "lt" ∨ r = "gt" ∨ r = "" := by
  simp only [isR, Bool.or_eq_true, beq_iff_eq] at h
  rcases h with ((h | h) | h) | h
  · exact .inl h
  · exact .inr (.inl h)
  · exact .inr (.inr (.inl h))
  · exact .inr (.inr (.inr h))
theorem trR_trR {r : Str} (h : isR r = true) : trR (trR r) = r := by
  rcases isR_cases h with rfl | rfl | rfl | rfl <;> decide +kernel
theorem trR_isR {r : Str} (h : isR r = true) : isR (trR r) = true := by
  rcases isR_cases h with rfl | rfl | rfl | rfl <;> decide +kernel
theorem trA_trA {a : A3} (h : isR a.1 = true) : trA (trA a) = a := by
  obtain ⟨r, l, t⟩ := a
  show (trR (trR r), l, t) = (r, l, t)
  rw [trR_trR h]
theorem okp_trR {p a : Str} (hp : isR p = true) (ha : isR a = true) : okp (trR p) a = okp p (trR a) := by
  rcases isR_cases hp with rfl | rfl | rfl | rfl <;> rcases isR_cases ha with rfl | rfl | rfl | rfl <;> decide +kernel
theorem fitB_eq (p a : A3) : fitB p a = (okp p.1 a.1 && (okp p.2.1 a.2.1 && okp p.2.2 a.2.2)) := by
  show (okp p.1 a.1 && (okp p.2.1 a.2.1 && (okp p.2.2 a.2.2 && true))) = _
  rw [Bool.and_true]
theorem fitB_tr {p a : A3} (hp : isR p.1 = true) (ha : isR a.1 = true) : fitB (trA p) a = fitB p (trA a) := by
  rw [fitB_eq, fitB_eq]
  show (okp (trR p.1) a.1 && (okp p.2.2 a.2.1 && okp p.2.1 a.2.2)) = (okp p.1 (trR a.1) && (okp p.2.1 a.2.2 && okp p.2.2 a.2.1))
  rw [okp_trR hp ha, Bool.and_comm (okp p.2.2 a.2.1)]
theorem okp_self (a : Str) : okp a a = true := by simp [okp]
theorem fitB_self (a : A3) : fitB a a = true := by
  rw [fitB_eq, okp_self, okp_self, okp_self]
  rfl
abbrev s_fits : Stmt := top 1
theorem sc_fits : FnScope ["pattern", "atom", "relation", "left", "right"] ["pattern", "atom"] (defScope s_fits) := ⟨rfl, rfl, rfl, by decide +kernel, rfl, by decide +kernel, by decide +kernel⟩
section
variable {P : Program} {w : World} {K : PySem.W.Frag} {mg : Str → Option Value} {base : Heap}
def spFits : Sp := fun vs H Q _ => ∃ (v u : V) (p a : A3), vs = [v, u] ∧ AtomAt H v p ∧ AtomAt H u a ∧ ∀ (H' : Hp), Ex H H' → Q (.bl (fitB p a)) H'
theorem okp_in (z y : Str) : ((("" : Str) == z) || ((y == z) || false)) = okp z y := by
  rw [Bool.or_false]
  rfl
theorem ok_fits (T : Txt0 mg) (D : Df K mg "fits" s_fits) : CalG P w K mg base 1 "fits" spFits := by
  refine cal_mk D sc_fits (fun _ _ _ _ _ _ us hl => match us, hl with | [_, _], _ => rfl) (fun vs H Q E h => ?_) (fun f cdv A outer s H vs Q E hr hG h => ?_)
  · obtain ⟨v, u, p, a, rfl, _⟩ := h
    rfl
  · obtain ⟨_, _, ⟨r, l, t⟩, ⟨ar, al, aq⟩, rfl, ⟨pp, rfl, hp⟩, ⟨pa, rfl, ha⟩, q⟩ := h
    have hb : fitB (r, l, t) (ar, al, aq) = (okp r ar && (okp l al && okp t aq)) := fitB_eq _ _
    refine ⟨_, (pss_cons (ps_asg (pv 0) (pg_tup rfl (pgs_cons (pg_name (i := 2) sc_fits.nd rfl (Or.inl rfl)) (pgs_cons (pg_name (i := 3) sc_fits.nd rfl (Or.inl rfl)) (pgs_cons (pg_name (i := 4) sc_fits.nd rfl (Or.inl rfl)) pgs_nil)))))
      (pss_one (ps_ret (pe_and (pe_cmpR opIn (pv 2) (pe_tup (pa_cons pe_str (pa_cons (pe_ix ixAny (pv 1) pe_int (fun _ _ => rfl)) pa_nil))) rfl) (pe_and (pe_cmpR opIn (pv 3) (pe_tup (pa_cons pe_str (pa_cons (pe_ix ixAny (pv 1) pe_int (fun _ _ => rfl)) pa_nil))) rfl) (pe_one (pe_cmpR opIn (pv 4) (pe_tup (pa_cons pe_str (pa_cons (pe_ix ixAny (pv 1) pe_int (fun _ _ => rfl)) pa_nil))) rfl))))))), ?_⟩
    refine ⟨_, rfl, pp, _, rfl, st_of hp, rfl, _, _, rfl, _, _, rfl, _, _, rfl, rfl, ?_⟩
    refine ⟨_, rfl, _, rfl, .inr (.inl ⟨pa, _, 0, .str ar, rfl, rfl, st_of ha, atI_nat (j := 0) rfl, ?_⟩)⟩
    refine ⟨by show 2 ≤ sizeLine; decide, fun x1 hx1 => .inl ⟨x1, _, rfl, .inr (st_of upd_same), rfl, rfl, ?_⟩⟩
    generalize hq1 : upd H x1 _ = H1
    obtain ⟨e1, _⟩ := gen1 hq1 hx1
    refine ⟨okp r ar, congrArg V.bl (okp_in r ar), ?_⟩
    cases h1 : okp r ar with
    | false =>
      have z := q H1 e1
      rw [hb, h1, Bool.false_and] at z
      exact iteF z
    | true =>
    refine iteT ?_
    refine ⟨_, rfl, _, rfl, .inr (.inl ⟨pa, _, 1, .str al, rfl, rfl, st_of (e1 _ _ ha), atI_nat (j := 1) rfl, ?_⟩)⟩
    refine ⟨by show 2 ≤ sizeLine; decide, fun x2 hx2 => .inl ⟨x2, _, rfl, .inr (st_of upd_same), rfl, rfl, ?_⟩⟩
    generalize hq2 : upd H1 x2 _ = H2
    obtain ⟨e2, _⟩ := gen1 hq2 hx2
    refine ⟨okp l al, congrArg V.bl (okp_in l al), ?_⟩
    cases h2 : okp l al with
    | false =>
      have z := q H2 (e1.trans e2)
      rw [hb, h1, h2, Bool.false_and, Bool.true_and] at z
      exact iteF z
    | true =>
    refine iteT ?_
    refine ⟨_, rfl, _, rfl, .inr (.inl ⟨pa, _, 2, .str aq, rfl, rfl, st_of (e2 _ _ (e1 _ _ ha)), atI_nat (j := 2) rfl, ?_⟩)⟩
    refine ⟨by show 2 ≤ sizeLine; decide, fun x3 hx3 => .inl ⟨x3, _, rfl, .inr (st_of upd_same), rfl, rfl, ?_⟩⟩
    generalize hq3 : upd H2 x3 _ = H3
    obtain ⟨e3, _⟩ := gen1 hq3 hx3
    have z := q H3 ((e1.trans e2).trans e3)
    rw [hb, h1, h2, Bool.true_and, Bool.true_and] at z
    rw [← okp_in] at z
    exact z
end
def lay (z : Str) : Bool := (PyData.str z).canLay0
def sOk (a : A3) : Bool := lay a.1 && (lay a.2.1 && lay a.2.2)
theorem shp_at {a : A3} (h : sOk a = true) : SeqAt.shaped (atD a) = true := by
  show ((lay a.1 && (lay a.2.1 && (lay a.2.2 && true))) && true) = true
  rw [Bool.and_true, Bool.and_true]
  exact h
theorem nm_ok {z : Str} (h : isNm z = true) : lay z = true := by
  unfold isNm at h
  rw [Bool.and_eq_true] at h
  show z.cps.all (· < 0x110000) = true
  rw [← Array.all_toList, List.all_eq_true]
  intro c hc
  have q := (List.all_eq_true.mp h.2) c hc
  simp only [lowc, Bool.and_eq_true, decide_eq_true_eq] at q
  exact decide_eq_true (by omega)
theorem rel_ok {r : Str} (h : isR r = true) : lay r = true := by
  rcases isR_cases h with rfl | rfl | rfl | rfl <;> decide +kernel
theorem eqv_at (a b : A3) : PyData.eqv (atD a) (atD b) = decide (a = b) := by
  obtain ⟨a1, a2, a3⟩ := a
  obtain ⟨b1, b2, b3⟩ := b
  show (a1 == b1 && (a2 == b2 && (a3 == b3 && true))) = decide ((a1, a2, a3) = (b1, b2, b3))
  rw [Bool.and_true]
  by_cases h1 : a1 = b1 <;> by_cases h2 : a2 = b2 <;> by_cases h3 : a3 = b3 <;> simp [h1, h2, h3]
theorem eqv_ats : ∀ as bs : List A3, PyData.eqvAll (as.map atD) (bs.map atD) = decide (as = bs)
  | [], [] => rfl
  | [], _ :: _ => rfl
  | _ :: _, [] => rfl
  | a :: as, b :: bs => by
    show (PyData.eqv (atD a) (atD b) && PyData.eqvAll (as.map atD) (bs.map atD)) = decide (a :: as = b :: bs)
    rw [eqv_at, eqv_ats as bs]
    by_cases h1 : a = b <;> by_cases h2 : as = bs <;> simp [h1, h2]
theorem shp_fa {as : List A3} (h : as.length ≤ 2) (hs : ∀ a ∈ as, sOk a = true) : SeqAt.shaped (faD as) = true := by
  have hk : ∀ a ∈ as, (atD a).canLay0 = true := fun a ha => (Bool.and_eq_true_iff.mp (shp_at (hs a ha))).1
  match as, h, hk with
  | [], _, _ => rfl
  | [a], _, hk =>
    show (((atD a).canLay0 && true) && true) = true
    rw [hk a (by simp)]
    rfl
  | [a, b], _, hk =>
    show (((atD a).canLay0 && ((atD b).canLay0 && true)) && true) = true
    rw [hk a (by simp), hk b (by simp)]
    rfl
  | _ :: _ :: _ :: _, h, _ => simp at h
theorem eqv_fa (as bs : List A3) : PyData.eqv (faD as) (faD bs) = decide (as = bs) := eqv_ats as bs
def isR3 (r : Str) : Bool := r == "eq" || r == "lt" || r == "gt"
theorem isR_of {r : Str} (h : isR3 r = true) : isR r = true := by
  unfold isR
  unfold isR3 at h
  rw [h]
  rfl
theorem rel_at {r : Int} (h0 : 0 ≤ r) (h1 : r < 4) : ∃ z : Str, isR3 z = true ∧ atI [V.str "eq", V.str "lt", V.str "gt", V.str "lt"] r = some (.str z) := by
  have q : r = 0 ∨ r = 1 ∨ r = 2 ∨ r = 3 := by omega
  rcases q with rfl | rfl | rfl | rfl
  · exact ⟨"eq", by decide +kernel, rfl⟩
  · exact ⟨"lt", by decide +kernel, rfl⟩
  · exact ⟨"gt", by decide +kernel, rfl⟩
  · exact ⟨"lt", by decide +kernel, rfl⟩
abbrev s_l_atom : Stmt := top 10
theorem sc_l_atom : FnScope ["_law_bag_here", "_law_things"] ["_law_bag_here", "_law_things"] (defScope s_l_atom) := ⟨rfl, rfl, rfl, by decide +kernel, rfl, by decide +kernel, by decide +kernel⟩
section
variable {P : Program} {w : World} {K : PySem.W.Frag} {mg : Str → Option Value} {base : Heap}
def spAtom : Sp := fun vs H Q _ => ∃ (b p : Addr) (ns : List Str), vs = [.ref b, .ref p] ∧ BagAt H b ∧ H p = some (.lst (ns.map V.str)) ∧ ns ≠ [] ∧ ns.length ≤ 30 ∧
  ∀ (H' : Hp) (v : V) (a : A3), Ex H H' → AtomAt H' v a → isR3 a.1 = true → a.2.1 ∈ ns → a.2.2 ∈ ns → Q v H'
theorem ok_atom (T : Txt0 mg) (D : Df K mg "_law_atom" s_l_atom) (c_l_take : CalG P w K mg base 1 "_law_take" spTake) (c_l_some : CalG P w K mg base 2 "_law_some" (spSome K)) : CalG P w K mg base 3 "_law_atom" spAtom := by
  refine cal_mk D sc_l_atom (fun _ _ _ _ _ _ us hl => match us, hl with | [_, _], _ => rfl) (fun vs H Q E h => ?_) (fun f cdv A outer s H vs Q E hr hG h => ?_)
  · obtain ⟨b, p, ns, rfl, _⟩ := h
    rfl
  · obtain ⟨b, p, ns, rfl, hb, hp, hne, hl, q⟩ := h
    refine ⟨_, (pss_one (ps_ret (pe_tup (pa_cons (pe_ix ixAny (pe_lst (pa_cons pe_str (pa_cons pe_str (pa_cons pe_str (pa_cons pe_str pa_nil))))) (pe_cG c_l_take hr hG (by decide) rfl (pa_cons (pv 0) (pa_cons pe_int pa_nil))) (fun _ _ => rfl)) (pa_cons (pe_cG c_l_some hr hG (by decide) rfl (pa_cons (pv 0) (pa_cons (pv 1) pa_nil))) (pa_cons (pe_cG c_l_some hr hG (by decide) rfl (pa_cons (pv 0) (pa_cons (pv 1) pa_nil))) pa_nil)))))), ?_⟩
    refine ⟨by show 4 ≤ sizeLine; decide, fun l hl1 => ?_⟩
    generalize hq1 : upd H l _ = H1
    obtain ⟨e1, h1⟩ := gen1 hq1 hl1
    refine ⟨_, rfl, b, 4, rfl, hb.ex e1, by decide, by decide, fun H2 r r0 r1 e2 => ?_⟩
    obtain ⟨z, hz, hat⟩ := rel_at r0 r1
    refine .inl ⟨l, _, r, _, rfl, rfl, sq_of (e2 _ _ h1), hat, ?_⟩
    have e12 := e1.trans e2
    have hne' : ns.map V.str ≠ [] := fun e => hne (List.map_eq_nil_iff.mp e)
    refine ⟨_, rfl, _, rfl, b, p, _, rfl, hb.ex e12, .inl (sq_of (e12 _ _ hp)), hne', by rw [List.length_map]; omega, fun H3 i x e3 hx => ?_⟩
    obtain ⟨x1, hx1, rfl⟩ := str_at hx
    refine ⟨_, rfl, _, rfl, b, p, _, rfl, hb.ex (e12.trans e3), .inl (sq_of (e3 _ _ (e12 _ _ hp))), hne', by rw [List.length_map]; omega, fun H4 j y e4 hy => ?_⟩
    obtain ⟨y1, hy1, rfl⟩ := str_at hy
    refine ⟨by show 3 ≤ sizeLine; decide, fun t ht => ?_⟩
    exact q _ _ (z, x1, y1) (((e12.trans e3).trans e4).trans (Ex.new ht)) ⟨t, rfl, upd_same⟩ hz (List.mem_of_getElem? hx1) (List.mem_of_getElem? hy1)
end
abbrev s_l_pattern : Stmt := top 11
theorem sc_l_pattern : FnScope ["_law_bag_here", "_law_things", "_law_atom_here", "_law_manner", "_law_k"] ["_law_bag_here", "_law_things"] (defScope s_l_pattern) := ⟨rfl, rfl, rfl, by decide +kernel, rfl, by decide +kernel, by decide +kernel⟩
section
variable {P : Program} {w : World} {K : PySem.W.Frag} {mg : Str → Option Value} {base : Heap}
def spPattern : Sp := fun vs H Q _ => ∃ (b p : Addr) (ns : List Str), vs = [.ref b, .ref p] ∧ BagAt H b ∧ H p = some (.lst (ns.map V.str)) ∧ ns ≠ [] ∧ ns.length ≤ 30 ∧
  ∀ (H' : Hp) (v : V) (a : A3), Ex H H' → AtomAt H' v a → isR a.1 = true → (a.2.1 = "" ∨ a.2.1 ∈ ns) → (a.2.2 = "" ∨ a.2.2 ∈ ns) → Q v H'
theorem two_at (i : Nat) (h : i < 3) : ∃ d : Int, 0 < d ∧ d < 8 ∧ atI [V.int 1, V.int 2, V.int 4] (i : Int) = some (.int d) := by
  have q : i = 0 ∨ i = 1 ∨ i = 2 := by omega
  rcases q with rfl | rfl | rfl
  · exact ⟨1, by decide, by decide, rfl⟩
  · exact ⟨2, by decide, by decide, rfl⟩
  · exact ⟨4, by decide, by decide, rfl⟩
theorem ok_pattern (T : Txt0 mg) (D : Df K mg "_law_pattern" s_l_pattern) (c_l_take : CalG P w K mg base 1 "_law_take" spTake) (c_l_atom : CalG P w K mg base 3 "_law_atom" spAtom) : CalG P w K mg base 4 "_law_pattern" spPattern := by
  refine cal_mk D sc_l_pattern (fun _ _ _ _ _ _ us hl => match us, hl with | [_, _], _ => rfl) (fun vs H Q E h => ?_) (fun f cdv A outer s H vs Q E hr hG h => ?_)
  · obtain ⟨b, p, ns, rfl, _⟩ := h
    rfl
  · obtain ⟨b, p, ns, rfl, hb, hp, hne, hl, q⟩ := h
    refine ⟨_, (pss_cons (ps_asg (pe_tup (pa_cons (pe_cG c_l_atom hr hG (by decide) rfl (pa_cons (pv 0) (pa_cons (pv 1) pa_nil))) (pa_cons (pe_cG c_l_take hr hG (by decide) rfl (pa_cons (pv 0) (pa_cons pe_int pa_nil))) pa_nil))) (pg_tup rfl (pgs_cons (pg_name (i := 2) sc_l_pattern.nd rfl (Or.inr rfl)) (pgs_cons (pg_name (i := 3) sc_l_pattern.nd rfl (Or.inr rfl)) pgs_nil))))
      (pss_one (ps_ret (pe_callTy call_tuple_of (by rfl) T.tuple (by decide +kernel) (pa_cons (pe_lcO (pe_lc (own := [("_law_k", 4)]) rfl sc_l_pattern.nd (pi_range1 rfl T.range (pa_cons pe_int pa_nil)) (blkOk_by (own := [("_law_k", 4)]) (N := ["_law_bag_here", "_law_things", "_law_atom_here", "_law_manner", "_law_k"]) (sc := defScope s_l_pattern) (by decide +kernel)) (fun _ _ _ _ _ => pg_name (i := 4) sc_l_pattern.nd rfl (Or.inl rfl)) (fun _ _ _ _ _ => pts_nil) (fun _ _ _ _ _ => pe_ifExp (pt_cmpR (opEqB hr) (pe_op op_mod (pe_callTy call_int1 (by rfl) T.int (by decide +kernel) (pa_cons (pe_op op_fdivW (pv 3) (pe_ix ixAnyB (pe_lst (pa_cons pe_int (pa_cons pe_int (pa_cons pe_int pa_nil)))) (pv 4) (fun _ _ => rfl))) pa_nil)) pe_int) pe_int (nomark _)) (pe_ix ixAnyB (pv 2) (pv 4) (fun _ _ => rfl)) pe_str))) pa_nil))))), ?_⟩
    refine ⟨_, rfl, _, rfl, b, p, ns, rfl, hb, hp, hne, hl, fun H1 va a e1 ha hR h1 h2 => ?_⟩
    refine ⟨_, rfl, b, 8, rfl, hb.ex e1, by decide, by decide, fun H2 r r0 r1 e2 => ?_⟩
    obtain ⟨pa, rfl, hpa⟩ := ha.ex e2
    refine ⟨by show 2 ≤ sizeLine; decide, fun tq htq => ?_⟩
    generalize hqt : upd H2 tq _ = H2' 
    obtain ⟨et, ht⟩ := gen1 hqt htq
    refine ⟨tq, _, rfl, st_of ht, rfl, _, _, rfl, _, _, rfl, rfl, ?_⟩
    have hpa := et _ _ hpa
    have e2 := e2.trans et
    refine ⟨3, rfl, by decide, by decide, ?_⟩
    refine lcG (walk_range (lo := 0) (n := 3)) (by decide) trivial (fun _ _ _ _ => trivial) yFn_ex (fun i ys _ => ∃ zs : List Str, ys = zs.map V.str ∧ zs.length = i ∧ ∀ (j : Nat) z, zs[j]? = some z → z = "" ∨ (sl3 a)[j]? = some z) (fun _ _ _ _ _ h => h) ⟨[], rfl, rfl, fun j z hz => by simp at hz⟩ ?_ ?_
    · rintro i x H3 H4 ys hi e3 ⟨rfl, rfl⟩ ⟨zs, rfl, hzl, hzs⟩ N N0 kN kN0
      have z0 : (0 : Int) + (i : Int) = (i : Int) := Int.zero_add _
      obtain ⟨d, d0, d8, hd⟩ := two_at i hi
      refine ⟨rfl, ?_⟩
      refine ⟨_, rfl, by show 3 ≤ sizeLine; decide, fun l hl1 => ?_⟩
      generalize hq5 : upd H4 l _ = H5
      obtain ⟨e5, h5⟩ := gen1 hq5 hl1
      refine ⟨_, rfl, .inl ⟨l, _, _, _, rfl, rfl, sq_of h5, (by rw [z0]; exact hd), ?_⟩⟩
      refine ⟨_, _, rfl, rfl, wide_div d0 (b := 30) (by omega) (by decide) (by decide), .inl ⟨_, rfl, ?_⟩⟩
      refine ⟨_, _, rfl, rfl, (show (0 : Int) < 2 by decide), .inl ⟨rfl, _, rfl, ?_⟩⟩
      have grow : ∀ z : Str, (z = "" ∨ (sl3 a)[i]? = some z) → ∃ zs' : List Str, zs.map V.str ++ [V.str z] = zs'.map V.str ∧ zs'.length = i + 1 ∧ ∀ (j : Nat) y, zs'[j]? = some y → y = "" ∨ (sl3 a)[j]? = some y := fun z hz =>
        ⟨zs ++ [z], by rw [List.map_append]; rfl, by rw [List.length_append, hzl]; rfl, fun j y hy => by
          rw [List.getElem?_append] at hy
          split at hy
          · exact hzs j y hy
          · rename_i hj
            rw [List.getElem?_singleton] at hy
            split at hy
            · cases hy
              have : j = i := by omega
              rw [this]
              exact hz
            · cases hy⟩
      have hi3 : i < (sl3 a).length := hi
      refine ite2 (fun _ => ?_) (fun _ => ?_)
      · refine ⟨_, rfl, _, rfl, .inr (.inl ⟨pa, _, _, .str (sl3 a)[i], rfl, rfl, st_of (e5 _ _ (e3 _ _ hpa)), ?_, ?_⟩)⟩
        · rw [z0]
          refine atI_nat ?_
          rw [List.getElem?_map, List.getElem?_eq_getElem hi3]
          rfl
        · exact kN _ _ e5 (grow _ (.inr (List.getElem?_eq_getElem hi3)))
      · exact kN _ _ e5 (grow _ (.inl rfl))
    · rintro l H3 ys hl3 e3 h3 _ ⟨zs, rfl, hzl, hzs⟩
      obtain ⟨z1, z2, z3, rfl⟩ : ∃ z1 z2 z3, zs = [z1, z2, z3] := by
        match zs, hzl with
        | [z1, z2, z3], _ => exact ⟨z1, z2, z3, rfl⟩
      refine ⟨l, _, rfl, .inl ⟨sq_of h3, fun x hx => ?_⟩⟩
      refine q _ _ (z1, z2, z3) (((e1.trans e2).trans e3).trans (Ex.new hx)) ⟨x, rfl, upd_same⟩ ?_ ?_ ?_
      · rcases hzs 0 z1 rfl with h | h
        · show isR z1 = true
          rw [h]
          decide +kernel
        · cases h
          exact isR_of hR
      · rcases hzs 1 z2 rfl with h | h
        · exact .inl h
        · cases h
          exact .inr h1
      · rcases hzs 2 z3 rfl with h | h
        · exact .inl h
        · cases h
          exact .inr h2
end
theorem okp_full {p a : Str} (h : p ≠ "") : okp p a = decide (p = a) := by
  unfold okp
  have h1 : (("" : Str) == p) = false := beq_eq_false_iff_ne.mpr fun e => h e.symm
  rw [h1, Bool.false_or]
  by_cases e : p = a
  · subst e
    simp
  · have e2 : ¬ a = p := fun z => e z.symm
    have e3 : (a == p) = false := beq_eq_false_iff_ne.mpr e2
    rw [e3]
    simp [e]
theorem fitB_full {p a : A3} (h1 : p.1 ≠ "") (h2 : p.2.1 ≠ "") (h3 : p.2.2 ≠ "") : fitB p a = decide (p = a) := by
  obtain ⟨p1, p2, p3⟩ := p
  obtain ⟨a1, a2, a3⟩ := a
  rw [fitB_eq]
  show (okp p1 a1 && (okp p2 a2 && okp p3 a3)) = _
  rw [okp_full h1, okp_full h2, okp_full h3]
  by_cases e1 : p1 = a1 <;> by_cases e2 : p2 = a2 <;> by_cases e3 : p3 = a3 <;> simp [e1, e2, e3]
theorem fitB_none (a : A3) : fitB ("", "", "") a = true := by
  rw [fitB_eq]
  show ((("" : Str) == "" || _) && (((("" : Str) == "") || _) && ((("" : Str) == "") || _))) = true
  rw [show (("" : Str) == "") = true from by decide +kernel]
  rfl
theorem isR3_ne {r : Str} (h : isR3 r = true) : r ≠ "" := by
  intro e
  subst e
  revert h
  decide +kernel
theorem nm_ne {z : Str} (h : isNm z = true) : z ≠ "" := by
  intro e
  subst e
  revert h
  decide +kernel
abbrev s_l_alike : Stmt := top 7
theorem sc_l_alike : FnScope ["_law_found", "_law_due"] ["_law_found", "_law_due"] (defScope s_l_alike) := ⟨rfl, rfl, rfl, by decide +kernel, rfl, by decide +kernel, by decide +kernel⟩
section
variable {P : Program} {w : World} {K : PySem.W.Frag} {mg : Str → Option Value} {base : Heap}
theorem ok_alike (T : Txt0 mg) (D : Df K mg "_law_alike" s_l_alike) : CalG P w K mg base 1 "_law_alike" (spAlike K) := by
  refine cal_mk D sc_l_alike (fun _ _ _ _ _ _ us hl => match us, hl with | [_, _], _ => rfl) (fun vs H Q E h => ?_) (fun f cdv A outer s H vs Q E hr hG h => ?_)
  · obtain ⟨a, b, d, rfl, _⟩ := h
    rfl
  · obtain ⟨a, b, d, rfl, ha, hb, hf, q⟩ := h
    refine ⟨_, (pss_one (ps_ret (pe_and (pe_cmpR (opEq hr) (pv 0) (pv 1) (nomark _)) (pe_one (pe_cmpR (opEq hr) (pe_callB (callReprA hG hr) (by rfl) T.repr (by decide +kernel) (pa_cons (pv 0) pa_nil)) (pe_callB (callReprA hG hr) (by rfl) T.repr (by decide +kernel) (pa_cons (pv 1) pa_nil)) (nomark _)))))), ?_⟩
    refine ⟨_, rfl, _, rfl, .inr ⟨d, d, ha, hb, hf.shp, hf.shp, _, rfl, ?_⟩⟩
    rw [PySem.SeqAt.eqv_refl d hf.1]
    refine ⟨_, rfl, a, d, rfl, ha, hf, ?_⟩
    refine ⟨_, rfl, b, d, rfl, hb, hf, ?_⟩
    refine .inl ⟨rfl, ?_⟩
    rw [decide_eq_true rfl]
    exact q
end
theorem fin_at {a : A3} (h : sOk a = true) (h1 : a.1.length ≤ 8) (h2 : a.2.1.length ≤ 8) (h3 : a.2.2.length ≤ 8) : fin 1 300 (atD a) := by
  unfold sOk lay at h
  rw [Bool.and_eq_true, Bool.and_eq_true] at h
  refine (fin_tup (n := 0) (W := 82) (m := 3) (fun d hd => ?_) (Nat.le_refl _)).mono (by decide) (by decide)
  have hd : d ∈ [PyData.str a.1, PyData.str a.2.1, PyData.str a.2.2] := hd
  simp only [List.mem_cons, List.not_mem_nil, or_false] at hd
  rcases hd with rfl | rfl | rfl
  · exact fin_str (L := 8) h.1 h1
  · exact fin_str (L := 8) h.2.1 h2
  · exact fin_str (L := 8) h.2.2 h3
def gA (a : A3) : Prop := sOk a = true ∧ a.1.length ≤ 8 ∧ a.2.1.length ≤ 8 ∧ a.2.2.length ≤ 8
theorem gA.fin {a : A3} (h : gA a) : fin 1 300 (atD a) := fin_at h.1 h.2.1 h.2.2.1 h.2.2.2
theorem fin_fa {as : List A3} (h : ∀ a ∈ as, gA a) (h2 : as.length ≤ 2) : Own.fin 2 700 (faD as) := by
  refine (fin_tup (n := 1) (W := 300) (m := 2) (fun d hd => ?_) (by rw [List.length_map]; exact h2)).mono (by decide) (by decide)
  obtain ⟨a, ha, rfl⟩ := List.mem_map.mp hd
  exact (h a ha).fin
theorem rel_len {r : Str} (h : isR r = true) : r.length ≤ 8 := by
  rcases isR_cases h with rfl | rfl | rfl | rfl <;> decide
theorem nm_len {z : Str} (h : isNm z = true) : z.length ≤ 8 := by
  unfold isNm at h
  simp only [Bool.and_eq_true, decide_eq_true_eq] at h
  exact h.1.2
theorem gA_of {ns : List Str} (hnm : ∀ z ∈ ns, isNm z = true) {a : A3} (h0 : isR a.1 = true) (h1 : a.2.1 = "" ∨ a.2.1 ∈ ns) (h2 : a.2.2 = "" ∨ a.2.2 ∈ ns) : gA a := by
  have ok : ∀ z : Str, (z = "" ∨ z ∈ ns) → lay z = true ∧ z.length ≤ 8 := fun z hz => by
    rcases hz with rfl | hz
    · exact ⟨by decide +kernel, by decide⟩
    · exact ⟨nm_ok (hnm z hz), nm_len (hnm z hz)⟩
  refine ⟨?_, rel_len h0, (ok _ h1).2, (ok _ h2).2⟩
  show (lay a.1 && (lay a.2.1 && lay a.2.2)) = true
  rw [rel_ok h0, (ok _ h1).1, (ok _ h2).1]
  rfl
theorem gA.tr {a : A3} (h : gA a) (hr : isR a.1 = true) : gA (trA a) := by
  obtain ⟨h1, h2, h3, h4⟩ := h
  have hr2 := trR_isR hr
  unfold sOk at h1
  rw [Bool.and_eq_true, Bool.and_eq_true] at h1
  refine ⟨?_, rel_len hr2, h4, h3⟩
  show (lay (trR a.1) && (lay a.2.2 && lay a.2.1)) = true
  rw [rel_ok hr2, h1.2.1, h1.2.2]
  rfl
abbrev s_l_fits : Stmt := top 12
theorem sc_l_fits : FnScope ["_law_pattern_here", "_law_atom_here", "_law_k"] ["_law_pattern_here", "_law_atom_here"] (defScope s_l_fits) := ⟨rfl, rfl, rfl, by decide +kernel, rfl, by decide +kernel, by decide +kernel⟩
section
variable {P : Program} {w : World} {K : PySem.W.Frag} {mg : Str → Option Value} {base : Heap}
def badK (p a : A3) (k : Nat) : Bool := !((fitL p a).getD k true)
theorem bad_none (p a : A3) : ((List.range 3).filter (badK p a)).isEmpty = fitB p a := by
  show (List.filter (badK p a) [0, 1, 2]).isEmpty = _
  rw [fitB_eq]
  have h0 : badK p a 0 = !(okp p.1 a.1) := rfl
  have h1 : badK p a 1 = !(okp p.2.1 a.2.1) := rfl
  have h2 : badK p a 2 = !(okp p.2.2 a.2.2) := rfl
  rw [List.filter_cons, List.filter_cons, List.filter_cons, List.filter_nil, h0, h1, h2]
  cases okp p.1 a.1 <;> cases okp p.2.1 a.2.1 <;> cases okp p.2.2 a.2.2 <;> rfl
theorem eqv_nil (ds : List PyData) : PyData.eqv (.list ds) (.list []) = ds.isEmpty := by
  cases ds with
  | nil => rfl
  | cons _ _ => rfl
theorem dp_ints {K : PySem.W.Frag} {H : Hp} : ∀ ks : List Nat, DpAll K H (ks.map fun (k : Nat) => V.int (k : Int)) (ks.map fun (k : Nat) => PyData.int (k : Int))
  | [] => .nil
  | k :: ks => .cons (.int k) (dp_ints ks)
theorem shp_ints : ∀ ks : List Nat, SeqAt.shaped (.list (ks.map fun (k : Nat) => PyData.int (k : Int))) = true := fun ks => by
  have h : PyData.canLayAll0 (ks.map fun (k : Nat) => PyData.int (k : Int)) = true ∧ PyData.depthAll (ks.map fun (k : Nat) => PyData.int (k : Int)) ≤ 0 := by
    induction ks with
    | nil => exact ⟨rfl, Nat.le_refl _⟩
    | cons k ks ih =>
      refine ⟨?_, ?_⟩
      · show (true && PyData.canLayAll0 _) = true
        rw [ih.1]
        rfl
      · show max 0 (PyData.depthAll _) ≤ 0
        have := ih.2
        omega
  unfold SeqAt.shaped
  rw [show (PyData.list (ks.map fun (k : Nat) => PyData.int (k : Int))).canLay0 = true from h.1, Bool.true_and]
  refine decide_eq_true ?_
  show PyData.depthAll _ + 1 ≤ 64
  omega
theorem ok_lfits (T : Txt0 mg) (D : Df K mg "_law_fits" s_l_fits) : CalG P w K mg base 1 "_law_fits" spFits := by
  refine cal_mk D sc_l_fits (fun _ _ _ _ _ _ us hl => match us, hl with | [_, _], _ => rfl) (fun vs H Q E h => ?_) (fun f cdv A outer s H vs Q E hr hG h => ?_)
  · obtain ⟨v, u, p, a, rfl, _⟩ := h
    rfl
  · obtain ⟨_, _, p, a, rfl, ⟨pp, rfl, hp⟩, ⟨pa, rfl, ha⟩, q⟩ := h
    refine ⟨_, (pss_one (ps_ret (pe_cmpR (opEq hr) (pe_lcO (pe_lc (own := [("_law_k", 2)]) rfl sc_l_fits.nd (pi_range1 rfl T.range (pa_cons pe_int pa_nil)) (blkOk_by (own := [("_law_k", 2)]) (N := ["_law_pattern_here", "_law_atom_here", "_law_k"]) (sc := defScope s_l_fits) (by decide +kernel)) (fun _ _ _ _ _ => pg_name (i := 2) sc_l_fits.nd rfl (Or.inl rfl)) (fun _ _ _ _ _ => pts_one (PW.pt (pw_and (pt_cmpR (opNeB hr) (pe_ix ixAnyB (pv 0) (pv 2) (fun _ _ => rfl)) pe_str (nomark _)) (pw_and1 (pt_cmpR (opNeB hr) (pe_ix ixAnyB (pv 0) (pv 2) (fun _ _ => rfl)) (pe_ix ixAnyB (pv 1) (pv 2) (fun _ _ => rfl)) (nomark _)))))) (fun _ _ _ _ _ => pv 2))) (pe_lst pa_nil) (nomark _)))), ?_⟩
    refine ⟨3, rfl, by decide, by decide, ?_⟩
    refine lcG (walk_range (lo := 0) (n := 3)) (by decide) trivial (fun _ _ _ _ => trivial) yFn_ex (fun i ys _ => ys = ((List.range i).filter (badK p a)).map fun (k : Nat) => V.int (k : Int)) (fun _ _ _ _ _ h => h) rfl ?_ ?_
    · rintro i x H1 H2 ys hi e1 ⟨rfl, rfl⟩ rfl N N0 kN kN0
      have z0 : (0 : Int) + (i : Int) = (i : Int) := Int.zero_add _
      obtain ⟨z, hz⟩ : ∃ z, (sl3 p)[i]? = some z := ⟨_, List.getElem?_eq_getElem (show i < (sl3 p).length from hi)⟩
      obtain ⟨y, hy⟩ : ∃ y, (sl3 a)[i]? = some y := ⟨_, List.getElem?_eq_getElem (show i < (sl3 a).length from hi)⟩
      have hzi : atI ((sl3 p).map V.str) ((0 : Int) + (i : Int)) = some (.str z) := by
        rw [z0]
        exact atI_nat (by rw [List.getElem?_map, hz]; rfl)
      have hyi : atI ((sl3 a).map V.str) ((0 : Int) + (i : Int)) = some (.str y) := by
        rw [z0]
        exact atI_nat (by rw [List.getElem?_map, hy]; rfl)
      have hp1 := st_of (K := K) (e1 _ _ hp)
      have ha1 := st_of (K := K) (e1 _ _ ha)
      have hbad : badK p a i = !(okp z y) := by
        unfold badK fitL
        rw [List.getD_eq_getElem?_getD, List.getElem?_zipWith, hz, hy]
        rfl
      have yes : badK p a i = true → ∀ H3, Ex H2 H3 → N (.int ((0 : Int) + (i : Int))) H3 := fun h H3 e3 => kN _ _ e3 (by
        rw [List.range_succ, List.filter_append, List.filter_cons, if_pos h, List.map_append, z0]
        rfl)
      have no : badK p a i = false → ∀ H3, Ex H2 H3 → N0 H3 := fun h H3 e3 => kN0 _ e3 (by
        rw [List.range_succ, List.filter_append, List.filter_cons, if_neg (by rw [h]; decide), List.map_append]
        simp)
      refine ⟨rfl, ?_⟩
      refine ⟨_, rfl, _, rfl, .inr (.inl ⟨pp, _, _, .str z, rfl, rfl, hp1, hzi, .inl ⟨rfl, _, rfl, ?_⟩⟩)⟩
      by_cases hz0 : z = ""
      · rw [show decide (V.str z = V.str "") = true by rw [hz0]; exact decide_eq_true rfl]
        refine iteF (no ?_ _ (Ex.refl _))
        rw [hbad, hz0]
        show (!(((("" : Str) == "") || _))) = false
        rw [show (("" : Str) == "") = true from by decide +kernel]
        rfl
      · rw [show decide (V.str z = V.str "") = false by exact decide_eq_false (fun e => hz0 (V.str.inj e))]
        refine iteT ?_
        refine ⟨_, rfl, _, rfl, .inr (.inl ⟨pp, _, _, .str z, rfl, rfl, hp1, hzi, ?_⟩)⟩
        refine ⟨_, rfl, _, rfl, .inr (.inl ⟨pa, _, _, .str y, rfl, rfl, ha1, hyi, .inl ⟨rfl, _, rfl, ?_⟩⟩)⟩
        have hok : okp z y = decide (z = y) := okp_full hz0
        by_cases hzy : z = y
        · rw [show decide (V.str z = V.str y) = true by rw [hzy]; exact decide_eq_true rfl]
          refine iteF (no ?_ _ (Ex.refl _))
          rw [hbad, hok, decide_eq_true hzy]
          rfl
        · rw [show decide (V.str z = V.str y) = false by exact decide_eq_false (fun e => hzy (V.str.inj e))]
          refine iteT ⟨_, rfl, yes ?_ _ (Ex.refl _)⟩
          rw [hbad, hok, decide_eq_false hzy]
          rfl
    · rintro l H1 ys hl e1 h1 _ rfl
      refine ⟨Nat.zero_le _, fun l2 hl2 => ?_⟩
      generalize hq2 : upd H1 l2 _ = H2
      obtain ⟨e2, h2⟩ := gen1 hq2 hl2
      refine .inr ⟨.list _, .list [], .lst (sq_of (e2 _ _ h1)) (dp_ints _), .lst (sq_of h2) .nil, shp_ints _, rfl, ?_⟩
      rw [eqv_nil, show (((List.range 3).filter (badK p a)).map fun (k : Nat) => PyData.int (k : Int)).isEmpty = ((List.range 3).filter (badK p a)).isEmpty by simp, bad_none]
      exact q _ (e1.trans e2)
end
abbrev s_narrower : Stmt := top 2
theorem sc_narrower : FnScope ["one", "other", "narrow", "wide"] ["one", "other"] (defScope s_narrower) := ⟨rfl, rfl, rfl, by decide +kernel, rfl, by decide +kernel, by decide +kernel⟩
abbrev s_both : Stmt := top 3
theorem sc_both : FnScope ["one", "other", "first", "second"] ["one", "other"] (defScope s_both) := ⟨rfl, rfl, rfl, by decide +kernel, rfl, by decide +kernel, by decide +kernel⟩
def cfl (x y : Str) : Bool := !decide (x = "") && (!decide (y = "") && !decide (x = y))
def mg1 (x y : Str) : Str := if x = "" then y else x
def bothA (a b : A3) : Option A3 := if (cfl a.1 b.1 || (cfl a.2.1 b.2.1 || cfl a.2.2 b.2.2)) = true then none else some (mg1 a.1 b.1, mg1 a.2.1 b.2.1, mg1 a.2.2 b.2.2)
def OptAt (H : Hp) (v : V) : Option A3 → Prop
  | none => v = .non
  | some a => AtomAt H v a
theorem OptAt.ex {H H' : Hp} {v : V} {o : Option A3} (e : Ex H H') (h : OptAt H v o) : OptAt H' v o := by
  cases o with
  | none => exact h
  | some a => exact AtomAt.ex e h
def opD : Option A3 → PyData
  | none => .none
  | some a => atD a
theorem OptAt.dp {K : PySem.W.Frag} {H : Hp} {v : V} {o : Option A3} (h : OptAt H v o) : Dp K H v (opD o) := by
  cases o with
  | none =>
    have h : v = .non := h
    rw [h]
    exact .non
  | some a => exact AtomAt.dp h
theorem str_dec (a b : Str) : decide (V.str a = V.str b) = decide (a = b) := by
  by_cases h : a = b
  · rw [h]
    simp
  · rw [decide_eq_false h, decide_eq_false (fun e => h (V.str.inj e))]
def cflL (a b : A3) : List Bool := List.zipWith cfl (sl3 a) (sl3 b)
def mgL (a b : A3) : List Str := List.zipWith mg1 (sl3 a) (sl3 b)
section
variable {P : Program} {w : World} {K : PySem.W.Frag} {mg : Str → Option Value} {base : Heap}
def spNarrow : Sp := fun vs H Q _ => ∃ (v u : V) (a b : A3), vs = [v, u] ∧ AtomAt H v a ∧ AtomAt H u b ∧ ∀ (H' : Hp), Ex H H' → Q (.bl (fitB b a)) H'
theorem ok_narrower (T : Txt0 mg) (D : Df K mg "narrower" s_narrower) : CalG P w K mg base 1 "narrower" spNarrow := by
  refine cal_mk D sc_narrower (fun _ _ _ _ _ _ us hl => match us, hl with | [_, _], _ => rfl) (fun vs H Q E h => ?_) (fun f cdv A outer s H vs Q E hr hG h => ?_)
  · obtain ⟨v, u, p, a, rfl, _⟩ := h
    rfl
  · obtain ⟨_, _, a, p, rfl, ⟨pa, rfl, ha⟩, ⟨pp, rfl, hp⟩, q⟩ := h
    refine ⟨_, (pss_one (ps_ret (pe_callB (cr_all rfl) (by rfl) T.all (by decide +kernel) (pa_cons (pe_lcO (pe_lc (own := [("narrow", 2), ("wide", 3)]) rfl sc_narrower.nd (RZ.pi_zipA (by rfl) T.zip (pa_cons (pv 0) (pa_cons (pv 1) pa_nil))) (blkOk_by (own := [("narrow", 2), ("wide", 3)]) (N := ["one", "other", "narrow", "wide"]) (sc := defScope s_narrower) (by decide +kernel)) (fun _ _ _ _ _ => pg_tupB (n := 2) rfl (pgs_cons (pg_name (i := 2) sc_narrower.nd rfl (Or.inl rfl) (hf := .inr rfl)) (pgs_cons (pg_name (i := 3) sc_narrower.nd rfl (Or.inl rfl) (hf := .inr rfl)) pgs_nil))) (fun _ _ _ _ _ => pts_nil) (fun _ _ _ _ _ => pe_cmpR opInB (pv 3) (pe_tup (pa_cons pe_str (pa_cons (pv 2) pa_nil))) rfl))) pa_nil)))), ?_⟩
    refine ⟨_, rfl, _, rfl, pa, pp, _, _, rfl, .inr ⟨st_of ha, st_of hp, ?_⟩⟩
    refine lcG (walk_zipT (xs := (sl3 a).map V.str) (ys := (sl3 p).map V.str) (n := 3) rfl) (by decide) ⟨st_of ha, st_of hp⟩ (fun _ _ e h => ⟨ex_t e h.1, ex_t e h.2⟩) yPair_ex (fun i ys _ => ys = ((fitL p a).take i).map V.bl) (fun _ _ _ _ _ h => h) rfl ?_ ?_
    · rintro i x H1 H2 ys hi e ⟨t, u, v, rfl, ht, rfl, hu, hv⟩ rfl N N0 kN kN0
      obtain ⟨y, hy, rfl⟩ := str_at hu
      obtain ⟨z, hz, rfl⟩ := str_at hv
      refine ⟨t, _, rfl, st_of upd_same, rfl, _, _, rfl, _, _, rfl, rfl, rfl, ?_⟩
      refine ⟨_, rfl, _, rfl, by show 2 ≤ sizeLine; decide, fun x hx => .inl ⟨x, _, rfl, .inr (st_of upd_same), rfl, rfl, ?_⟩⟩
      refine kN _ _ (Ex.new hx) ?_
      have hg : (fitL p a)[i]? = some (okp z y) := by
        unfold fitL
        rw [List.getElem?_zipWith, hz, hy]
      rw [List.take_add_one, hg, List.map_append]
      show _ = _ ++ [V.bl (okp z y)]
      congr 2
      show V.bl (((("" : Str) == z) || ((y == z) || false))) = V.bl (okp z y)
      rw [Bool.or_false]
      rfl
    · rintro l H1 ys hl e1 h1 _ rfl
      exact ⟨l, (fitL p a), rfl, sq_of h1, q _ e1⟩
def spBoth : Sp := fun vs H Q _ => ∃ (v u : V) (a b : A3), vs = [v, u] ∧ AtomAt H v a ∧ AtomAt H u b ∧ ∀ (H' : Hp) (x : V), Ex H H' → OptAt H' x (bothA a b) → Q x H'
theorem cfl_none {a b : A3} (h : ∀ j, j < 3 → (cflL a b)[j]? = some false) : bothA a b = some (mg1 a.1 b.1, mg1 a.2.1 b.2.1, mg1 a.2.2 b.2.2) := by
  have h0 : some (cfl a.1 b.1) = some false := h 0 (by decide)
  have h1 : some (cfl a.2.1 b.2.1) = some false := h 1 (by decide)
  have h2 : some (cfl a.2.2 b.2.2) = some false := h 2 (by decide)
  unfold bothA
  rw [Option.some.inj h0, Option.some.inj h1, Option.some.inj h2]
  rfl
theorem cfl_some {a b : A3} {j : Nat} (h : (cflL a b)[j]? = some true) : bothA a b = none := by
  obtain ⟨hj, _⟩ := List.getElem?_eq_some_iff.mp h
  have hj3 : j < 3 := hj
  unfold bothA
  rw [if_pos]
  have q : j = 0 ∨ j = 1 ∨ j = 2 := by omega
  rcases q with rfl | rfl | rfl
  · have z : some (cfl a.1 b.1) = some true := h
    rw [Option.some.inj z]
    rfl
  · have z : some (cfl a.2.1 b.2.1) = some true := h
    rw [Option.some.inj z]
    simp
  · have z : some (cfl a.2.2 b.2.2) = some true := h
    rw [Option.some.inj z]
    simp
theorem ok_both (T : Txt0 mg) (D : Df K mg "both" s_both) : CalG P w K mg base 1 "both" spBoth := by
  refine cal_mk D sc_both (fun _ _ _ _ _ _ us hl => match us, hl with | [_, _], _ => rfl) (fun vs H Q E h => ?_) (fun f cdv A outer s H vs Q E hr hG h => ?_)
  · obtain ⟨v, u, p, a, rfl, _⟩ := h
    rfl
  · obtain ⟨_, _, a, p, rfl, ⟨pa, rfl, ha⟩, ⟨pp, rfl, hp⟩, q⟩ := h
    refine ⟨_, (pss_cons (ps_forO (ps_for PassesOwn.never rfl (RZ.pi_zipA (by rfl) T.zip (pa_cons (pv 0) (pa_cons (pv 1) pa_nil))) (pg_tup rfl (pgs_cons (pg_name (i := 2) sc_both.nd rfl (Or.inl rfl)) (pgs_cons (pg_name (i := 3) sc_both.nd rfl (Or.inl rfl)) pgs_nil)))
        (pss_one (ps_if (PW.pt (pw_and (pt_cmpR (opNe hr) (pv 2) pe_str (nomark _)) (pw_and (pt_cmpR (opNe hr) (pv 3) pe_str (nomark _)) (pw_and1 (pt_cmpR (opNe hr) (pv 2) (pv 3) (nomark _)))))) (pss_one (ps_ret pe_non)) pss_nil))))
      (pss_one (ps_ret (pe_callTy call_tuple_of (by rfl) T.tuple (by decide +kernel) (pa_cons (pe_lcO (pe_lc (own := [("first", 2), ("second", 3)]) rfl sc_both.nd (RZ.pi_zipA (by rfl) T.zip (pa_cons (pv 0) (pa_cons (pv 1) pa_nil))) (blkOk_by (own := [("first", 2), ("second", 3)]) (N := ["one", "other", "first", "second"]) (sc := defScope s_both) (by decide +kernel)) (fun _ _ _ _ _ => pg_tupB (n := 2) rfl (pgs_cons (pg_name (i := 2) sc_both.nd rfl (Or.inl rfl) (hf := .inr rfl)) (pgs_cons (pg_name (i := 3) sc_both.nd rfl (Or.inl rfl) (hf := .inr rfl)) pgs_nil))) (fun _ _ _ _ _ => pts_nil) (fun _ _ _ _ _ => pe_ifExp (pt_cmpR (opNeB hr) (pv 2) pe_str (nomark _)) (pv 2) (pv 3)))) pa_nil))))), ?_⟩
    refine ⟨_, rfl, _, rfl, pa, pp, _, _, rfl, .inr ⟨st_of ha, st_of hp, ?_⟩⟩
    refine frG (walk_zipT (xs := (sl3 a).map V.str) (ys := (sl3 p).map V.str) (n := 3) rfl) (fun i σ H' => ∃ x2 x3 : Option V, σ = [some (.ref pa), some (.ref pp), x2, x3] ∧ Ex H H' ∧ ∀ j, j < i → (cflL a p)[j]? = some false) ⟨_, _, rfl, Ex.refl _, fun j hj => absurd hj (Nat.not_lt_zero j)⟩
      (fun _ _ _ _ ⟨_, _, _, e, _⟩ => ⟨st_of (e _ _ ha), st_of (e _ _ hp)⟩) ?_ ?_
    · rintro i x σ H1 H2 hi ⟨x2, x3, rfl, e, hno⟩ ⟨t, u, v, rfl, ht, rfl, hu, hv⟩
      obtain ⟨y, hy, rfl⟩ := str_at hu
      obtain ⟨z, hz, rfl⟩ := str_at hv
      have hg : (cflL a p)[i]? = some (cfl y z) := by
        unfold cflL
        rw [List.getElem?_zipWith, hy, hz]
      have fine1 : cfl y z = false → ∀ j, j < i + 1 → (cflL a p)[j]? = some false := fun h j hj => by
        by_cases e : j = i
        · rw [e, hg, h]
        · exact hno j (by omega)
      refine ⟨t, _, rfl, st_of upd_same, rfl, _, _, rfl, _, _, rfl, rfl, ?_⟩
      have e2 := e.trans (Ex.new (o := .tup [V.str y, V.str z]) ht)
      refine ⟨_, rfl, .inl ⟨rfl, _, rfl, ?_⟩⟩
      rw [show decide (V.str y = V.str _) = decide (y = "") from str_dec _ _]
      by_cases h1 : y = ""
      · rw [decide_eq_true h1]
        refine iteF (iteF ⟨_, _, rfl, e2, fine1 ?_⟩)
        unfold cfl
        rw [decide_eq_true h1]
        rfl
      · rw [decide_eq_false h1]
        refine iteT ?_
        refine ⟨_, rfl, .inl ⟨rfl, _, rfl, ?_⟩⟩
        rw [show decide (V.str z = V.str _) = decide (z = "") from str_dec _ _]
        by_cases h2 : z = ""
        · rw [decide_eq_true h2]
          refine iteF (iteF ⟨_, _, rfl, e2, fine1 ?_⟩)
          unfold cfl
          rw [decide_eq_true h2, decide_eq_false h1]
          rfl
        · rw [decide_eq_false h2]
          refine iteT ?_
          refine ⟨_, rfl, _, rfl, .inl ⟨rfl, _, rfl, ?_⟩⟩
          rw [str_dec]
          have hc : cfl y z = !decide (y = z) := by
            unfold cfl
            rw [decide_eq_false h1, decide_eq_false h2]
            rfl
          by_cases h3 : y = z
          · rw [decide_eq_true h3]
            refine iteF ⟨_, _, rfl, e2, fine1 ?_⟩
            rw [hc, decide_eq_true h3]
            rfl
          · rw [decide_eq_false h3]
            refine iteT (q _ _ e2 ?_)
            rw [cfl_some (j := i) (by rw [hg, hc, decide_eq_false h3]; rfl)]
            exact rfl
    · rintro σ H1 ⟨x2, x3, rfl, e, hno⟩
      rw [cfl_none hno] at q
      refine ⟨_, rfl, _, rfl, pa, pp, _, _, rfl, .inr ⟨st_of (e _ _ ha), st_of (e _ _ hp), ?_⟩⟩
      refine lcG (walk_zipT (xs := (sl3 a).map V.str) (ys := (sl3 p).map V.str) (n := 3) rfl) (by decide) ⟨st_of (e _ _ ha), st_of (e _ _ hp)⟩ (fun _ _ e h => ⟨ex_t e h.1, ex_t e h.2⟩) yPair_ex (fun i ys _ => ys = ((mgL a p).take i).map V.str) (fun _ _ _ _ _ h => h) rfl ?_ ?_
      · rintro i x H2 H3 ys hi e2 ⟨t, u, v, rfl, ht, rfl, hu, hv⟩ rfl N N0 kN kN0
        obtain ⟨y, hy, rfl⟩ := str_at hu
        obtain ⟨z, hz, rfl⟩ := str_at hv
        have hg : (mgL a p)[i]? = some (mg1 y z) := by
          unfold mgL
          rw [List.getElem?_zipWith, hy, hz]
        refine ⟨t, _, rfl, st_of upd_same, rfl, _, _, rfl, _, _, rfl, rfl, rfl, ?_⟩
        refine ⟨_, rfl, .inl ⟨rfl, _, rfl, ?_⟩⟩
        rw [show decide (V.str y = V.str _) = decide (y = "") from str_dec _ _]
        by_cases h1 : y = ""
        · rw [decide_eq_true h1]
          refine iteF ⟨_, rfl, kN _ _ (Ex.refl _) ?_⟩
          rw [List.take_add_one, hg, List.map_append]
          unfold mg1
          rw [if_pos h1]
          rfl
        · rw [decide_eq_false h1]
          refine iteT ⟨_, rfl, kN _ _ (Ex.refl _) ?_⟩
          rw [List.take_add_one, hg, List.map_append]
          unfold mg1
          rw [if_neg h1]
          rfl
      · rintro l H2 ys hl e2 h2 _ rfl
        refine ⟨l, _, rfl, .inl ⟨sq_of h2, fun x hx => ?_⟩⟩
        exact q _ _ ((e.trans e2).trans (Ex.new hx)) ⟨x, rfl, upd_same⟩
end
abbrev s_l_all_atoms : Stmt := top 13
theorem sc_l_all_atoms : FnScope ["_law_things", "_law_found", "_law_left", "_law_right", "_law_relation"] ["_law_things"] (defScope s_l_all_atoms) := ⟨rfl, rfl, rfl, by decide +kernel, rfl, by decide +kernel, by decide +kernel⟩
def three (l t : Str) : List A3 := [("eq", l, t), ("lt", l, t), ("gt", l, t)]
theorem AllAt.app {H : Hp} : ∀ {vs us : List V} {as bs : List A3}, AllAt H vs as → AllAt H us bs → AllAt H (vs ++ us) (as ++ bs)
  | [], us, [], bs, _, h => h
  | _ :: vs, us, _ :: as, bs, h, h2 => ⟨h.1, AllAt.app h.2 h2⟩
  | [], _, _ :: _, _, h, _ => h.elim
  | _ :: _, _, [], _, h, _ => h.elim
theorem take_flat {α β : Type} {f : α → List β} {xs : List α} {i : Nat} {x : α} (h : xs[i]? = some x) : (xs.take (i + 1)).flatMap f = (xs.take i).flatMap f ++ f x := by
  rw [List.take_add_one, h, List.flatMap_append]
  simp
section
variable {P : Program} {w : World} {K : PySem.W.Frag} {mg : Str → Option Value} {base : Heap}
def allA (ns : List Str) : List A3 := ns.flatMap fun l => ns.flatMap fun t => three l t
def spAllA : Sp := fun vs H Q _ => ∃ (p : Addr) (ns : List Str), vs = [.ref p] ∧ H p = some (.lst (ns.map V.str)) ∧ ns.length ≤ 30 ∧
  ∀ (H' : Hp) (l : Addr) (xs : List V), Ex H H' → H l = none → H' l = some (.lst xs) → AllAt H' xs (allA ns) → xs.length ≤ 3000 → Q (.ref l) H'
theorem ok_all_atoms (T : Txt0 mg) (D : Df K mg "_law_all_atoms" s_l_all_atoms) : CalG P w K mg base 1 "_law_all_atoms" spAllA := by
  refine cal_mk D sc_l_all_atoms (fun _ _ _ _ _ _ us hl => match us, hl with | [_], _ => rfl) (fun vs H Q E h => ?_) (fun f cdv A outer s H vs Q E hr hG h => ?_)
  · obtain ⟨p, ns, rfl, _⟩ := h
    rfl
  · obtain ⟨p, ns, rfl, hp, hl, q⟩ := h
    refine ⟨_, (pss_cons (ps_set (i := 1) sc_l_all_atoms.nd rfl (Or.inl rfl) (pe_lst pa_nil))
      (pss_cons (ps_forO (ps_for PassesOwn.never rfl (piAny (pv 0)) (pg_name (i := 2) sc_l_all_atoms.nd rfl (Or.inr rfl))
        (pss_one (ps_forO (ps_for PassesOwn.never rfl (piAny (pv 0)) (pg_name (i := 3) sc_l_all_atoms.nd rfl (Or.inr rfl))
        (pss_one (ps_expr (pe_bm PySem.F.plainAttrs_list PySem.F.slot_list_extend PySem.F.type_list_extend mt_extend (pv 1) (pa_cons (pe_lcO (pe_lc (own := [("_law_relation", 4)]) rfl sc_l_all_atoms.nd (piAny (pe_tup (pa_cons pe_str (pa_cons pe_str (pa_cons pe_str pa_nil))))) (blkOk_by (own := [("_law_relation", 4)]) (N := ["_law_things", "_law_found", "_law_left", "_law_right", "_law_relation"]) (sc := defScope s_l_all_atoms) (by decide +kernel)) (fun _ _ _ _ _ => pg_name (i := 4) sc_l_all_atoms.nd rfl (Or.inl rfl)) (fun _ _ _ _ _ => pts_nil) (fun _ _ _ _ _ => pe_tup (pa_cons (pv 4) (pa_cons (pv 2) (pa_cons (pv 3) pa_nil)))))) pa_nil)))))))))
      (pss_one (ps_ret (pv 1))))), ?_⟩
    refine ⟨Nat.zero_le _, fun fp hfp => ?_⟩
    generalize hq1 : upd H fp _ = H1
    obtain ⟨e1, h1⟩ := gen1 hq1 hfp
    refine .inl ⟨_, rfl, p, rfl, ⟨_, sq_of (e1 _ _ hp)⟩, ?_⟩
    refine frG (walk_list (xs := ns.map V.str)) (fun i σ H' => ∃ (xs : List V) (x2 x3 : Option V), σ = [some (.ref p), some (.ref fp), x2, x3, none] ∧ Ex H H' ∧ H' fp = some (.lst xs) ∧ AllAt H' xs ((ns.take i).flatMap fun l => ns.flatMap fun t => three l t) ∧ xs.length ≤ 100 * i)
      ⟨[], none, none, rfl, e1, h1, trivial, Nat.zero_le _⟩ (fun i σ H' _ ⟨_, _, _, _, e, _⟩ => sq_of (e _ _ hp)) ?_ ?_
    · rintro i x σ H2 H3 hi ⟨xs, x2, x3, rfl, e2, hf, hA, hxl⟩ ⟨rfl, hx⟩
      obtain ⟨l, hl1, rfl⟩ := str_at hx
      refine .inl ⟨_, rfl, p, rfl, ⟨_, sq_of (e2 _ _ hp)⟩, ?_⟩
      refine frG (walk_list (xs := ns.map V.str)) (fun j σ H' => ∃ (xs : List V) (x3 : Option V), σ = [some (.ref p), some (.ref fp), some (.str l), x3, none] ∧ Ex H H' ∧ H' fp = some (.lst xs) ∧
          AllAt H' xs (((ns.take i).flatMap fun l => ns.flatMap fun t => three l t) ++ (ns.take j).flatMap fun t => three l t) ∧ xs.length ≤ 100 * i + 3 * j)
        ⟨xs, x3, rfl, e2, hf, by rw [show (ns.take 0).flatMap (fun t => three l t) = [] from rfl, List.append_nil]; exact hA, by omega⟩ (fun i σ H' _ ⟨_, _, _, e, _⟩ => sq_of (e _ _ hp)) ?_ ?_
      · rintro j x σ H4 H5 hj ⟨xs, x3, rfl, e4, hf, hA, hxl⟩ ⟨rfl, hx⟩
        obtain ⟨t, ht1, rfl⟩ := str_at hx
        rw [List.length_map] at hi hj
        refine ⟨_, rfl, .inl ⟨rfl, _, sq_of hf⟩, .inr (.inl ⟨by show 3 ≤ sizeLine; decide, fun tp htp => ?_⟩)⟩
        generalize hq6 : upd H5 tp _ = H6
        obtain ⟨e6, h6⟩ := gen1 hq6 htp
        refine ⟨tp, rfl, ⟨_, st_of h6⟩, ?_⟩
        refine lcG (walk_tup (xs := [V.str "eq", V.str "lt", V.str "gt"])) (by decide) (st_of h6) (fun _ _ e h => ex_t e h) yAt_ex (fun i ys H' => AllAt H' ys ((three l t).take i)) (fun _ _ _ _ e h => h.tex e) trivial ?_ ?_
        · rintro k x H7 H8 ys hk e7 ⟨rfl, hx⟩ hy N N0 kN kN0
          refine ⟨rfl, ?_⟩
          refine ⟨_, rfl, _, rfl, _, rfl, by show 3 ≤ sizeLine; decide, fun z hz => ?_⟩
          refine kN _ _ (Ex.new hz) ?_
          have hk3 : k < 3 := hk
          obtain ⟨r, hr1, rfl⟩ : ∃ r : Str, (three l t)[k]? = some (r, l, t) ∧ x = .str r := by
            have q : k = 0 ∨ k = 1 ∨ k = 2 := by omega
            rcases q with rfl | rfl | rfl
            · cases hx
              exact ⟨"eq", rfl, rfl⟩
            · cases hx
              exact ⟨"lt", rfl, rfl⟩
            · cases hx
              exact ⟨"gt", rfl, rfl⟩
          rw [List.take_add_one, hr1]
          exact AllAt.snoc (a := (r, l, t)) ⟨z, rfl, upd_same⟩ (hy.tex (TEx.of (Ex.new hz)))
        · rintro D H7 ys hD e7 h7 hys hy
          have hf7 := e7 _ _ (e6 _ _ hf)
          have hys3 : ys.length ≤ 3 := hys
          refine ⟨fp, D, xs, ys, rfl, rfl, hf7, h7, sz_of (by omega), ?_⟩
          refine ⟨xs ++ ys, _, rfl, Ex.mut ((e4.trans e6).trans e7) hfp, upd_same, ?_, ?_⟩
          · rw [take_flat ht1, ← List.append_assoc]
            have te := TEx.lst (o := .lst (xs ++ ys)) hf7
            exact AllAt.app (hA.tex ((TEx.of (e6.trans e7)).trans te)) (hy.tex te)
          · rw [List.length_append]
            omega
      · rintro σ H4 ⟨xs, x3, rfl, e4, hf, hA, hxl⟩
        rw [List.length_map] at hA hxl
        refine ⟨xs, _, _, rfl, e4, hf, ?_, by omega⟩
        rw [take_flat hl1]
        rw [List.take_length] at hA
        exact hA
    · rintro σ H2 ⟨xs, x2, x3, rfl, e2, hf, hA, hxl⟩
      rw [List.length_map] at hA hxl
      rw [List.take_length] at hA
      exact ⟨_, rfl, q _ fp xs e2 hfp hf hA (by omega)⟩
end
end Own

namespace Own
open PySem PySem.Spec PyProof.Rows L2 Evl
theorem mem_allA {ns : List Str} {a : A3} (h : a ∈ allA ns) : isR3 a.1 = true ∧ a.2.1 ∈ ns ∧ a.2.2 ∈ ns := by
  obtain ⟨l, hl, h⟩ := List.mem_flatMap.mp h
  obtain ⟨t, ht, h⟩ := List.mem_flatMap.mp h
  simp only [three, List.mem_cons, List.not_mem_nil, or_false] at h
  rcases h with rfl | rfl | rfl
  · exact ⟨by show isR3 "eq" = true; decide +kernel, hl, ht⟩
  · exact ⟨by show isR3 "lt" = true; decide +kernel, hl, ht⟩
  · exact ⟨by show isR3 "gt" = true; decide +kernel, hl, ht⟩
theorem cut_read {K : PySem.W.Frag} {tf : Addr} {v1 v2 : V} {r : Int} {H : Hp} {Q : VK} (h : H tf = some (.tup [v1, v2])) (r0 : 0 ≤ r) (r1 : r < 2)
    (k : ∀ (vf : V) (H' : Hp) (p : Addr) (xs : List V), Ex H H' → vf = .ref p → H' p = some (.tup xs) → (xs = [v1] ∨ xs = [v1, v2]) → Q vf H') : rSlAny K (.ref tf) none (some (1 + r)) H Q := by
  have q : r = 0 ∨ r = 1 := by omega
  rcases q with rfl | rfl
  · refine .inr (.inl ⟨tf, _, rfl, st_of h, fun z => ?_, fun _ p hp => ?_⟩)
    · exact absurd z.2 (by show ¬ HT.sIx 2 2 (some 1) = 2; decide)
    · exact k _ _ p _ (Ex.new hp) rfl upd_same (.inl rfl)
  · refine .inr (.inl ⟨tf, _, rfl, st_of h, fun _ => k _ _ tf _ (Ex.refl _) rfl h (.inr rfl), fun z => ?_⟩)
    exact absurd ⟨rfl, rfl⟩ z
theorem any_tr {pt : A3} {as : List A3} (hp : isR pt.1 = true) (hs : ∀ a ∈ as, isR a.1 = true) : as.any (fitB (trA pt)) = (as.map trA).any (fitB pt) := by
  induction as with
  | nil => rfl
  | cons a as ih =>
    rw [List.map_cons, List.any_cons, List.any_cons, ih fun x hx => hs x (List.mem_cons_of_mem _ hx), fitB_tr hp (hs a List.mem_cons_self)]
theorem map_trtr {as : List A3} (hs : ∀ a ∈ as, isR a.1 = true) : (as.map trA).map trA = as := by
  induction as with
  | nil => rfl
  | cons a as ih =>
    rw [List.map_cons, List.map_cons, ih fun x hx => hs x (List.mem_cons_of_mem _ hx), trA_trA (hs a List.mem_cons_self)]
/-! ### the mathematics of patterns -/
def dfl (x d : Str) : Str := if x = "" then d else x
theorem okp_dfl (p d : Str) : okp p (dfl p d) = true := by
  unfold dfl okp
  by_cases h : p = ""
  · rw [h]
    simp
  · rw [if_neg h]
    simp
theorem okp_none (a : Str) : okp "" a = true := by
  unfold okp
  simp
theorem okp_blank (o : Str) : okp o "" = decide (o = "") := by
  by_cases h : o = ""
  · rw [h, okp_none]
    simp
  · rw [okp_full h]
theorem okp_wit {o p d : Str} (h : o = d → o = "") : okp o (dfl p d) = okp o p := by
  unfold dfl
  by_cases hp : p = ""
  · rw [if_pos hp, hp, okp_blank]
    by_cases ho : o = ""
    · rw [ho, okp_none]
      simp
    · rw [okp_full ho, decide_eq_false ho, decide_eq_false (fun e => ho (h e))]
  · rw [if_neg hp]
theorem okp_trans {o p a : Str} (h1 : okp o p = true) (h2 : okp p a = true) : okp o a = true := by
  by_cases ho : o = ""
  · rw [ho, okp_none]
  · rw [okp_full ho] at h1 ⊢
    have e := of_decide_eq_true h1
    subst e
    rw [okp_full ho] at h2
    exact h2
theorem fitB_trans {o p a : A3} (h1 : fitB o p = true) (h2 : fitB p a = true) : fitB o a = true := by
  rw [fitB_eq] at h1 h2 ⊢
  simp only [Bool.and_eq_true] at h1 h2 ⊢
  exact ⟨okp_trans h1.1 h2.1, okp_trans h1.2.1 h2.2.1, okp_trans h1.2.2 h2.2.2⟩
/-- an atom of p with other parts where p is blank -/
def wit (p : A3) (r n : Str) : A3 := (dfl p.1 r, dfl p.2.1 n, dfl p.2.2 n)
theorem fitB_wit (p : A3) (r n : Str) : fitB p (wit p r n) = true := by
  rw [fitB_eq]
  show (okp p.1 (dfl p.1 r) && (okp p.2.1 (dfl p.2.1 n) && okp p.2.2 (dfl p.2.2 n))) = true
  rw [okp_dfl, okp_dfl, okp_dfl]
  rfl
theorem mem_allA' {ns : List Str} {a : A3} (h1 : isR3 a.1 = true) (h2 : a.2.1 ∈ ns) (h3 : a.2.2 ∈ ns) : a ∈ allA ns := by
  refine List.mem_flatMap.mpr ⟨a.2.1, h2, List.mem_flatMap.mpr ⟨a.2.2, h3, ?_⟩⟩
  obtain ⟨r, l, t⟩ := a
  show (r, l, t) ∈ [(("eq" : Str), l, t), ("lt", l, t), ("gt", l, t)]
  rcases isR_cases (isR_of h1) with rfl | rfl | rfl | rfl
  · simp
  · simp
  · simp
  · exact absurd rfl (isR3_ne h1)
theorem isR3_of {r : Str} (h : isR r = true) (h2 : r ≠ "") : isR3 r = true := by
  rcases isR_cases h with rfl | rfl | rfl | rfl
  · decide +kernel
  · decide +kernel
  · decide +kernel
  · exact absurd rfl h2
def good (l0 : Str) (rest : List Str) (p : A3) : Prop := isR p.1 = true ∧ (p.2.1 = "" ∨ p.2.1 ∈ rest) ∧ (p.2.2 = "" ∨ p.2.2 ∈ rest)
theorem wit_mem {l0 : Str} {rest : List Str} {p : A3} {r : Str} (h : good l0 rest p) (hr : isR3 r = true) : wit p r l0 ∈ allA (l0 :: rest) := by
  obtain ⟨h1, h2, h3⟩ := h
  have part : ∀ z : Str, (z = "" ∨ z ∈ rest) → dfl z l0 ∈ l0 :: rest := fun z hz => by
    unfold dfl
    by_cases e : z = ""
    · rw [if_pos e]
      exact List.mem_cons_self
    · rw [if_neg e]
      exact List.mem_cons_of_mem _ (hz.resolve_left e)
  refine mem_allA' ?_ (part _ h2) (part _ h3)
  show isR3 (dfl p.1 r) = true
  unfold dfl
  by_cases e : p.1 = ""
  · rw [if_pos e]
    exact hr
  · rw [if_neg e]
    exact isR3_of h1 e
theorem narrow_iff {l0 : Str} {rest : List Str} {p o : A3} (hn : (l0 :: rest).Nodup) (hne : ∀ z ∈ l0 :: rest, z ≠ "") (hp : good l0 rest p) (ho : good l0 rest o) :
    (((allA (l0 :: rest)).filter (fitB p)).filter fun a => !fitB o a).isEmpty = fitB o p := by
  have nl : ∀ z : Str, (z = "" ∨ z ∈ rest) → z = l0 → z = "" := fun z hz e => by
    rcases hz with h | h
    · exact h
    · exact absurd (e ▸ h) (List.nodup_cons.mp hn).1
  obtain ⟨r, hr, hro⟩ : ∃ r : Str, isR3 r = true ∧ o.1 ≠ r := by
    by_cases e : o.1 = "eq"
    · exact ⟨"lt", by decide +kernel, by rw [e]; decide +kernel⟩
    · exact ⟨"eq", by decide +kernel, e⟩
  have hw : fitB o (wit p r l0) = fitB o p := by
    rw [fitB_eq, fitB_eq]
    show (okp o.1 (dfl p.1 r) && (okp o.2.1 (dfl p.2.1 l0) && okp o.2.2 (dfl p.2.2 l0))) = _
    rw [okp_wit (fun e => absurd e hro), okp_wit (nl _ ho.2.1), okp_wit (nl _ ho.2.2)]
  cases hf : fitB o p with
  | true =>
    rw [List.isEmpty_iff]
    apply List.filter_eq_nil_iff.mpr
    intro a ha
    rw [fitB_trans hf (List.mem_filter.mp ha).2]
    decide
  | false =>
    rw [← Bool.not_eq_true, List.isEmpty_iff]
    intro e
    have m : wit p r l0 ∈ ((allA (l0 :: rest)).filter (fitB p)).filter fun a => !fitB o a := List.mem_filter.mpr ⟨List.mem_filter.mpr ⟨wit_mem hp hr, fitB_wit _ _ _⟩, by rw [hw, hf]; rfl⟩
    rw [e] at m
    cases m
theorem both_self (a : A3) : bothA a a = some a := by
  have c : ∀ x : Str, cfl x x = false := fun x => by simp [cfl]
  have m : ∀ x : Str, mg1 x x = x := fun x => by simp [mg1]
  unfold bothA
  rw [c, c, c, m, m, m]
  rfl
theorem cfl_comm (x y : Str) : cfl x y = cfl y x := by
  unfold cfl
  by_cases h1 : x = "" <;> by_cases h2 : y = "" <;> by_cases h3 : x = y <;> simp [h1, h2, h3, eq_comm]
theorem mg1_comm {x y : Str} (h : cfl x y = false) : mg1 x y = mg1 y x := by
  unfold cfl at h
  unfold mg1
  by_cases h1 : x = "" <;> by_cases h2 : y = "" <;> by_cases h3 : x = y <;> simp_all
theorem both_comm (a b : A3) : bothA a b = bothA b a := by
  unfold bothA
  rw [cfl_comm a.1 b.1, cfl_comm a.2.1 b.2.1, cfl_comm a.2.2 b.2.2]
  by_cases h : (cfl b.1 a.1 || (cfl b.2.1 a.2.1 || cfl b.2.2 a.2.2)) = true
  · rw [if_pos h, if_pos h]
  · rw [if_neg h, if_neg h]
    have h' : cfl b.1 a.1 = false ∧ cfl b.2.1 a.2.1 = false ∧ cfl b.2.2 a.2.2 = false := by
      cases h1 : cfl b.1 a.1 <;> cases h2 : cfl b.2.1 a.2.1 <;> cases h3 : cfl b.2.2 a.2.2 <;> simp [h1, h2, h3] at h ⊢
    rw [mg1_comm h'.1, mg1_comm h'.2.1, mg1_comm h'.2.2]
theorem okp_mg {x y a : Str} (h : cfl x y = false) : okp (mg1 x y) a = (okp x a && okp y a) := by
  unfold cfl at h
  unfold mg1
  by_cases h1 : x = ""
  · rw [if_pos h1, h1, okp_none, Bool.true_and]
  · rw [if_neg h1]
    by_cases h2 : y = ""
    · rw [h2, okp_none, Bool.and_true]
    · have h3 : x = y := by
        rw [decide_eq_false h1, decide_eq_false h2] at h
        simpa using h
      rw [h3, Bool.and_self]
theorem okp_cfl {x y a : Str} (h : cfl x y = true) : (okp x a && okp y a) = false := by
  unfold cfl at h
  simp only [Bool.and_eq_true, Bool.not_eq_true', decide_eq_false_iff_not] at h
  obtain ⟨h1, h2, h3⟩ := h
  rw [okp_full h1, okp_full h2]
  by_cases e : x = a
  · rw [decide_eq_false (show ¬ y = a from fun e2 => h3 (e.trans e2.symm)), Bool.and_false]
  · rw [decide_eq_false e, Bool.false_and]
theorem both_fit {p o m : A3} (h : bothA p o = some m) (a : A3) : fitB m a = (fitB p a && fitB o a) := by
  unfold bothA at h
  by_cases c : (cfl p.1 o.1 || (cfl p.2.1 o.2.1 || cfl p.2.2 o.2.2)) = true
  · rw [if_pos c] at h
    cases h
  · rw [if_neg c] at h
    cases h
    have h' : cfl p.1 o.1 = false ∧ cfl p.2.1 o.2.1 = false ∧ cfl p.2.2 o.2.2 = false := by
      cases h1 : cfl p.1 o.1 <;> cases h2 : cfl p.2.1 o.2.1 <;> cases h3 : cfl p.2.2 o.2.2 <;> simp [h1, h2, h3] at c ⊢
    rw [fitB_eq, fitB_eq, fitB_eq]
    show (okp (mg1 p.1 o.1) a.1 && (okp (mg1 p.2.1 o.2.1) a.2.1 && okp (mg1 p.2.2 o.2.2) a.2.2)) = _
    rw [okp_mg h'.1, okp_mg h'.2.1, okp_mg h'.2.2]
    cases okp p.1 a.1 <;> cases okp p.2.1 a.2.1 <;> cases okp p.2.2 a.2.2 <;> cases okp o.1 a.1 <;> cases okp o.2.1 a.2.1 <;> cases okp o.2.2 a.2.2 <;> rfl
theorem both_nofit {p o : A3} (h : bothA p o = none) (a : A3) : (fitB p a && fitB o a) = false := by
  unfold bothA at h
  by_cases c : (cfl p.1 o.1 || (cfl p.2.1 o.2.1 || cfl p.2.2 o.2.2)) = true
  · rw [fitB_eq, fitB_eq]
    simp only [Bool.or_eq_true] at c
    rcases c with c | c | c
    · have q := okp_cfl (a := a.1) c
      cases h1 : okp p.1 a.1 <;> cases h2 : okp o.1 a.1 <;> simp [h1, h2] at q ⊢
    · have q := okp_cfl (a := a.2.1) c
      cases h1 : okp p.2.1 a.2.1 <;> cases h2 : okp o.2.1 a.2.1 <;> simp [h1, h2] at q ⊢
    · have q := okp_cfl (a := a.2.2) c
      cases h1 : okp p.2.2 a.2.2 <;> cases h2 : okp o.2.2 a.2.2 <;> simp [h1, h2] at q ⊢
  · rw [if_neg c] at h
    cases h
theorem both_good {l0 : Str} {rest : List Str} {p o m : A3} (hp : good l0 rest p) (ho : good l0 rest o) (h : bothA p o = some m) : good l0 rest m := by
  unfold bothA at h
  by_cases c : (cfl p.1 o.1 || (cfl p.2.1 o.2.1 || cfl p.2.2 o.2.2)) = true
  · rw [if_pos c] at h
    cases h
  · rw [if_neg c] at h
    cases h
    have part : ∀ {P : Str → Prop} {x y : Str}, P x → P y → P (mg1 x y) := fun {P x y} hx hy => by
      unfold mg1
      by_cases e : x = ""
      · rw [if_pos e]
        exact hy
      · rw [if_neg e]
        exact hx
    exact ⟨part (P := fun z => isR z = true) hp.1 ho.1, part (P := fun z => z = "" ∨ z ∈ rest) hp.2.1 ho.2.1, part (P := fun z => z = "" ∨ z ∈ rest) hp.2.2 ho.2.2⟩
theorem shared_none {l0 : Str} {rest : List Str} {p o : A3} (hp : good l0 rest p) (ho : good l0 rest o) : (((allA (l0 :: rest)).filter (fitB p)).filter (fitB o)).isEmpty = (bothA p o).isNone := by
  cases hb : bothA p o with
  | none =>
    show _ = true
    rw [List.isEmpty_iff]
    apply List.filter_eq_nil_iff.mpr
    intro a ha
    have q := both_nofit hb a
    rw [(List.mem_filter.mp ha).2, Bool.true_and] at q
    rw [q]
    decide
  | some m =>
    show _ = false
    rw [← Bool.not_eq_true, List.isEmpty_iff]
    intro e
    have f := both_fit hb (wit m "eq" l0)
    rw [fitB_wit] at f
    have f := f.symm
    rw [Bool.and_eq_true] at f
    have mm : wit m "eq" l0 ∈ ((allA (l0 :: rest)).filter (fitB p)).filter (fitB o) := List.mem_filter.mpr ⟨List.mem_filter.mpr ⟨wit_mem (both_good hp ho hb) (by decide +kernel), f.1⟩, f.2⟩
    rw [e] at mm
    cases mm
theorem any_at (its : List A3) (a : A3) : ((its.map atD).any fun z => PyData.eqv z (atD a)) = decide (a ∈ its) := by
  induction its with
  | nil => rfl
  | cons b bs ih =>
    rw [List.map_cons, List.any_cons, ih, eqv_at]
    by_cases h1 : b = a
    · subst h1
      simp
    · have h2 : ¬ a = b := fun e => h1 e.symm
      simp [h1, h2]
theorem mem_fit {atoms : List A3} {a : A3} (o : A3) (h : a ∈ atoms) : decide (a ∈ atoms.filter (fitB o)) = fitB o a := by
  by_cases e : fitB o a = true
  · rw [e]
    exact decide_eq_true (List.mem_filter.mpr ⟨h, e⟩)
  · rw [decide_eq_false (fun m => e (List.mem_filter.mp m).2)]
    simp at e
    exact e.symm
end Own

namespace Own
open PySem PySem.Spec PyProof.Rows L2 Evl
abbrev s_law : Stmt := top 14
theorem sc_law : FnScope ["_law_script", "_law_bag_here", "_law_spin", "_law_labels", "_law_atoms", "_law_one", "_law_other", "_law_k", "_law_piece", "_law_mine", "_law_its", "_law_atom_here", "_law_pattern_here", "_law_found", "_law_due", "_law_shared"] ["_law_script"] (defScope s_law) := ⟨rfl, rfl, rfl, by decide +kernel, rfl, by decide +kernel, by decide +kernel⟩
section
variable {X : Cx} {s : Shared} {H : Hp} {sc : Scope} {ce : Env} {fp : List Addr}
theorem opInDB {k : Nat} (hr : Room k X.A) : OpR (X.blk s H sc ce fp) (compareOp .In) (rInD X.K) := op_inD (X := X.blk s H sc ce fp) (by have := hr.un; show X.A.units + 65 < cLine; omega)
theorem opNotInDB {k : Nat} (hr : Room k X.A) : OpR (X.blk s H sc ce fp) (compareOp .NotIn) (rNotInD X.K) := op_notInD (X := X.blk s H sc ce fp) (by have := hr.un; show X.A.units + 65 < cLine; omega)
theorem piAnyB {tg l : Expr} {tl : TE} (hl : PE (X.blk s H sc ce fp) l tl) : PI (X.blk s H sc ce fp) tg l (iAny X.K tl) := piAny hl
theorem pe_orTB {a b : Expr} {rest : List Expr} {pos : Pos} {ta tb : TE} (ha : PE (X.blk s H sc ce fp) a ta) (hb : PE (X.blk s H sc ce fp) (.BoolOp .Or (b :: rest) pos) tb) : PE (X.blk s H sc ce fp) (.BoolOp .Or (a :: b :: rest) pos) (tOrT X.K ta tb) := pe_orT ha hb
end
theorem len_ne {x : Str} (h : x ≠ "") : ((x.length : Int) != 0) = true := by
  have z : ((x.length : Nat) : Int) ≠ 0 := PyProof.Rows.lenZ_ne_of_beq_emptyS (beq_eq_false_iff_ne.mpr h)
  exact bne_iff_ne.mpr z
theorem eqv_nilA (as : List A3) : PyData.eqv (.list (as.map atD)) (.list []) = as.isEmpty := by
  cases as <;> rfl
/-- all but D stands; tuples stand -/
def REx (D : Addr) (H H' : Hp) : Prop := ExB D H H' ∧ TEx H H'
theorem REx.of {D : Addr} {H H' : Hp} (e : Ex H H') : REx D H H' := ⟨fun a o _ h => e a o h, TEx.of e⟩
/-- a comprehension whose turns may give new lists -/
theorem lcG2 {J : It} {n : Nat} {G : Hp → Prop} {Y : Nat → Hp → V → Hp → Prop} (w : Walk J n G Y) {g : TG} {tt : TT} {te : TE} {vs : List Nat} {σ : L2.St} {H1 : Hp} {Q : VK} (hn : n ≤ 40000) (hG0 : G H1) (hGm : ∀ H H', Ex H H' → G H → G H') (hY : ∀ i H x H', Y i H x H' → Ex H H')
    (Pa : Addr → Nat → List V → Hp → Prop) (hm : ∀ D i ys H H', REx D H H' → Pa D i ys H → Pa D i ys H') (p0 : ∀ D H, Pa D 0 [] H)
    (hs : ∀ D i x H H' ys, i < n → H1 D = none → H' D = some (.lst ys) → Ex H1 H → Y i H x H' → Pa D i ys H' → ∀ (N : V → Hp → Prop) (N0 : Hp → Prop), (∀ y H4, Ex H' H4 → Pa D (i + 1) (ys ++ [y]) H4 → N y H4) → (∀ H3, Ex H' H3 → Pa D (i + 1) ys H3 → N0 H3) →
      g x (wipe σ vs) H' fun σ2 H2 => wipe σ2 vs = wipe σ vs ∧ tt σ2 H2 fun b H3 => if b = true then te σ2 H3 N else N0 H3)
    (k : ∀ D H2 ys, H1 D = none → Ex H1 H2 → H2 D = some (.lst ys) → ys.length ≤ n → Pa D n ys H2 → Q (.ref D) H2) : LcRest g tt te vs σ Q J H1 := by
  intro D hD
  refine lc_it w (fun i H => ∃ ys, Ex H1 H ∧ H D = some (.lst ys) ∧ ys.length ≤ i ∧ Pa D i ys H) ⟨[], Ex.new hD, upd_same, Nat.zero_le _, p0 D _⟩ (fun i H hi ⟨ys, e, _⟩ => hGm _ _ e hG0) ?_ ?_
  · rintro i x H H' hi ⟨ys, e, hd, hl, hp⟩ hy
    have e' := hY _ _ _ _ hy
    refine hs D i x H H' ys hi hD (e' _ _ hd) e hy (hm _ _ _ _ _ (REx.of e') hp) _ _ (fun y H4 e4 p4 => ?_) (fun H3 e3 p3 => ?_)
    · have d4 := e4 _ _ (e' _ _ hd)
      refine ⟨ys, d4, sz_lt (by omega), ys ++ [y], Ex.mut ((e.trans e').trans e4) hD, upd_same, ?_, hm _ _ _ _ _ ⟨(ExB.refl D H4).set, TEx.lst d4⟩ p4⟩
      rw [List.length_append]
      show ys.length + 1 ≤ i + 1
      omega
    · exact ⟨ys, (e.trans e').trans e3, e3 _ _ (e' _ _ hd), by omega, p3⟩
  · rintro H ⟨ys, e, hd, hl, hp⟩
    exact k D H ys hD e hd hl hp
theorem AllAt.filter {H : Hp} {as : List A3} {i : Nat} {v : V} {a : A3} {f : A3 → Bool} {ys : List V} (hv : AtomAt H v a) (ha : as[i]? = some a) (hy : AllAt H ys ((as.take i).filter f)) (hf : f a = true) : AllAt H (ys ++ [v]) ((as.take (i + 1)).filter f) := by
  rw [List.take_add_one, ha, List.filter_append, Option.toList, List.filter_cons, if_pos hf]
  exact AllAt.snoc hv hy
theorem AllAt.skip {H : Hp} {as : List A3} {i : Nat} {a : A3} {f : A3 → Bool} {ys : List V} (ha : as[i]? = some a) (hy : AllAt H ys ((as.take i).filter f)) (hf : f a = false) : AllAt H ys ((as.take (i + 1)).filter f) := by
  rw [List.take_add_one, ha, List.filter_append, Option.toList, List.filter_cons, if_neg (by rw [hf]; decide), List.filter_nil, List.append_nil]
  exact hy
section
variable {P : Program} {w : World} {K : PySem.W.Frag} {mg : Str → Option Value} {base : Heap}
def spLaw (K : PySem.W.Frag) : Sp := fun vs H Q _ => ∃ (a : Addr) (ns : List Int), vs = [.ref a] ∧ SqL K H a (ns.map V.int) ∧ ns.length ≤ 63 ∧ ∀ H', Q (.bl true) H'
theorem ok_law {fl : Addr} {fdl : FuncData} (T : Txt0 mg) (F : Fun K "law" "law" s_law fl fdl) (c_l_bag : CalG P w K mg base 1 "_law_bag" (spBag K)) (c_l_take : CalG P w K mg base 1 "_law_take" spTake) (c_l_names : CalG P w K mg base 2 "_law_names" spNames)
    (c_l_all_atoms : CalG P w K mg base 1 "_law_all_atoms" spAllA) (c_l_pattern : CalG P w K mg base 4 "_law_pattern" spPattern) (c_narrower : CalG P w K mg base 1 "narrower" spNarrow) (c_both : CalG P w K mg base 1 "both" spBoth)
    (c_fits : CalG P w K mg base 1 "fits" spFits) (c_l_fits : CalG P w K mg base 1 "_law_fits" spFits) (c_l_alike : CalG P w K mg base 1 "_law_alike" (spAlike K)) : FnG P w K mg base 6 fl fdl ["_law_script"] (spLaw K) := by
  refine fn_mk F sc_law (fun vs H Q E h => ?_) (fun cdv A outer s H vs Q E hr hG h => ?_)
  · obtain ⟨a, ns, rfl, _⟩ := h
    rfl
  · obtain ⟨a, ms, rfl, ha, hl, q⟩ := h
    refine ⟨_, (pss_cons (ps_set (i := 1) sc_law.nd rfl (Or.inr rfl) (pe_cG c_l_bag hr hG (by decide) rfl (pa_cons (pv 0) pa_nil)))
      (pss_cons (ps_forO (ps_for PassesOwn.never rfl (pi_range1 rfl T.range (pa_cons pe_int pa_nil)) (pg_name (i := 2) sc_law.nd rfl (Or.inl rfl))
        (pss_cons (ps_set (i := 3) sc_law.nd rfl (Or.inr rfl) (pe_cG c_l_names hr hG (by decide) rfl (pa_cons (pv 1) (pa_cons (pe_op opAdd pe_int (pe_cG c_l_take hr hG (by decide) rfl (pa_cons (pv 1) (pa_cons pe_int pa_nil)))) pa_nil))))
      (pss_cons (ps_set (i := 4) sc_law.nd rfl (Or.inr rfl) (pe_cG c_l_all_atoms hr hG (by decide) rfl (pa_cons (pv 3) pa_nil)))
      (pss_cons (ps_asg (pe_lcO (pe_lc (own := [("_law_k", 7)]) rfl sc_law.nd (pi_range1 rfl T.range (pa_cons pe_int pa_nil)) (blkOk_by (own := [("_law_k", 7)]) (N := ["_law_script", "_law_bag_here", "_law_spin", "_law_labels", "_law_atoms", "_law_one", "_law_other", "_law_k", "_law_piece", "_law_mine", "_law_its", "_law_atom_here", "_law_pattern_here", "_law_found", "_law_due", "_law_shared"]) (sc := defScope s_law) (by first | decide +kernel | kernel_rfl)) (fun _ _ _ _ _ => pg_name (i := 7) sc_law.nd rfl (Or.inl rfl)) (fun _ _ _ _ _ => pts_nil) (fun _ _ _ _ _ => pe_cG c_l_pattern hr hG (by decide) rfl (pa_cons (pv 1) (pa_cons (pe_slice slAnyB (pv 3) (po_some pe_int) po_none) pa_nil))))) (pg_unl rfl (pgs_cons (pg_name (i := 5) sc_law.nd rfl (Or.inr rfl)) (pgs_cons (pg_name (i := 6) sc_law.nd rfl (Or.inr rfl)) pgs_nil))))
      (Evl.pss_cut (ps_if (pt_cmpR (opEq hr) (pe_cG c_l_take hr hG (by decide) rfl (pa_cons (pv 1) (pa_cons pe_int pa_nil))) pe_int (nomark _)) (pss_one (ps_set (i := 6) sc_law.nd rfl (Or.inr rfl) (pe_callTy call_tuple_of (by rfl) T.tuple (by decide +kernel) (pa_cons (pe_lcO (pe_lc (own := [("_law_piece", 8)]) rfl sc_law.nd (piAny (pv 5)) (blkOk_by (own := [("_law_piece", 8)]) (N := ["_law_script", "_law_bag_here", "_law_spin", "_law_labels", "_law_atoms", "_law_one", "_law_other", "_law_k", "_law_piece", "_law_mine", "_law_its", "_law_atom_here", "_law_pattern_here", "_law_found", "_law_due", "_law_shared"]) (sc := defScope s_law) (by first | decide +kernel | kernel_rfl)) (fun _ _ _ _ _ => pg_name (i := 8) sc_law.nd rfl (Or.inl rfl)) (fun _ _ _ _ _ => pts_nil) (fun _ _ _ _ _ => pe_op op_mulS (pv 8) (pe_callTy call_int1 (by rfl) T.int (by decide +kernel) (pa_cons (pe_cmpR opGt (pe_cG c_l_take hr hG (by decide) rfl (pa_cons (pv 1) (pa_cons pe_int pa_nil))) pe_int (nomark _)) pa_nil))))) pa_nil)))) pss_nil)
      (pss_cons (ps_asg (pe_lcO (pe_lc (own := [("_law_pattern_here", 12)]) rfl sc_law.nd (piAny (pe_tup (pa_cons (pv 5) (pa_cons (pv 6) pa_nil)))) (blkOk_by (own := [("_law_pattern_here", 12)]) (N := ["_law_script", "_law_bag_here", "_law_spin", "_law_labels", "_law_atoms", "_law_one", "_law_other", "_law_k", "_law_piece", "_law_mine", "_law_its", "_law_atom_here", "_law_pattern_here", "_law_found", "_law_due", "_law_shared"]) (sc := defScope s_law) (by first | decide +kernel | kernel_rfl)) (fun _ _ _ _ _ => pg_name (i := 12) sc_law.nd rfl (Or.inr rfl) (hf := .inl rfl)) (fun _ _ _ _ _ => pts_nil) (fun _ _ _ _ _ => pe_lcO (pe_lc (own := [("_law_atom_here", 11)]) rfl sc_law.nd (piAnyB (pv 4)) (blkOk_by (own := [("_law_atom_here", 11)]) (N := ["_law_script", "_law_bag_here", "_law_spin", "_law_labels", "_law_atoms", "_law_one", "_law_other", "_law_k", "_law_piece", "_law_mine", "_law_its", "_law_atom_here", "_law_pattern_here", "_law_found", "_law_due", "_law_shared"]) (by first | decide +kernel | kernel_rfl)) (fun _ _ _ _ _ => pg_name (i := 11) sc_law.nd rfl (Or.inl rfl)) (fun _ _ _ _ _ => pts_one (pt_val (pe_cG c_l_fits hr hG (by decide) rfl (pa_cons (pv 12) (pa_cons (pv 11) pa_nil))))) (fun _ _ _ _ _ => pv 11))))) (pg_unl rfl (pgs_cons (pg_name (i := 9) sc_law.nd rfl (Or.inr rfl)) (pgs_cons (pg_name (i := 10) sc_law.nd rfl (Or.inr rfl)) pgs_nil))))
      (pss_cons (ps_set (i := 13) sc_law.nd rfl (Or.inl rfl) (pe_lst (pa_cons (pe_cG c_narrower hr hG (by decide) rfl (pa_cons (pv 5) (pa_cons (pv 6) pa_nil))) (pa_cons (pe_cG c_narrower hr hG (by decide) rfl (pa_cons (pv 6) (pa_cons (pv 5) pa_nil))) (pa_cons (pe_cG c_narrower hr hG (by decide) rfl (pa_cons (pv 5) (pa_cons (pv 5) pa_nil))) (pa_cons (pe_cmpR (opEq hr) (pe_cG c_both hr hG (by decide) rfl (pa_cons (pv 5) (pa_cons (pv 5) pa_nil))) (pv 5) (nomark _)) pa_nil))))))
      (pss_cons (ps_set (i := 14) sc_law.nd rfl (Or.inr rfl) (pe_lst (pa_cons (pe_cmpR (opEq hr) (pe_lcO (pe_lc (own := [("_law_atom_here", 11)]) rfl sc_law.nd (piAny (pv 9)) (blkOk_by (own := [("_law_atom_here", 11)]) (N := ["_law_script", "_law_bag_here", "_law_spin", "_law_labels", "_law_atoms", "_law_one", "_law_other", "_law_k", "_law_piece", "_law_mine", "_law_its", "_law_atom_here", "_law_pattern_here", "_law_found", "_law_due", "_law_shared"]) (sc := defScope s_law) (by first | decide +kernel | kernel_rfl)) (fun _ _ _ _ _ => pg_name (i := 11) sc_law.nd rfl (Or.inl rfl)) (fun _ _ _ _ _ => pts_one (pt_cmpR (opNotInDB hr) (pv 11) (pv 10) rfl)) (fun _ _ _ _ _ => pv 11))) (pe_lst pa_nil) (nomark _)) (pa_cons (pe_cmpR (opEq hr) (pe_lcO (pe_lc (own := [("_law_atom_here", 11)]) rfl sc_law.nd (piAny (pv 10)) (blkOk_by (own := [("_law_atom_here", 11)]) (N := ["_law_script", "_law_bag_here", "_law_spin", "_law_labels", "_law_atoms", "_law_one", "_law_other", "_law_k", "_law_piece", "_law_mine", "_law_its", "_law_atom_here", "_law_pattern_here", "_law_found", "_law_due", "_law_shared"]) (sc := defScope s_law) (by first | decide +kernel | kernel_rfl)) (fun _ _ _ _ _ => pg_name (i := 11) sc_law.nd rfl (Or.inl rfl)) (fun _ _ _ _ _ => pts_one (pt_cmpR (opNotInDB hr) (pv 11) (pv 9) rfl)) (fun _ _ _ _ _ => pv 11))) (pe_lst pa_nil) (nomark _)) pa_nil))))
      (pss_cons (ps_if (pt_not (pt_val (pe_cG c_l_alike hr hG (by decide) rfl (pa_cons (pv 13) (pa_cons (pe_op opAdd (pv 14) (pe_lst (pa_cons pe_bl (pa_cons pe_bl pa_nil)))) pa_nil))))) (pss_one (ps_ret pe_bl)) pss_nil)
      (pss_cons (ps_setLcO (ps_setLc (i := 15) (own := [("_law_atom_here", 11)]) rfl sc_law.nd rfl rfl (sw_true rfl rfl rfl (by decide +kernel)) (piAny (pv 9)) (blkOk_by (own := [("_law_atom_here", 11)]) (N := ["_law_script", "_law_bag_here", "_law_spin", "_law_labels", "_law_atoms", "_law_one", "_law_other", "_law_k", "_law_piece", "_law_mine", "_law_its", "_law_atom_here", "_law_pattern_here", "_law_found", "_law_due", "_law_shared"]) (sc := defScope s_law) (by first | decide +kernel | kernel_rfl)) (fun _ _ _ _ _ => pg_name (i := 11) sc_law.nd rfl (Or.inl rfl)) (fun _ _ _ _ _ => pts_one (pt_cmpR (opInDB hr) (pv 11) (pv 10) rfl)) (fun _ _ _ _ _ => pv 11)))
      (Evl.pss_cut (ps_set (i := 14) sc_law.nd rfl (Or.inr rfl) (pe_ifExp (pt_cmpR (opEq hr) (pv 15) (pe_lst pa_nil) (nomark _)) pe_non (pe_callTy call_tuple_of (by rfl) T.tuple (by decide +kernel) (pa_cons (pe_lcO (pe_lc (own := [("_law_k", 7)]) rfl sc_law.nd (pi_range1 rfl T.range (pa_cons pe_int pa_nil)) (blkOk_by (own := [("_law_k", 7)]) (N := ["_law_script", "_law_bag_here", "_law_spin", "_law_labels", "_law_atoms", "_law_one", "_law_other", "_law_k", "_law_piece", "_law_mine", "_law_its", "_law_atom_here", "_law_pattern_here", "_law_found", "_law_due", "_law_shared"]) (sc := defScope s_law) (by first | decide +kernel | kernel_rfl)) (fun _ _ _ _ _ => pg_name (i := 7) sc_law.nd rfl (Or.inl rfl)) (fun _ _ _ _ _ => pts_nil) (fun _ _ _ _ _ => pe_orTB (pe_ix ixAnyB (pv 5) (pv 7) (fun _ _ => rfl)) (pe_one (pe_ix ixAnyB (pv 6) (pv 7) (fun _ _ => rfl)))))) pa_nil))))
      (pss_cons (ps_if (pt_not (pt_val (pe_cG c_l_alike hr hG (by decide) rfl (pa_cons (pe_lst (pa_cons (pe_cG c_both hr hG (by decide) rfl (pa_cons (pv 5) (pa_cons (pv 6) pa_nil))) (pa_cons (pe_cG c_both hr hG (by decide) rfl (pa_cons (pv 6) (pa_cons (pv 5) pa_nil))) pa_nil))) (pa_cons (pe_lst (pa_cons (pv 14) (pa_cons (pv 14) pa_nil))) pa_nil))))) (pss_one (ps_ret pe_bl)) pss_nil)
      (pss_one (ps_if (PW.pt (pw_and (pt_cmpR op_notN (pv 14) pe_non (nomark _)) (pw_and1 (pt_cmpR (opNe hr) (pe_lcO (pe_lc (own := [("_law_atom_here", 11)]) rfl sc_law.nd (piAny (pv 4)) (blkOk_by (own := [("_law_atom_here", 11)]) (N := ["_law_script", "_law_bag_here", "_law_spin", "_law_labels", "_law_atoms", "_law_one", "_law_other", "_law_k", "_law_piece", "_law_mine", "_law_its", "_law_atom_here", "_law_pattern_here", "_law_found", "_law_due", "_law_shared"]) (sc := defScope s_law) (by first | decide +kernel | kernel_rfl)) (fun _ _ _ _ _ => pg_name (i := 11) sc_law.nd rfl (Or.inl rfl)) (fun _ _ _ _ _ => pts_one (pt_val (pe_cG c_fits hr hG (by decide) rfl (pa_cons (pv 14) (pa_cons (pv 11) pa_nil))))) (fun _ _ _ _ _ => pv 11))) (pv 15) (nomark _))))) (pss_one (ps_ret pe_bl)) pss_nil)))))))))))))))
      (pss_one (ps_ret pe_bl)))), ?_⟩
    refine ⟨_, rfl, a, ms, rfl, ha, hl, fun H1 b e1 hb => ?_⟩
    refine ⟨10, rfl, by decide, by decide, ?_⟩
    refine frG (walk_range (lo := 0) (n := 10)) (fun i σ H' => ∃ x2 x3 x4 x5 x6 x9 x10 x13 x14 x15 : Option V, σ = [some (.ref a), some (.ref b), x2, x3, x4, x5, x6, none, none, x9, x10, none, none, x13, x14, x15] ∧ Ex H1 H') ⟨_, _, _, _, _, _, _, _, _, _, rfl, Ex.refl _⟩ (fun _ _ _ _ _ => trivial) ?_ ?_
    · rintro i x σ H2 H3 hi ⟨x2, x3, x4, x5, x6, x9, x10, x13, x14, x15, rfl, e2⟩ ⟨rfl, rfl⟩
      -- labels
      refine ⟨_, rfl, _, rfl, b, 2, rfl, hb.ex e2, by decide, by decide, fun H4 r r0 r1 e4 => .inl ⟨3, r, rfl, rfl, ?_⟩⟩
      have e24 := e2.trans e4
      refine ⟨b, _, rfl, hb.ex e24, by omega, by omega, fun H5 p L e5 hpn hp hnl hnd hnm => ?_⟩
      have e25 := e24.trans e5
      obtain ⟨l0, l1, rest', rfl⟩ : ∃ l0 l1 rest', L = l0 :: l1 :: rest' := by
        match L, hnl with
        | [], h => simp at h; omega
        | [_], h => simp at h; omega
        | l0 :: l1 :: r', _ => exact ⟨l0, l1, r', rfl⟩
      obtain ⟨rest, hrest⟩ : ∃ rest, l1 :: rest' = rest := ⟨_, rfl⟩
      rw [hrest] at hp hnl hnd hnm
      have hrne : rest ≠ [] := by rw [← hrest]; simp
      have hll : (l0 :: rest).length ≤ 4 := by
        have z : ((l0 :: rest).length : Int) = 3 + r := hnl
        omega
      have hrl : rest.length ≤ 3 := by rw [List.length_cons] at hll; omega
      have hne : ∀ z ∈ l0 :: rest, z ≠ "" := fun z hz => nm_ne (hnm z hz)
      have hnr : ∀ z ∈ rest, isNm z = true := fun z hz => hnm z (List.mem_cons_of_mem _ hz)
      -- atoms
      refine ⟨_, rfl, p, l0 :: rest, rfl, hp, by omega, fun H6 la xs e6 hlan hla hA hxl3 => ?_⟩
      have e26 := e25.trans e6
      have hp6 := e6 _ _ hp
      have hlA := hA.len
      obtain ⟨A, hAe⟩ : ∃ A, allA (l0 :: rest) = A := ⟨_, rfl⟩
      -- one, other
      refine ⟨2, rfl, by decide, by decide, ?_⟩
      refine lcG (walk_range (lo := 0) (n := 2)) (by decide) trivial (fun _ _ _ _ => trivial) yFn_ex (fun i ys H' => ∃ as : List A3, AllAt H' ys as ∧ as.length = i ∧ ∀ a ∈ as, good l0 rest a)
        (fun _ _ _ _ e ⟨as, h1, h2⟩ => ⟨as, h1.tex e, h2⟩) ⟨[], trivial, rfl, fun a ha => by cases ha⟩ ?_ ?_
      · rintro j x H7 H8 ys hj e7 ⟨rfl, rfl⟩ ⟨as, hB, hal, hR⟩ N N0 kN kN0
        refine ⟨rfl, ?_⟩
        refine ⟨_, rfl, _, rfl, 1, rfl, .inl ⟨p, _, rfl, sq_of (e7 _ _ hp6), fun ls hls => ?_⟩⟩
        generalize hq9 : upd H8 ls _ = H9
        obtain ⟨e9, h9⟩ := gen1 hq9 hls
        have h9 : H9 ls = some (.lst (rest.map V.str)) := by
          rw [h9, show (some (1 : Int)) = some ((1 : Nat) : Int) from rfl, cut_from]
          rfl
        refine ⟨b, ls, rest, rfl, hb.ex ((e26.trans e7).trans e9), h9, hrne, by omega, fun H10 v a1 e10 hv hR1 h1 h2 => ?_⟩
        refine kN _ _ (e9.trans e10) ⟨as ++ [a1], AllAt.snoc hv (hB.tex (TEx.of (e9.trans e10))), by rw [List.length_append, hal]; rfl, fun x hx => ?_⟩
        rcases List.mem_append.mp hx with hx | hx
        · exact hR x hx
        · rw [List.mem_singleton] at hx
          rw [hx]
          exact ⟨hR1, h1, h2⟩
      · rintro D7 H7 ys hD7 e7 h7 _ ⟨as, hB, hal, hR⟩
        have hyl : ys.length = 2 := by rw [hB.len, hal]
        obtain ⟨v1, v2, rfl⟩ : ∃ v1 v2, ys = [v1, v2] := by
          match ys, hyl with
          | [v1, v2], _ => exact ⟨v1, v2, rfl⟩
        obtain ⟨one, oth, rfl⟩ : ∃ a1 a2, as = [a1, a2] := by
          match as, hal with
          | [a1, a2], _ => exact ⟨a1, a2, rfl⟩
        obtain ⟨hv1, hv2, _⟩ := hB
        have g1 := hR one (by simp)
        have go := hR oth (by simp)
        refine ⟨D7, _, rfl, sq_of h7, rfl, _, _, rfl, _, _, rfl, rfl, ?_⟩
        have e27 := e26.trans e7
        -- other = ..
        refine ⟨fun σ' H' => ∃ (vo : V) (o : A3), σ' = [some (.ref a), some (.ref b), some (.int (0 + (i : Int))), some (.ref p), some (.ref la), some v1, some vo, none, none, x9, x10, none, none, x13, x14, x15] ∧ Ex H7 H' ∧ AtomAt H' vo o ∧ good l0 rest o, ?_, ?_⟩
        · refine ⟨_, rfl, b, 2, rfl, hb.ex e27, by decide, by decide, fun H8 r r0 r1 e8 => .inl ⟨rfl, _, rfl, ?_⟩⟩
          refine ite2 (fun _ => ?_) (fun _ => ⟨v2, oth, rfl, e8, hv2.ex e8, go⟩)
          obtain ⟨p1, rfl, hp1⟩ := hv1.ex e8
          refine .inr (.inl ⟨_, rfl, p1, rfl, ⟨_, st_of hp1⟩, ?_⟩)
          refine lcG (walk_tup (xs := (sl3 one).map V.str)) (by show 3 ≤ 40000; decide) (st_of hp1) (fun _ _ e h => ex_t e h) yAt_ex (fun i ys _ => ∃ zs : List Str, ys = zs.map V.str ∧ zs.length = i ∧ ∀ (j : Nat) z, zs[j]? = some z → z = "" ∨ (sl3 one)[j]? = some z) (fun _ _ _ _ _ h => h) ⟨[], rfl, rfl, fun j z hz => by simp at hz⟩ ?_ ?_
          · rintro j x H9 H10 ys hj e9 ⟨rfl, hx⟩ ⟨zs, rfl, hzl, hzs⟩ N N0 kN kN0
            obtain ⟨z, hz, rfl⟩ := str_at hx
            refine ⟨rfl, ?_⟩
            refine ⟨_, rfl, _, rfl, b, 3, rfl, hb.ex ((e27.trans e8).trans e9), by decide, by decide, fun H11 r r0 r1 e11 => ⟨r, 0, rfl, rfl, .inr ⟨_, rfl, z, _, rfl, rfl, ?_, ?_⟩⟩⟩
            · have hz8 : z.length ≤ 8 := by
                have hm := List.mem_of_getElem? hz
                have hm : z ∈ [one.1, one.2.1, one.2.2] := hm
                have gg := gA_of hnr g1.1 g1.2.1 g1.2.2
                simp only [List.mem_cons, List.not_mem_nil, or_false] at hm
                rcases hm with rfl | rfl | rfl
                · exact gg.2.1
                · exact gg.2.2.1
                · exact gg.2.2.2
              omega
            · refine kN _ _ e11 ⟨zs ++ [if decide (0 < r) then z else Str.empty], by rw [List.map_append]; rfl, by rw [List.length_append, hzl]; rfl, fun m y hy => ?_⟩
              rw [List.getElem?_append] at hy
              split at hy
              · exact hzs m y hy
              · rename_i hm
                rw [List.getElem?_singleton] at hy
                split at hy
                · cases hy
                  have em : m = j := by omega
                  by_cases hd : decide (0 < r) = true
                  · rw [if_pos hd, em]
                    exact .inr hz
                  · rw [if_neg hd]
                    exact .inl (by decide +kernel)
                · cases hy
          · rintro lz H9 ys hlz e9 h9 _ ⟨zs, rfl, hzl, hzs⟩
            obtain ⟨z1, z2, z3, rfl⟩ : ∃ z1 z2 z3, zs = [z1, z2, z3] := by
              match zs, hzl with
              | [z1, z2, z3], _ => exact ⟨z1, z2, z3, rfl⟩
            refine ⟨lz, _, rfl, .inl ⟨sq_of h9, fun x hx => ?_⟩⟩
            refine ⟨_, (z1, z2, z3), rfl, (e8.trans e9).trans (Ex.new hx), ⟨x, rfl, upd_same⟩, ?_, ?_, ?_⟩
            · rcases hzs 0 z1 rfl with h | h
              · show isR z1 = true
                rw [h]
                decide +kernel
              · cases h
                exact g1.1
            · rcases hzs 1 z2 rfl with h | h
              · exact .inl h
              · cases h
                exact g1.2.1
            · rcases hzs 2 z3 rfl with h | h
              · exact .inl h
              · cases h
                exact g1.2.2
        · rintro σ' H8 ⟨vo, o, rfl, e8, hvo, go⟩
          have e28 := e27.trans e8
          have hv1 := hv1.ex e8
          have hla8 := (e7.trans e8) _ _ hla
          have hA8 : AllAt H8 xs A := by rw [← hAe]; exact hA.tex (TEx.of (e7.trans e8))
          -- mine, its
          refine .inr (.inl ⟨_, rfl, _, rfl, by show 2 ≤ sizeLine; decide, fun tt htt => ?_⟩)
          generalize hq9 : upd H8 tt _ = H9
          obtain ⟨e9, h9⟩ := gen1 hq9 htt
          refine ⟨tt, rfl, ⟨_, st_of h9⟩, ?_⟩
          refine lcG2 (walk_tup (xs := [v1, vo])) (by show 2 ≤ 40000; decide) (st_of h9) (fun _ _ e h => ex_t e h) yAt_ex (fun D i ys H' => ∃ ds : List Addr, ys = ds.map V.ref ∧ ds.length = i ∧ ∀ (j : Nat) d, ds[j]? = some d → d ≠ D ∧ ∃ zs, H' d = some (.lst zs) ∧ AllAt H' zs (A.filter (fitB (if j = 0 then one else o))) ∧ zs.length ≤ 3000)
            (fun D _ _ H H' r ⟨ds, h1, h2, h3⟩ => ⟨ds, h1, h2, fun j d hd => by
              obtain ⟨n, zs, k1, k2, k3⟩ := h3 j d hd
              exact ⟨n, zs, r.1 _ _ n k1, k2.tex r.2, k3⟩⟩) (fun _ _ => ⟨[], rfl, rfl, fun j d hd => by simp at hd⟩) ?_ ?_
          · rintro D j x H10 H11 ys hj hD hDl e10 ⟨rfl, hx⟩ ⟨ds, rfl, hdl, hds⟩ N N0 kN kN0
            obtain ⟨pat, hpat, hpj⟩ : ∃ pat, AtomAt H11 x pat ∧ pat = if j = 0 then one else o := by
              have q : j = 0 ∨ j = 1 := by have : j < 2 := hj; omega
              rcases q with rfl | rfl
              · cases hx
                exact ⟨one, hv1.ex (e9.trans e10), rfl⟩
              · cases hx
                exact ⟨o, hvo.ex (e9.trans e10), rfl⟩
            refine ⟨rfl, ?_⟩
            have e811 := e9.trans e10
            refine .inl ⟨_, rfl, la, rfl, ⟨_, sq_of (e811 _ _ hla8)⟩, ?_⟩
            refine lcG (walk_list (xs := xs)) (by omega) (sq_of (e811 _ _ hla8)) (fun _ _ e h => ex_l e h) yAt_ex (fun i ys H' => AllAt H' ys ((A.take i).filter (fitB pat))) (fun _ _ _ _ e h => h.tex e) trivial ?_ ?_
            · rintro k x2 H12 H13 ys2 hk e12 ⟨rfl, hx2⟩ hy M M0 kM kM0
              obtain ⟨a1, ha1, hat1⟩ := (hA8.tex (TEx.of (e811.trans e12))).at hx2
              refine ⟨rfl, ?_⟩
              refine ⟨_, rfl, _, rfl, x, x2, pat, a1, rfl, hpat.ex e12, hat1, fun H14 e14 => ⟨_, rfl, ?_⟩⟩
              cases hf : fitB pat a1 with
              | true => exact iteT ⟨_, rfl, kM _ _ e14 (AllAt.filter (hat1.ex e14) ha1 (hy.tex (TEx.of e14)) hf)⟩
              | false => exact iteF (kM0 _ e14 (AllAt.skip ha1 (hy.tex (TEx.of e14)) hf))
            · rintro Di H12 ys2 hDi e12 h12 hyl2 hy
              rw [hA8.len, List.take_length] at hy
              refine kN _ _ e12 ⟨ds ++ [Di], by rw [List.map_append]; rfl, by rw [List.length_append, hdl]; rfl, fun m d hd => ?_⟩
              rw [List.getElem?_append] at hd
              split at hd
              · obtain ⟨n, zs, k1, k2, k3⟩ := hds m d hd
                exact ⟨n, zs, e12 _ _ k1, k2.tex (TEx.of e12), k3⟩
              · rename_i hm
                rw [List.getElem?_singleton] at hd
                split at hd
                · cases hd
                  have em : m = j := by omega
                  rw [em, ← hpj]
                  refine ⟨fun z => ?_, ys2, h12, hy, by omega⟩
                  rw [z, hDl] at hDi
                  cases hDi
                · cases hd
          · rintro Dd H10 ys hDd e10 h10 _ ⟨ds, rfl, hdl, hds⟩
            obtain ⟨dm, di, rfl⟩ : ∃ dm di, ds = [dm, di] := by
              match ds, hdl with
              | [dm, di], _ => exact ⟨dm, di, rfl⟩
            obtain ⟨_, zm, hzm, hM, hzml⟩ := hds 0 dm rfl
            obtain ⟨_, zi, hzi, hI, hzil⟩ := hds 1 di rfl
            have hM : AllAt H10 zm (A.filter (fitB one)) := hM
            have hI : AllAt H10 zi (A.filter (fitB o)) := hI
            refine ⟨Dd, _, rfl, sq_of h10, rfl, _, _, rfl, _, _, rfl, rfl, ?_⟩
            -- found
            obtain ⟨M, hMe⟩ : ∃ M, A.filter (fitB one) = M := ⟨_, rfl⟩
            obtain ⟨I, hIe⟩ : ∃ I, A.filter (fitB o) = I := ⟨_, rfl⟩
            rw [hMe] at hM
            rw [hIe] at hI
            have gAA : ∀ a ∈ A, gA a := fun a ha => by
              rw [← hAe] at ha
              obtain ⟨k1, k2, k3⟩ := mem_allA ha
              exact gA_of hnm (isR_of k1) (.inr k2) (.inr k3)
            have hAl : A.length ≤ 3000 := by rw [← hAe]; omega
            have finL : ∀ L : List A3, (∀ a ∈ L, a ∈ A) → L.length ≤ 3000 → fine (.list (L.map atD)) := fun L h1 h2 => by
              refine (fin_list (n := 1) (W := 300) (m := 3000) (fun d hd => ?_) (by rw [List.length_map]; exact h2)).fine (by decide) (by decide)
              obtain ⟨a, ha, rfl⟩ := List.mem_map.mp hd
              exact (gAA a (h1 a ha)).fin
            have MA : ∀ a ∈ M, a ∈ A := fun a ha => by rw [← hMe] at ha; exact (List.mem_filter.mp ha).1
            have IA : ∀ a ∈ I, a ∈ A := fun a ha => by rw [← hIe] at ha; exact (List.mem_filter.mp ha).1
            have hMl : M.length ≤ 3000 := by rw [← hM.len]; exact hzml
            have hIl : I.length ≤ 3000 := by rw [← hI.len]; exact hzil
            have shM : SeqAt.shaped (.list (M.map atD)) = true := (finL M MA hMl).shp
            have shI : SeqAt.shaped (.list (I.map atD)) = true := (finL I IA hIl).shp
            have inM : ∀ a ∈ A, ((M.map atD).any fun z => PyData.eqv z (atD a)) = fitB one a := fun a ha => by rw [any_at, ← hMe, mem_fit one ha]
            have inI : ∀ a ∈ A, ((I.map atD).any fun z => PyData.eqv z (atD a)) = fitB o a := fun a ha => by rw [any_at, ← hIe, mem_fit o ha]
            have e810 := e9.trans e10
            have hv1 := hv1.ex e810
            have hvo := hvo.ex e810
            have g1A : gA one := gA_of hnr g1.1 g1.2.1 g1.2.2
            have goA : gA o := gA_of hnr go.1 go.2.1 go.2.2
            have nar1 := narrow_iff hnd hne g1 go
            have nar2 := narrow_iff hnd hne go g1
            rw [hAe, hMe] at nar1
            rw [hAe, hIe] at nar2
            refine ⟨_, rfl, _, rfl, v1, vo, one, o, rfl, hv1, hvo, fun H11 e11 => ?_⟩
            refine ⟨_, rfl, _, rfl, vo, v1, o, one, rfl, hvo.ex e11, hv1.ex e11, fun H12 e12 => ?_⟩
            have e1012 := e11.trans e12
            refine ⟨_, rfl, _, rfl, v1, v1, one, one, rfl, hv1.ex e1012, hv1.ex e1012, fun H13 e13 => ?_⟩
            have e1013 := e1012.trans e13
            refine ⟨_, rfl, _, rfl, v1, v1, one, one, rfl, hv1.ex e1013, hv1.ex e1013, fun H14 vb e14 hvb => ?_⟩
            rw [both_self] at hvb
            have e1014 := e1013.trans e14
            have sh1 : SeqAt.shaped (atD one) = true := (g1A.fin.fine (by decide) (by decide)).shp
            refine ⟨_, rfl, .inr ⟨_, _, OptAt.dp hvb, (hv1.ex e1014).dp, sh1, sh1, ?_⟩⟩
            refine ⟨by show 4 ≤ sizeLine; decide, fun lf hlf => ?_⟩
            generalize hq15 : upd H14 lf _ = H15
            obtain ⟨e15, h15⟩ := gen1 hq15 hlf
            rw [fitB_self, show PyData.eqv (opD (some one)) (atD one) = true from by show PyData.eqv (atD one) (atD one) = true; rw [eqv_at, decide_eq_true rfl]] at h15
            have e1015 := e1014.trans e15
            -- due
            refine .inl ⟨_, rfl, dm, rfl, ⟨_, sq_of (e1015 _ _ hzm)⟩, ?_⟩
            refine lcG (walk_list (xs := zm)) (by omega) (sq_of (e1015 _ _ hzm)) (fun _ _ e h => ex_l e h) yAt_ex (fun k ys H' => AllAt H' ys ((M.take k).filter fun x => !fitB o x)) (fun _ _ _ _ e h => h.tex e) trivial ?_ ?_
            · rintro k x Hp Hq ys hk ep ⟨rfl, hx⟩ hy N N0 kN kN0
              have eb := Ex.trans e1015 ep
              obtain ⟨a1, ha1, hat1⟩ := (hM.tex (TEx.of eb)).at hx
              have ma : a1 ∈ A := MA a1 (List.mem_of_getElem? ha1)
              refine ⟨rfl, ?_⟩
              refine ⟨_, rfl, _, rfl, atD a1, I.map atD, hat1.dp, .lst (sq_of (eb _ _ hzi)) (hI.tex (TEx.of eb)).dp, ((gAA a1 ma).fin.fine (by decide) (by decide)).shp, shI, _, rfl, ?_⟩
              rw [inI a1 ma]
              have hz := AllAt.filter (f := fun x => !fitB o x) hat1 ha1 hy
              have hn := AllAt.skip (f := fun x => !fitB o x) ha1 hy
              revert hz hn
              cases fitB o a1 with
              | true => exact fun _ hn => iteF (kN0 _ (Ex.refl _) (hn rfl))
              | false => exact fun hz _ => iteT ⟨_, rfl, kN _ _ (Ex.refl _) (hz rfl)⟩
            · rintro Dc H16 ys16 hDc e16 h16 hl16 hy16
              rw [hM.len, List.take_length] at hy16
              refine ⟨by show 0 ≤ sizeLine; decide, fun n1 hn1 => ?_⟩
              generalize hq17 : upd H16 n1 _ = H17
              obtain ⟨e17, h17⟩ := gen1 hq17 hn1
              have fl16 := (finL (M.filter fun x => !fitB o x) (fun a ha => MA a (List.mem_filter.mp ha).1) (Nat.le_trans (List.length_filter_le _ _) hMl)).shp
              refine .inr ⟨_, _, .lst (sq_of (e17 _ _ h16)) (hy16.tex (TEx.of e17)).dp, .lst (sq_of h17) .nil, fl16, by decide +kernel, ?_⟩
              rw [eqv_nilA, nar1]
              have e1017 := (e1015.trans e16).trans e17
              refine .inl ⟨_, rfl, di, rfl, ⟨_, sq_of (e1017 _ _ hzi)⟩, ?_⟩
              refine lcG (walk_list (xs := zi)) (by omega) (sq_of (e1017 _ _ hzi)) (fun _ _ e h => ex_l e h) yAt_ex (fun k ys H' => AllAt H' ys ((I.take k).filter fun x => !fitB one x)) (fun _ _ _ _ e h => h.tex e) trivial ?_ ?_
              · rintro k x Hp Hq ys hk ep ⟨rfl, hx⟩ hy N N0 kN kN0
                have eb := Ex.trans e1017 ep
                obtain ⟨a1, ha1, hat1⟩ := (hI.tex (TEx.of eb)).at hx
                have ma : a1 ∈ A := IA a1 (List.mem_of_getElem? ha1)
                refine ⟨rfl, ?_⟩
                refine ⟨_, rfl, _, rfl, atD a1, M.map atD, hat1.dp, .lst (sq_of (eb _ _ hzm)) (hM.tex (TEx.of eb)).dp, ((gAA a1 ma).fin.fine (by decide) (by decide)).shp, shM, _, rfl, ?_⟩
                rw [inM a1 ma]
                have hz := AllAt.filter (f := fun x => !fitB one x) hat1 ha1 hy
                have hn := AllAt.skip (f := fun x => !fitB one x) ha1 hy
                revert hz hn
                cases fitB one a1 with
                | true => exact fun _ hn => iteF (kN0 _ (Ex.refl _) (hn rfl))
                | false => exact fun hz _ => iteT ⟨_, rfl, kN _ _ (Ex.refl _) (hz rfl)⟩
              · rintro Dd2 H18 ys18 hDd2 e18 h18 hl18 hy18
                rw [hI.len, List.take_length] at hy18
                refine ⟨by show 0 ≤ sizeLine; decide, fun n2 hn2 => ?_⟩
                generalize hq19 : upd H18 n2 _ = H19
                obtain ⟨e19, h19⟩ := gen1 hq19 hn2
                have fl18 := (finL (I.filter fun x => !fitB one x) (fun a ha => IA a (List.mem_filter.mp ha).1) (Nat.le_trans (List.length_filter_le _ _) hIl)).shp
                refine .inr ⟨_, _, .lst (sq_of (e19 _ _ h18)) (hy18.tex (TEx.of e19)).dp, .lst (sq_of h19) .nil, fl18, by decide +kernel, ?_⟩
                rw [eqv_nilA, nar2]
                have e1019 := (e1017.trans e18).trans e19
                refine ⟨by show 2 ≤ sizeLine; decide, fun ld hld => ?_⟩
                generalize hq20 : upd H19 ld _ = H20
                obtain ⟨e20, h20⟩ := gen1 hq20 hld
                have e1020 := e1019.trans e20
                -- alike
                refine ⟨_, rfl, _, rfl, by show 2 ≤ sizeLine; decide, fun lt hlt => ?_⟩
                generalize hq21 : upd H20 lt _ = H21
                obtain ⟨e21, h21⟩ := gen1 hq21 hlt
                refine .inr (.inr (.inl ⟨ld, lt, _, _, rfl, rfl, e21 _ _ h20, h21, by show 4 ≤ sizeLine; decide, fun ls hls => ?_⟩))
                generalize hq22 : upd H21 ls _ = H22
                obtain ⟨e22, h22⟩ := gen1 hq22 hls
                have e1022 := (e1020.trans e21).trans e22
                have hf22 := (((((e16.trans e17).trans e18).trans e19).trans e20).trans e21).trans e22 _ _ h15
                refine ⟨.ref lf, .ref ls, .list [.bool (fitB o one), .bool (fitB one o), .bool true, .bool true], rfl, .lst (sq_of hf22) (.cons (.bl _) (.cons (.bl _) (.cons (.bl _) (.cons (.bl _) .nil)))), .lst (sq_of h22) (.cons (.bl _) (.cons (.bl _) (.cons (.bl _) (.cons (.bl _) .nil)))), ?_, _, rfl, iteF ?_⟩
                · refine (fin_list (n := 0) (W := 5) (m := 4) (fun d hd => ?_) (Nat.le_refl _)).fine (by decide) (by decide)
                  simp only [List.mem_cons, List.not_mem_nil, or_false] at hd
                  rcases hd with rfl | rfl | rfl | rfl <;> exact fin_bool _
                -- shared
                clear hq9 hq15 hq17 hq19 hq20 hq21 hq22
                refine .inl ⟨_, rfl, dm, rfl, ⟨_, sq_of (e1022 _ _ hzm)⟩, ?_⟩
                refine lcG (walk_list (xs := zm)) (by omega) (sq_of (e1022 _ _ hzm)) (fun _ _ e h => ex_l e h) yAt_ex (fun k ys H' => AllAt H' ys ((M.take k).filter fun x => fitB o x)) (fun _ _ _ _ e h => h.tex e) trivial ?_ ?_
                · rintro k x Hp Hq ys hk ep ⟨rfl, hx⟩ hy N N0 kN kN0
                  have eb := Ex.trans e1022 ep
                  obtain ⟨a1, ha1, hat1⟩ := (hM.tex (TEx.of eb)).at hx
                  have ma : a1 ∈ A := MA a1 (List.mem_of_getElem? ha1)
                  refine ⟨rfl, ?_⟩
                  refine ⟨_, rfl, _, rfl, atD a1, I.map atD, hat1.dp, .lst (sq_of (eb _ _ hzi)) (hI.tex (TEx.of eb)).dp, ((gAA a1 ma).fin.fine (by decide) (by decide)).shp, shI, _, rfl, ?_⟩
                  rw [inI a1 ma]
                  have hz := AllAt.filter (f := fun x => fitB o x) hat1 ha1 hy
                  have hn := AllAt.skip (f := fun x => fitB o x) ha1 hy
                  revert hz hn
                  cases fitB o a1 with
                  | true => exact fun hz _ => iteT ⟨_, rfl, kN _ _ (Ex.refl _) (hz rfl)⟩
                  | false => exact fun _ hn => iteF (kN0 _ (Ex.refl _) (hn rfl))
                · rintro Ds H23 ys23 hDs e23 h23 hl23 hy23
                  rw [hM.len, List.take_length] at hy23
                  have e1023 := e1022.trans e23
                  obtain ⟨S, hSe⟩ : ∃ S, M.filter (fitB o) = S := ⟨_, rfl⟩
                  rw [hSe] at hy23
                  have SA : ∀ a ∈ S, a ∈ A := fun a ha => by rw [← hSe] at ha; exact MA a (List.mem_filter.mp ha).1
                  have hSl : S.length ≤ 3000 := by rw [← hSe]; exact Nat.le_trans (List.length_filter_le _ _) hMl
                  have shS : SeqAt.shaped (.list (S.map atD)) = true := (finL S SA hSl).shp
                  have hsn := shared_none g1 go
                  rw [hAe, hMe, hSe] at hsn
                  have hv1 := hv1.ex e1023
                  have hvo := hvo.ex e1023
                  refine ⟨fun σ' H' => ∃ vd : V, σ' = [some (.ref a), some (.ref b), some (.int (0 + (i : Int))), some (.ref p), some (.ref la), some v1, some vo, none, none, some (.ref dm), some (.ref di), none, none, some (.ref lf), some vd, some (.ref Ds)] ∧ Ex H23 H' ∧ OptAt H' vd (bothA one o), ?_, ?_⟩
                  · refine ⟨_, rfl, by show 0 ≤ sizeLine; decide, fun n3 hn3 => ?_⟩
                    generalize hq24 : upd H23 n3 _ = H24
                    obtain ⟨e24x, h24⟩ := gen1 hq24 hn3
                    refine .inr ⟨_, _, .lst (sq_of (e24x _ _ h23)) (hy23.tex (TEx.of e24x)).dp, .lst (sq_of h24) .nil, shS, by decide +kernel, _, rfl, ?_⟩
                    rw [eqv_nilA, hsn]
                    cases hb2 : bothA one o with
                    | none => exact iteT ⟨_, rfl, e24x, rfl⟩
                    | some m =>
                      refine iteF ?_
                      obtain ⟨p1, rfl, hp1⟩ := hv1.ex e24x
                      obtain ⟨po, rfl, hpo⟩ := hvo.ex e24x
                      refine ⟨3, rfl, by decide, by decide, ?_⟩
                      refine lcG (walk_range (lo := 0) (n := 3)) (by decide) trivial (fun _ _ _ _ => trivial) yFn_ex (fun i ys _ => ys = ((mgL one o).take i).map V.str) (fun _ _ _ _ _ h => h) rfl ?_ ?_
                      · rintro j x H25 H26 ys25 hj e25x ⟨rfl, rfl⟩ rfl N N0 kN kN0
                        refine ⟨rfl, ?_⟩
                        have q3 : j = 0 ∨ j = 1 ∨ j = 2 := by have : j < 3 := hj; omega
                        have hat : ∀ (a : A3) y, (sl3 a)[j]? = some y → atI ((sl3 a).map V.str) (0 + (j : Int)) = some (.str y) := fun a y h => by
                          rcases q3 with rfl | rfl | rfl <;> (cases h; rfl)
                        have len8 : ∀ (a : A3) y, gA a → (sl3 a)[j]? = some y → y.length ≤ 8 := fun a y g h => by
                          rcases q3 with rfl | rfl | rfl <;> cases h
                          · exact g.2.1
                          · exact g.2.2.1
                          · exact g.2.2.2
                        have ex3 : ∀ a : A3, ∃ y, (sl3 a)[j]? = some y := fun a => by
                          rcases q3 with rfl | rfl | rfl <;> exact ⟨_, rfl⟩
                        obtain ⟨y, hy⟩ := ex3 one
                        obtain ⟨z, hz⟩ := ex3 o
                        have hg : (mgL one o)[j]? = some (mg1 y z) := by
                          unfold mgL
                          rw [List.getElem?_zipWith, hy, hz]
                        refine ⟨_, rfl, _, rfl, .inr (.inl ⟨p1, _, _, .str y, rfl, rfl, st_of (e25x _ _ hp1), hat one y hy, ?_⟩)⟩
                        have hy8 := len8 one y g1A hy
                        by_cases hye : y = ""
                        · refine ⟨false, ⟨by show y.length ≤ 16777216; omega, by rw [hye]; decide +kernel⟩, iteF ?_⟩
                          refine ⟨_, rfl, _, rfl, .inr (.inl ⟨po, _, _, .str z, rfl, rfl, st_of (e25x _ _ hpo), hat o z hz, ?_⟩)⟩
                          refine kN _ _ (Ex.refl _) ?_
                          rw [List.take_add_one, hg, List.map_append]
                          unfold mg1
                          rw [if_pos hye]
                          rfl
                        · refine ⟨true, ⟨by show y.length ≤ 16777216; omega, (len_ne hye).symm⟩, iteT ?_⟩
                          refine kN _ _ (Ex.refl _) ?_
                          rw [List.take_add_one, hg, List.map_append]
                          unfold mg1
                          rw [if_neg hye]
                          rfl
                      · rintro Dz H25 ys25 hDz e25x h25 hl25 rfl
                        refine ⟨Dz, _, rfl, .inl ⟨sq_of h25, fun l hl => ?_⟩⟩
                        have hm : m = (mg1 one.1 o.1, mg1 one.2.1 o.2.1, mg1 one.2.2 o.2.2) := by
                          unfold bothA at hb2
                          split at hb2
                          · cases hb2
                          · exact (Option.some.inj hb2).symm
                        subst hm
                        exact ⟨_, rfl, (e24x.trans e25x).trans (Ex.new hl), l, rfl, upd_same⟩
                  · rintro σ' H24 ⟨vd, rfl, e24x, hvd⟩
                    have hv1 := hv1.ex e24x
                    have hvo := hvo.ex e24x
                    refine ⟨_, rfl, _, rfl, v1, vo, one, o, rfl, hv1, hvo, fun H25 x1 e25x hx1 => ?_⟩
                    refine ⟨_, rfl, _, rfl, vo, v1, o, one, rfl, hvo.ex e25x, hv1.ex e25x, fun H26 x2 e26x hx2 => ?_⟩
                    rw [both_comm o one] at hx2
                    refine ⟨by show 2 ≤ sizeLine; decide, fun lb hlb => ?_⟩
                    generalize hq27 : upd H26 lb _ = H27
                    obtain ⟨e27x, h27⟩ := gen1 hq27 hlb
                    refine ⟨_, rfl, _, rfl, by show 2 ≤ sizeLine; decide, fun lc hlc => ?_⟩
                    generalize hq28 : upd H27 lc _ = H28
                    obtain ⟨e28x, h28⟩ := gen1 hq28 hlc
                    have hd28 : OptAt H28 vd (bothA one o) := OptAt.ex (((e25x.trans e26x).trans e27x).trans e28x) hvd
                    have hx1 : OptAt H28 x1 (bothA one o) := OptAt.ex ((e26x.trans e27x).trans e28x) hx1
                    have hx2 : OptAt H28 x2 (bothA one o) := OptAt.ex (e27x.trans e28x) hx2
                    refine ⟨.ref lb, .ref lc, .list [opD (bothA one o), opD (bothA one o)], rfl, .lst (sq_of (e28x _ _ h27)) (.cons (OptAt.dp hx1) (.cons (OptAt.dp hx2) .nil)), .lst (sq_of h28) (.cons (OptAt.dp hd28) (.cons (OptAt.dp hd28) .nil)), ?_, _, rfl, iteF ?_⟩
                    · have f1 : fin 1 300 (opD (bothA one o)) := by
                        cases hb3 : bothA one o with
                        | none => exact fin_none.mono (by decide) (by decide)
                        | some m =>
                          have gm := both_good g1 go hb3
                          exact (gA_of hnr gm.1 gm.2.1 gm.2.2).fin
                      refine (fin_list (n := 1) (W := 300) (m := 2) (fun d hd => ?_) (Nat.le_refl _)).fine (by decide) (by decide)
                      simp only [List.mem_cons, List.not_mem_nil, or_false] at hd
                      rcases hd with rfl | rfl <;> exact f1
                    have e2428 := ((e25x.trans e26x).trans e27x).trans e28x
                    have e828 := ((e810.trans e1023).trans e24x).trans e2428
                    have eend := e28.trans e828
                    refine ⟨_, rfl, rfl, _, rfl, ?_⟩
                    cases hb4 : bothA one o with
                    | none =>
                      rw [hb4] at hd28
                      have hd28 : vd = .non := hd28
                      rw [hd28, decide_eq_true rfl]
                      exact iteF (iteF ⟨_, _, _, _, _, _, _, _, _, _, rfl, eend⟩)
                    | some m =>
                      rw [hb4] at hd28
                      have hd28 : AtomAt H28 vd m := hd28
                      have nl : decide (vd = V.non) = false := decide_eq_false (fun e => by
                        obtain ⟨pl, e2, _⟩ := hd28
                        rw [e] at e2
                        cases e2)
                      rw [nl]
                      refine iteT ?_
                      refine .inl ⟨_, rfl, la, rfl, ⟨_, sq_of (e828 _ _ hla8)⟩, ?_⟩
                      refine lcG (walk_list (xs := xs)) (by omega) (sq_of (e828 _ _ hla8)) (fun _ _ e h => ex_l e h) yAt_ex (fun k ys H' => AllAt H' ys ((A.take k).filter (fitB m))) (fun _ _ _ _ e h => h.tex e) trivial ?_ ?_
                      · rintro k x Hp Hq ys hk ep ⟨rfl, hx⟩ hy N N0 kN kN0
                        obtain ⟨a1, ha1, hat1⟩ := (hA8.tex (TEx.of (e828.trans ep))).at hx
                        refine ⟨rfl, ?_⟩
                        refine ⟨_, rfl, _, rfl, vd, x, m, a1, rfl, hd28.ex ep, hat1, fun H14 e14 => ⟨_, rfl, ?_⟩⟩
                        cases hf : fitB m a1 with
                        | true => exact iteT ⟨_, rfl, kN _ _ e14 (AllAt.filter (hat1.ex e14) ha1 (hy.tex (TEx.of e14)) hf)⟩
                        | false => exact iteF (kN0 _ e14 (AllAt.skip ha1 (hy.tex (TEx.of e14)) hf))
                      · rintro Dl H29 ys29 hDl e29 h29 hl29 hy29
                        rw [hA8.len, List.take_length] at hy29
                        have hAS : A.filter (fitB m) = S := by
                          rw [← hSe, ← hMe, List.filter_filter]
                          congr 1
                          funext a
                          rw [both_fit hb4 a, Bool.and_comm]
                        rw [hAS] at hy29
                        refine ⟨_, rfl, .inr ⟨_, _, .lst (sq_of h29) hy29.dp, .lst (sq_of (e29 _ _ (e2428 _ _ (e24x _ _ h23)))) (hy23.tex (TEx.of ((e24x.trans e2428).trans e29))).dp, shS, shS, _, rfl, ?_⟩⟩
                        rw [PySem.SeqAt.eqv_refl _ (finL S SA hSl).1]
                        exact iteF ⟨_, _, _, _, _, _, _, _, _, _, rfl, eend.trans e29⟩
    · rintro σ H2 ⟨x2, x3, x4, x5, x6, x9, x10, x13, x14, x15, rfl, e2⟩
      exact q _
end
end Own

namespace Own
open PySem PySem.Spec PyProof.Rows L2 Evl
/-! ### the end -/
theorem law_callG {P : Program} {w : World} {K : PySem.W.Frag} {mg mb : Str → Option Value} {k : Nat} {fa a : Addr} {fd : FuncData} {x : Str} {sp : Sp} {st : Shared} {vs : List Value} {ns : List Int}
    (inK : K.In st.heap) (gN : st.heap.Ns mainGlobals mg) (bN : st.heap.Ns builtinsNs mb) (bN0 : ∀ x : Str, x ≠ "__name__" → mb x = bootBuiltins x) (noL : st.heap.NoLimit) (g0 : st.gens = #[])
    (at0 : st.heap.get? a = some { cls := .type "list", data := .seq vs.toArray }) (are : IntsAre vs ns) (few : ns.length ≤ sizeLine) (hr : Room k callerA)
    (F : ∀ base : Heap, K.In base → base.Ns mainGlobals mg → FnG P w K mg base k fa fd [x] sp) (bnd : ∀ (s : Shared) (u : Value), BindsTo s fd ⟨[u], []⟩ [(x, u)])
    (want : ∀ H : Hp, Only H → SqL K H a (ns.map V.int) → sp [.ref a] H (fun v _ => v = .bl true) fun _ _ _ => False)
    :
    codeAny (model P w) callerA (.call (.ref fa) ⟨[.ref a], []⟩) (fun r s' => r = .ok (.ret (.bool true)) ∧ OldK st.heap s'.heap ∧ s'.os = st.os ∧ AllBare s'.gens) st := by
  have rvs := vals_ints are
  have lv := are.length
  have main : ∀ H : Hp, Only H → SqL K H a (ns.map V.int) → HOk P w H st.heap → (∀ b, H b ≠ none → b = a) → (H a ≠ none → K.lookup a = none) →
      codeAny (model P w) callerA (.call (.ref fa) ⟨[.ref a], []⟩) (fun r s' => r = .ok (.ret (.bool true)) ∧ OldK st.heap s'.heap ∧ s'.os = st.os ∧ AllBare s'.gens) st := by
    intro H only sq okH ata notK
    have inB : ∀ {b : Addr} {o : Obj}, st.heap.get? b = some o → H b = none → (hidT st.heap H).get? b = some o := fun e n => hidT_get e n
    have nod : ∀ {b : Addr} {o : Obj} {es : Array DictEntry} {ep : Nat}, st.heap.get? b = some o → o.data = .dict es ep → H b = none := fun {b o es ep} e d => by
      cases qq : H b with
      | none => rfl
      | some u =>
        have e' : b = a := ata b (by rw [qq]; simp)
        subst e'
        rw [at0] at e; cases e
        have d' : Data.seq vs.toArray _ = Data.dict es ep := d
        cases d'
    have nsB : ∀ {b : Addr} {m : Str → Option Value}, st.heap.Ns b m → (hidT st.heap H).Ns b m := fun {b m} ⟨o, es, ep, e, d, r⟩ => ⟨o, es, ep, inB e (nod e d), d, r⟩
    have kB : K.In (hidT st.heap H) := fun b o e => inB (inK b o e) (by
      cases qq : H b with
      | none => rfl
      | some u =>
        have e' : b = a := ata b (by rw [qq]; simp)
        subst e'
        rw [notK (by rw [qq]; simp)] at e; cases e)
    have mdl : Mod K mg (hidT st.heap H) := ⟨kB, nsB gN, ⟨mb, nsB bN, bN0⟩, let ⟨mc, h1, h2⟩ := noL; ⟨mc, nsB h1, h2⟩⟩
    have envs : Env0 P w K mg (hidT st.heap H) callerA [] st H := ⟨rfl, mdl, fun b o e => of_hidT e, Nat.le_of_eq (hidT_size _ _), trivial, fun b bN => absurd (show b ∈ ([] : List Addr) from bN) (by simp), okH, .of_eq g0⟩
    refine codeAny_mono ((F _ kB (nsB gN)).run callerA [] st H ⟨[.ref a], []⟩ [.ref a] [.ref a] _ _ hr rfl envs (bnd st (.ref a)) (.cons rfl .nil) (want H only sq)) fun r s' h => ?_
    cases r with
    | error e => exact (show False from h).elim
    | ok fl =>
      cases fl with
      | next => exact False.elim h
      | brk => exact False.elim h
      | cont => exact False.elim h
      | ret u =>
        obtain ⟨v, H', oss, br, uu, hok', r', qq⟩ := h
        have q' : v = .bl true := qq
        subst q'
        obtain rfl : u = Value.bool true := r'
        refine ⟨rfl, OldK.of_keep fun b o e => ?_, oss, br⟩
        cases qq : H b with
        | none => exact uu.keep b o e qq (by intro zz; exact absurd (show b ∈ ([] : List Addr) from zz) (by simp)) (by simp)
        | some u =>
          rcases only b with zz | ⟨ob, xs, zz⟩
          · rw [qq] at zz; cases zz
          · have zz2 := uu.frzs b ob _ zz
            obtain ⟨e1, _⟩ := okH b _ zz
            obtain ⟨e2, _⟩ := hok' b _ zz2
            rw [e] at e1; cases e1
            exact e2
  cases lkK : K.lookup a with
  | some o =>
    have e := inK a o lkK
    rw [at0] at e
    cases e
    refine main (fun _ => none) (fun _ => .inl rfl) (.inr ⟨_, vs.toArray, _, lkK, rfl, rfl, rfl, by rw [List.size_toArray, lv]; exact few, by simpa using rvs⟩) (fun b u zz => by have z' : (none : Option HO) = some u := zz; cases z') (fun b zz => absurd rfl zz) fun zz => absurd rfl zz
  | none =>
    refine main (fun b => if b = a then some (.frz { cls := .type "list", data := .seq vs.toArray } (.lst (ns.map V.int))) else none) (fun b => ?_) (.inl (.inr ⟨{ cls := .type "list", data := .seq vs.toArray }, if_pos rfl⟩)) (fun b u zz => ?_) (fun b zz => ?_) fun _ => lkK
    · by_cases bN : b = a
      · exact .inr ⟨_, _, if_pos bN⟩
      · exact .inl (if_neg bN)
    · by_cases bN : b = a
      · have z' := (if_pos bN).symm.trans zz
        cases z'
        subst bN
        exact ⟨at0, by rw [List.length_map]; exact few, vs, _, rvs, at0⟩
      · have z' := (if_neg bN).symm.trans zz
        cases z'
    · by_cases bN : b = a
      · exact bN
      · exact absurd (if_neg bN) zz
theorem walk_G {l : PySem.W.OpenLaw} {n k : Nat} {q : Program} {loose : List Str} {XP : (Str → Option Value) → Heap → Prop} {YP : World → Heap → Prop} {d : DefRec} {K : Params → PySem.W.Frag} {sp : World → Sp} {x : Str}
    (most : l.most = some n) (small : n ≤ sizeLine) (nodf : d.params.defaults = []) (room : Room k callerA) (inn : ∀ (w : World) (h : Heap), YP w h → (K w.params).In h)
    (F : ∀ (w : World) (mg : Str → Option Value) (fa : Addr) (h : Heap), (K w.params).In h → h.Ns mainGlobals mg → mg d.name = some (.ref fa) →
      ∃ fd : FuncData, (∀ (s : Shared) (u : Value), BindsTo s fd ⟨[u], []⟩ [(x, u)]) ∧ ∀ base : Heap, (K w.params).In base → base.Ns mainGlobals mg → FnG l.prog w (K w.params) mg base k fa fd [x] (sp w))
    (want : ∀ (w : World) (H : Hp) (a : Addr) (ns : List Int), ns.length ≤ n → SqL (K w.params) H a (ns.map V.int) → sp w [.ref a] H (fun v _ => v = .bl true) fun _ _ _ => False) :
    PySem.W.WalkO q loose XP YP l.row.toRowW d [] (fun f vs => PySem.call f vs) := by
  refine Att.attach_call most nodf fun w s₀ st mg mb fa o pm cd doc a vs ns G Y ho hd hcd hmg hobj hints hlen g0 => ?_
  have KI := inn w _ Y
  obtain ⟨fd, bd, good⟩ := F w mg fa _ KI G.T.g hmg
  exact law_callG KI G.T.g G.T.b G.T.builtins G.T.nolimit g0 hobj hints (Nat.le_trans hlen small) room good bd (fun H _ hS => want w H a ns hlen hS)
theorem df_mk {K : PySem.W.Frag} {h : Heap} {mg : Str → Option Value} {x : Str} {st : Stmt} {f : Addr} {oc : Value} {od an : Option Addr} {sl : Array (Option Value)} {kV doc pm cdv ct : Value} (X : K.In h) (G : h.Ns mainGlobals mg)
    (a : PySem.W.nsIn K mainGlobals x = some (some (.ref f))) (l : K.lookup f = some ⟨oc, od, .func (PySem.W.fnOf x x (defArgs st) (defBody st) (defScope st) .none kV doc pm an cdv ct), sl⟩) (c : PySem.W.codeIn K cdv x = true) (kp : PySem.W.keepIn K (.ref f) = true) : Df K mg x st :=
  ⟨f, _, PySem.W.mg_of X G a, fun_mk l c kp⟩
end Own

namespace Own
open PySem PySem.Spec PyProof.Rows L2 Evl
theorem all_mk {P : Program} {w : World} {K : PySem.W.Frag} {h : Heap} {mg : Str → Option Value} {fa : Addr} (X : K.In h) (G : h.Ns mainGlobals mg) (hfa : mg "law" = some (.ref fa))
    {od0 an0 : Option Addr} {sl0 : Array (Option Value)} {oc0 kV0 dc0 pm0 cd0 ct0 : Value} {f0 : Addr}
    {od1 an1 : Option Addr} {sl1 : Array (Option Value)} {oc1 kV1 dc1 pm1 cd1 ct1 : Value} {f1 : Addr}
    {od2 an2 : Option Addr} {sl2 : Array (Option Value)} {oc2 kV2 dc2 pm2 cd2 ct2 : Value} {f2 : Addr}
    {od3 an3 : Option Addr} {sl3 : Array (Option Value)} {oc3 kV3 dc3 pm3 cd3 ct3 : Value} {f3 : Addr}
    {od4 an4 : Option Addr} {sl4 : Array (Option Value)} {oc4 kV4 dc4 pm4 cd4 ct4 : Value} {f4 : Addr}
    {od5 an5 : Option Addr} {sl5 : Array (Option Value)} {oc5 kV5 dc5 pm5 cd5 ct5 : Value} {f5 : Addr}
    {od6 an6 : Option Addr} {sl6 : Array (Option Value)} {oc6 kV6 dc6 pm6 cd6 ct6 : Value} {f6 : Addr}
    {od7 an7 : Option Addr} {sl7 : Array (Option Value)} {oc7 kV7 dc7 pm7 cd7 ct7 : Value} {f7 : Addr}
    {od8 an8 : Option Addr} {sl8 : Array (Option Value)} {oc8 kV8 dc8 pm8 cd8 ct8 : Value} {f8 : Addr}
    {od9 an9 : Option Addr} {sl9 : Array (Option Value)} {oc9 kV9 dc9 pm9 cd9 ct9 : Value} {f9 : Addr}
    {od10 an10 : Option Addr} {sl10 : Array (Option Value)} {oc10 kV10 dc10 pm10 cd10 ct10 : Value} {f10 : Addr}
    {od11 an11 : Option Addr} {sl11 : Array (Option Value)} {oc11 kV11 dc11 pm11 cd11 ct11 : Value} {f11 : Addr}
    {od12 an12 : Option Addr} {sl12 : Array (Option Value)} {oc12 kV12 dc12 pm12 cd12 ct12 : Value} {f12 : Addr} 
    (a0 : PySem.W.nsIn K mainGlobals "fits" = some (some (.ref f0))) (l0 : K.lookup f0 = some ⟨oc0, od0, .func (PySem.W.fnOf "fits" "fits" (defArgs s_fits) (defBody s_fits) (defScope s_fits) .none kV0 dc0 pm0 an0 cd0 ct0), sl0⟩) (c0 : PySem.W.codeIn K cd0 "fits" = true) (k0 : PySem.W.keepIn K (.ref f0) = true)
    (a1 : PySem.W.nsIn K mainGlobals "narrower" = some (some (.ref f1))) (l1 : K.lookup f1 = some ⟨oc1, od1, .func (PySem.W.fnOf "narrower" "narrower" (defArgs s_narrower) (defBody s_narrower) (defScope s_narrower) .none kV1 dc1 pm1 an1 cd1 ct1), sl1⟩) (c1 : PySem.W.codeIn K cd1 "narrower" = true) (k1 : PySem.W.keepIn K (.ref f1) = true)
    (a2 : PySem.W.nsIn K mainGlobals "both" = some (some (.ref f2))) (l2 : K.lookup f2 = some ⟨oc2, od2, .func (PySem.W.fnOf "both" "both" (defArgs s_both) (defBody s_both) (defScope s_both) .none kV2 dc2 pm2 an2 cd2 ct2), sl2⟩) (c2 : PySem.W.codeIn K cd2 "both" = true) (k2 : PySem.W.keepIn K (.ref f2) = true)
    (a3 : PySem.W.nsIn K mainGlobals "_law_bag" = some (some (.ref f3))) (l3 : K.lookup f3 = some ⟨oc3, od3, .func (PySem.W.fnOf "_law_bag" "_law_bag" (defArgs s_l_bag) (defBody s_l_bag) (defScope s_l_bag) .none kV3 dc3 pm3 an3 cd3 ct3), sl3⟩) (c3 : PySem.W.codeIn K cd3 "_law_bag" = true) (k3 : PySem.W.keepIn K (.ref f3) = true)
    (a4 : PySem.W.nsIn K mainGlobals "_law_take" = some (some (.ref f4))) (l4 : K.lookup f4 = some ⟨oc4, od4, .func (PySem.W.fnOf "_law_take" "_law_take" (defArgs s_l_take) (defBody s_l_take) (defScope s_l_take) .none kV4 dc4 pm4 an4 cd4 ct4), sl4⟩) (c4 : PySem.W.codeIn K cd4 "_law_take" = true) (k4 : PySem.W.keepIn K (.ref f4) = true)
    (a5 : PySem.W.nsIn K mainGlobals "_law_alike" = some (some (.ref f5))) (l5 : K.lookup f5 = some ⟨oc5, od5, .func (PySem.W.fnOf "_law_alike" "_law_alike" (defArgs s_l_alike) (defBody s_l_alike) (defScope s_l_alike) .none kV5 dc5 pm5 an5 cd5 ct5), sl5⟩) (c5 : PySem.W.codeIn K cd5 "_law_alike" = true) (k5 : PySem.W.keepIn K (.ref f5) = true)
    (a6 : PySem.W.nsIn K mainGlobals "_law_some" = some (some (.ref f6))) (l6 : K.lookup f6 = some ⟨oc6, od6, .func (PySem.W.fnOf "_law_some" "_law_some" (defArgs s_l_some) (defBody s_l_some) (defScope s_l_some) .none kV6 dc6 pm6 an6 cd6 ct6), sl6⟩) (c6 : PySem.W.codeIn K cd6 "_law_some" = true) (k6 : PySem.W.keepIn K (.ref f6) = true)
    (a7 : PySem.W.nsIn K mainGlobals "_law_names" = some (some (.ref f7))) (l7 : K.lookup f7 = some ⟨oc7, od7, .func (PySem.W.fnOf "_law_names" "_law_names" (defArgs s_l_names) (defBody s_l_names) (defScope s_l_names) .none kV7 dc7 pm7 an7 cd7 ct7), sl7⟩) (c7 : PySem.W.codeIn K cd7 "_law_names" = true) (k7 : PySem.W.keepIn K (.ref f7) = true)
    (a8 : PySem.W.nsIn K mainGlobals "_law_atom" = some (some (.ref f8))) (l8 : K.lookup f8 = some ⟨oc8, od8, .func (PySem.W.fnOf "_law_atom" "_law_atom" (defArgs s_l_atom) (defBody s_l_atom) (defScope s_l_atom) .none kV8 dc8 pm8 an8 cd8 ct8), sl8⟩) (c8 : PySem.W.codeIn K cd8 "_law_atom" = true) (k8 : PySem.W.keepIn K (.ref f8) = true)
    (a9 : PySem.W.nsIn K mainGlobals "_law_pattern" = some (some (.ref f9))) (l9 : K.lookup f9 = some ⟨oc9, od9, .func (PySem.W.fnOf "_law_pattern" "_law_pattern" (defArgs s_l_pattern) (defBody s_l_pattern) (defScope s_l_pattern) .none kV9 dc9 pm9 an9 cd9 ct9), sl9⟩) (c9 : PySem.W.codeIn K cd9 "_law_pattern" = true) (k9 : PySem.W.keepIn K (.ref f9) = true)
    (a10 : PySem.W.nsIn K mainGlobals "_law_fits" = some (some (.ref f10))) (l10 : K.lookup f10 = some ⟨oc10, od10, .func (PySem.W.fnOf "_law_fits" "_law_fits" (defArgs s_l_fits) (defBody s_l_fits) (defScope s_l_fits) .none kV10 dc10 pm10 an10 cd10 ct10), sl10⟩) (c10 : PySem.W.codeIn K cd10 "_law_fits" = true) (k10 : PySem.W.keepIn K (.ref f10) = true)
    (a11 : PySem.W.nsIn K mainGlobals "_law_all_atoms" = some (some (.ref f11))) (l11 : K.lookup f11 = some ⟨oc11, od11, .func (PySem.W.fnOf "_law_all_atoms" "_law_all_atoms" (defArgs s_l_all_atoms) (defBody s_l_all_atoms) (defScope s_l_all_atoms) .none kV11 dc11 pm11 an11 cd11 ct11), sl11⟩) (c11 : PySem.W.codeIn K cd11 "_law_all_atoms" = true) (k11 : PySem.W.keepIn K (.ref f11) = true)
    (a12 : PySem.W.nsIn K mainGlobals "law" = some (some (.ref f12))) (l12 : K.lookup f12 = some ⟨oc12, od12, .func (PySem.W.fnOf "law" "law" (defArgs s_law) (defBody s_law) (defScope s_law) .none kV12 dc12 pm12 an12 cd12 ct12), sl12⟩) (c12 : PySem.W.codeIn K cd12 "law" = true) (k12 : PySem.W.keepIn K (.ref f12) = true)
    (z_abs : PySem.W.nsIn K mainGlobals "abs" = some none)
    (z_int : PySem.W.nsIn K mainGlobals "int" = some none)
    (z_len : PySem.W.nsIn K mainGlobals "len" = some none)
    (z_tuple : PySem.W.nsIn K mainGlobals "tuple" = some none)
    (z_list : PySem.W.nsIn K mainGlobals "list" = some none)
    (z_all : PySem.W.nsIn K mainGlobals "all" = some none)
    (z_any : PySem.W.nsIn K mainGlobals "any" = some none)
    (z_zip : PySem.W.nsIn K mainGlobals "zip" = some none)
    (z_range : PySem.W.nsIn K mainGlobals "range" = some none)
    (z_repr : PySem.W.nsIn K mainGlobals "repr" = some none)
    (z_dict : PySem.W.nsIn K mainGlobals "dict" = some none)
 :
    ∃ fd : FuncData, (∀ (s : Shared) (v : Value), BindsTo s fd ⟨[v], []⟩ [("_law_script", v)]) ∧ ∀ base : Heap, K.In base → base.Ns mainGlobals mg → FnG P w K mg base 6 fa fd ["_law_script"] (spLaw K) := by
  have e := hfa.symm.trans (PySem.W.mg_of X G a12)
  cases e
  have D_fits : Df K mg "fits" s_fits := df_mk X G a0 l0 c0 k0
  have D_narrower : Df K mg "narrower" s_narrower := df_mk X G a1 l1 c1 k1
  have D_both : Df K mg "both" s_both := df_mk X G a2 l2 c2 k2
  have D_l_bag : Df K mg "_law_bag" s_l_bag := df_mk X G a3 l3 c3 k3
  have D_l_take : Df K mg "_law_take" s_l_take := df_mk X G a4 l4 c4 k4
  have D_l_alike : Df K mg "_law_alike" s_l_alike := df_mk X G a5 l5 c5 k5
  have D_l_some : Df K mg "_law_some" s_l_some := df_mk X G a6 l6 c6 k6
  have D_l_names : Df K mg "_law_names" s_l_names := df_mk X G a7 l7 c7 k7
  have D_l_atom : Df K mg "_law_atom" s_l_atom := df_mk X G a8 l8 c8 k8
  have D_l_pattern : Df K mg "_law_pattern" s_l_pattern := df_mk X G a9 l9 c9 k9
  have D_l_fits : Df K mg "_law_fits" s_l_fits := df_mk X G a10 l10 c10 k10
  have D_l_all_atoms : Df K mg "_law_all_atoms" s_l_all_atoms := df_mk X G a11 l11 c11 k11
  have F_law := fun_mk (st := s_law) l12 c12 k12
  refine ⟨PySem.W.fnOf "law" "law" (defArgs s_law) (defBody s_law) (defScope s_law) .none kV12 dc12 pm12 an12 cd12 ct12, fun s v => .of_eq rfl, fun base _ _ => ?_⟩
  have T : Txt0 mg := ⟨PySem.W.mg_none_of X G z_abs, PySem.W.mg_none_of X G z_int, PySem.W.mg_none_of X G z_len, PySem.W.mg_none_of X G z_tuple, PySem.W.mg_none_of X G z_list, PySem.W.mg_none_of X G z_all, PySem.W.mg_none_of X G z_any, PySem.W.mg_none_of X G z_zip, PySem.W.mg_none_of X G z_range, PySem.W.mg_none_of X G z_repr, PySem.W.mg_none_of X G z_dict⟩
  have c1 : CalG P w K mg base 1 "_law_take" spTake := take_ext (ok_takeL T D_l_take)
  have c2 := bag_ext (ok_bagL (P := P) (w := w) (base := base) T D_l_bag)
  have c3 := ok_some (K := K) T D_l_some c1
  have c4 := ok_names T D_l_names c1
  have c6 := ok_atom T D_l_atom c1 c3
  have c7 := ok_pattern T D_l_pattern c1 c6
  have c8 : CalG P w K mg base 1 "narrower" spNarrow := ok_narrower T D_narrower
  have c9 : CalG P w K mg base 1 "both" spBoth := ok_both T D_both
  have c10 : CalG P w K mg base 1 "fits" spFits := ok_fits T D_fits
  have c11 : CalG P w K mg base 1 "_law_fits" spFits := ok_lfits T D_l_fits
  have c12 : CalG P w K mg base 1 "_law_all_atoms" spAllA := ok_all_atoms T D_l_all_atoms
  have c17 : CalG P w K mg base 1 "_law_alike" (spAlike K) := ok_alike T D_l_alike
  exact ok_law T F_law c2 c1 c4 c12 c7 c8 c9 c10 c11 c17
theorem walk {l : PySem.W.OpenLaw} {q : Program} {loose : List Str} {XP : (Str → Option Value) → Heap → Prop} {YP : World → Heap → Prop} {d : DefRec} {K : Params → PySem.W.Frag} (most : l.most = some 63) (nodf : d.params.defaults = [])
    (inn : ∀ (w : World) (h : Heap), YP w h → (K w.params).In h)
    (F : ∀ (w : World) (mg : Str → Option Value) (fa : Addr) (h : Heap), (K w.params).In h → h.Ns mainGlobals mg → mg d.name = some (.ref fa) →
      ∃ fd : FuncData, (∀ (s : Shared) (u : Value), BindsTo s fd ⟨[u], []⟩ [("_law_script", u)]) ∧ ∀ base : Heap, (K w.params).In base → base.Ns mainGlobals mg → FnG l.prog w (K w.params) mg base 6 fa fd ["_law_script"] (spLaw (K w.params))) :
    PySem.W.WalkO q loose XP YP l.row.toRowW d [] (fun f vs => PySem.call f vs) :=
  walk_G (n := 63) (k := 6) (x := "_law_script") (sp := fun w => spLaw (K w.params)) most (by decide) nodf ⟨rfl, by decide, by decide⟩ inn F (fun _ _ a ns hl hS => ⟨a, ns, rfl, hS, hl, fun _ => rfl⟩)
end Own
open PySem PySem.W PyProof.Rows in
set_option maxRecDepth 100000 in
set_option maxHeartbeats 0 in
theorem PySem.Challenge.cw_scriptpicks_k16_patterns_compared_holds : PySem.Challenge.rw_scriptpicks_k16_patterns_compared.Holds := by
  w_on; o_law; k_head; (case hw => w_witness2)
  k_fill
  refine Own.walk (l := PySem.Challenge.rw_scriptpicks_k16_patterns_compared) rfl rfl (fun w h Y => PySem.W.kIn_of Y) ?F
  case F =>
    intro w mg fa h KX G hmg
    refine' Own.all_mk KX G hmg ?a0 ?l0 ?c0 ?k0 ?a1 ?l1 ?c1 ?k1 ?a2 ?l2 ?c2 ?k2 ?a3 ?l3 ?c3 ?k3 ?a4 ?l4 ?c4 ?k4 ?a5 ?l5 ?c5 ?k5 ?a6 ?l6 ?c6 ?k6 ?a7 ?l7 ?c7 ?k7 ?a8 ?l8 ?c8 ?k8 ?a9 ?l9 ?c9 ?k9 ?a10 ?l10 ?c10 ?k10 ?a11 ?l11 ?c11 ?k11 ?a12 ?l12 ?c12 ?k12 ?z_abs ?z_int ?z_len ?z_tuple ?z_list ?z_all ?z_any ?z_zip ?z_range ?z_repr ?z_dict
    (case a0 => k_is)
    (case l0 => k_is)
    (case c0 => k_is)
    (case k0 => k_is)
    (case a1 => k_is)
    (case l1 => k_is)
    (case c1 => k_is)
    (case k1 => k_is)
    (case a2 => k_is)
    (case l2 => k_is)
    (case c2 => k_is)
    (case k2 => k_is)
    (case a3 => k_is)
    (case l3 => k_is)
    (case c3 => k_is)
    (case k3 => k_is)
    (case a4 => k_is)
    (case l4 => k_is)
    (case c4 => k_is)
    (case k4 => k_is)
    (case a5 => k_is)
    (case l5 => k_is)
    (case c5 => k_is)
    (case k5 => k_is)
    (case a6 => k_is)
    (case l6 => k_is)
    (case c6 => k_is)
    (case k6 => k_is)
    (case a7 => k_is)
    (case l7 => k_is)
    (case c7 => k_is)
    (case k7 => k_is)
    (case a8 => k_is)
    (case l8 => k_is)
    (case c8 => k_is)
    (case k8 => k_is)
    (case a9 => k_is)
    (case l9 => k_is)
    (case c9 => k_is)
    (case k9 => k_is)
    (case a10 => k_is)
    (case l10 => k_is)
    (case c10 => k_is)
    (case k10 => k_is)
    (case a11 => k_is)
    (case l11 => k_is)
    (case c11 => k_is)
    (case k11 => k_is)
    (case a12 => k_is)
    (case l12 => k_is)
    (case c12 => k_is)
    (case k12 => k_is)
    (case z_abs => k_is)
    (case z_int => k_is)
    (case z_len => k_is)
    (case z_tuple => k_is)
    (case z_list => k_is)
    (case z_all => k_is)
    (case z_any => k_is)
    (case z_zip => k_is)
    (case z_range => k_is)
    (case z_repr => k_is)
    (case z_dict => k_is)
