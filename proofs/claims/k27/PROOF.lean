import PyProof.Rows.All
import Wide.All
import OpenK.AllK
import Wide.FinOn
import HandS.ForMost
import HandS.Wide
import HandS.Zip
import HandS.Style
import HandS.TupAny
import HandS.Replace
import HandS.IsInst
import HandS.Codes
import HandS.Conv
import HandS.More
import HandS.Evl
import HandS.NoneIn
import HandS.Deep
import HandS.Flow
import PyProof.ReprRoads
import HandS.Walk
import PyProof.StrLawsRepr
import PyProof.Rows.RegStrFacts
import PyProof.P3Eq
import HandS.TupMul
import HandS.Dict
import KE.KRevSl
import HandS.WrittenGet
import HandS.Ends
import PySem.Challenge.RW_scriptpicks_k27_picks_within_picks
set_option Elab.async false
set_option linter.all false
set_option maxRecDepth 100000
/-! rules of our own over the hand layer -/
namespace Own
open PySem PySem.Spec PyProof.Rows L2
section
variable {X : Cx}
theorem CallR.or {f : Value} {r r' : List V → Hp → VK → Prop} (h : CallR X f r) (h' : CallR X f r') : CallR X f (fun xs H Z => r xs H Z ∨ r' xs H Z) := by
  intro pk s τ H xs us Z I rs q
  rcases q with q | q
  · exact h pk s τ H xs us Z I rs q
  · exact h' pk s τ H xs us Z I rs q
theorem SlR.or {r r' : V → Option Int → Option Int → Hp → VK → Prop} (h : SlR X r) (h' : SlR X r') : SlR X (fun x lo hi H Z => r x lo hi H Z ∨ r' x lo hi H Z) := by
  intro pk s τ H x v vl vu lo hi sl Z I rx hst pl pu q
  rcases q with q | q
  · exact h pk s τ H x v vl vu lo hi sl Z I rx hst pl pu q
  · exact h' pk s τ H x v vl vu lo hi sl Z I rx hst pl pu q
theorem PI.or {tg iter : Expr} {w w' : TI} (h : PI X tg iter w) (h' : PI X tg iter w') : PI X tg iter (fun τ H R => w τ H R ∨ w' τ H R) :=
  ⟨fun pk s τ H R I q => q.elim (h.run pk s τ H R I) (h'.run pk s τ H R I)⟩
/-! ### unions: the reading chooses -/
def rAddI : R2 := rI0 fun i j => .int (i + j)
def rAddS : R2 := fun x y H Z => ∃ i j, x = .str i ∧ y = .str j ∧ i.length + j.length ≤ sizeLine ∧ Z (.str (i ++ j)) H
def rAdd (K : PySem.W.Frag) : R2 := fun x y H Z => rAddI x y H Z ∨ rAddS x y H Z ∨ rCat x y H Z ∨ rCatA K x y H Z
theorem opAdd : OpR X (binaryOp .Add) (rAdd X.K) := OpR.or op_add (OpR.or op_add_str (OpR.or op_cat op_catA))
def rMulI : R2 := rI CMul fun i j => .int (i * j)
def rMul : R2 := fun x y H Z => rMulI x y H Z ∨ rRep x y H Z
theorem opMul : OpR X (binaryOp .Mult) rMul := OpR.or op_mul op_rep
def rEqA (K : PySem.W.Frag) : R2 := fun x y H Z => rEq x y H Z ∨ rEqD K x y H Z
def rNeA (K : PySem.W.Frag) : R2 := fun x y H Z => rNe x y H Z ∨ rNeD K x y H Z
theorem opEq {k : Nat} (hr : Room k X.A) : OpR X (compareOp .Eq) (rEqA X.K) := OpR.or op_eq (op_eqD hr.units)
theorem opNe {k : Nat} (hr : Room k X.A) : OpR X (compareOp .NotEq) (rNeA X.K) := OpR.or op_ne (op_neD hr.units)
def rLtI : R2 := rI0 fun i j => .bl (decide (i < j))
def rLeI : R2 := rI0 fun i j => .bl (decide (i ≤ j))
def rGtI : R2 := rI0 fun i j => .bl (decide (j < i))
def rGeI : R2 := rI0 fun i j => .bl (decide (j ≤ i))
theorem opLt : OpR X (compareOp .Lt) rLtI := op_lt
theorem opLe : OpR X (compareOp .LtE) rLeI := op_le
theorem opGt : OpR X (compareOp .Gt) rGtI := op_gt
theorem opGe : OpR X (compareOp .GtE) rGeI := op_ge
def rInS : R2 := fun x y H Z => ∃ i j, x = .str i ∧ y = .str j ∧ Z (.bl (!(Builtin.Str.occurrences j i 0 j.length 1).isEmpty)) H
def rNotInS : R2 := fun x y H Z => ∃ i j, x = .str i ∧ y = .str j ∧ Z (.bl (!(!(Builtin.Str.occurrences j i 0 j.length 1).isEmpty))) H
def rInA (K : PySem.W.Frag) : R2 := fun x y H Z => rIn K false x y H Z ∨ rInS x y H Z
def rNotInA (K : PySem.W.Frag) : R2 := fun x y H Z => rIn K true x y H Z ∨ rNotInS x y H Z
theorem opIn : OpR X (compareOp .In) (rInA X.K) := OpR.or op_in_seq op_in_str
theorem opNotIn : OpR X (compareOp .NotIn) (rNotInA X.K) := OpR.or op_notIn_seq L2.op_notin_str
def rIxA (K : PySem.W.Frag) (w : World) : R2 := fun x y H Z => rIxL K x y H Z ∨ rIxT K x y H Z ∨ rIxS x y H Z ∨ rIxD K w x y H Z
theorem ixAny : IxR X (rIxA X.K X.w) := IxR.or ix_list (IxR.or ix_tup (IxR.or ix_str ix_kdict))
def rSlAny (K : PySem.W.Frag) : V → Option Int → Option Int → Hp → VK → Prop := fun x lo hi H Z => rSlL K x lo hi H Z ∨ rSlA K x lo hi H Z ∨ rSlS x lo hi H Z
theorem slAny : SlR X (rSlAny X.K) := SlR.or sl_list (SlR.or sl_tupA sl_str)
def iAny (K : PySem.W.Frag) (tl : TE) : TI := fun τ H R => iList K tl τ H R ∨ iTup K tl τ H R ∨ iStr tl τ H R
theorem piAny {tg l : Expr} {tl : TE} (hlen : PE X l tl) : PI X tg l (iAny X.K tl) := PI.or (pi_list hlen) (PI.or (pi_tup hlen) (pi_str hlen))
def rLenA (K : PySem.W.Frag) : List V → Hp → VK → Prop := fun xs H Z => (∃ p ys, xs = [.ref p] ∧ (SqL K H p ys ∨ SqT K H p ys) ∧ Z (.int ys.length) H) ∨ (∃ z, xs = [.str z] ∧ z.length ≤ sizeLine ∧ Z (.int z.length) H)
theorem callLen : CallR X (.builtin "len") (rLenA X.K) := CallR.or call_len_seq call_len_str
theorem pgetL : PGet X (rIxL X.K) := by
  intro pk s τ H x y v u Z I rx ry h
  obtain ⟨p, xs, i, z, rfl, rfl, hsq, hes, q⟩ := h
  cases rx
  obtain ⟨t, rfl⟩ := ry
  obtain ⟨gs, r, pl, hz⟩ := I.list hsq
  obtain ⟨j, h1, h2, h3, h4, h5⟩ := atI_get hes
  obtain ⟨w, ew, rw'⟩ := r.get h2
  have hlen := r.length
  have hn := line63
  have ready : EP X pk τ Z w s := ⟨z, H, I, rw', q⟩
  by_cases h0 : 0 ≤ i
  · have hj : i.toNat = j := by
      rw [seqIndex_of h0 h5] at h1
      exact Option.some.inj h1
    exact wpAny_getItem_list pl.isList h0 (by omega) (by rw [hj]; simpa using ew) ready
  · have hj : (i + (gs.toArray.size : Int)).toNat = j := by
      rw [seqIndex_neg (by omega) h4] at h1
      rw [List.size_toArray, ← hlen]
      exact Option.some.inj h1
    exact wpAny_getItem_list_neg pl.isList (by omega) (by rw [List.size_toArray] <;> omega) (by omega) (by rw [hj]; simpa using ew) ready
/-- repr of data -/
def rRepr (K : PySem.W.Frag) : List V → Hp → VK → Prop := fun xs H Z => ∃ a d, xs = [.ref a] ∧ Dp K H (.ref a) d ∧ d.showable = true ∧ d.hasDict = false ∧ d.depth ≤ 20 ∧ d.shown.length ≤ sizeLine ∧ Z (.str d.shown) H
theorem callRepr {k : Nat} (hg : X.A.guards = some []) (hr : Room k X.A) : CallR X (.builtin "repr") (rRepr X.K) := by
  intro pk s τ H xs us Z I r h
  obtain ⟨a, d, rfl, hd, hst, hn, hz, hlen, q⟩ := h
  rw [Vals.ref1 r]
  obtain ⟨as, rd⟩ := Dp.reads I d _ _ hd rfl
  have hu := hr.units
  exact repr_of_reads' rd hst (fun e => by rw [hn] at e; cases e) hg (by omega) (fun _ _ e => e) (fun h' u tk hkp => ⟨.str d.shown, H, I.kept (h' := h') (t' := tk) hkp, ⟨_, rfl⟩, q⟩) hlen
end
/-! ### defs that are called where no container is being shown -/
structure FnG (P : Program) (w : World) (K : PySem.W.Frag) (mg : Str → Option Value) (base : Heap) (k : Nat) (f : Addr) (fd : FuncData) (ps : List Str) (sp : Sp) : Prop where
  len : ∀ vs H Z EE, sp vs H Z EE → vs.length = ps.length
  run : ∀ (A : Around) (outer : List Env) (s : Shared) (H : Hp) (args : Args) (us : List Value) (vs : List V) (Z : VK) (EE : XK), Room k A → A.guards = some [] → Env0 P w K mg base A outer s H → BindsTo s fd args (ps.zip us) → Vals vs us → sp vs H Z EE →
    codeAny (model P w) A (.call (.ref f) args) (CR CX0 outer P w H s Z EE) s
structure CalG (P : Program) (w : World) (K : PySem.W.Frag) (mg : Str → Option Value) (base : Heap) (k : Nat) (x : Str) (sp : Sp) : Prop where
  ex : ∃ (f : Addr) (fd : FuncData) (ps : List Str), FnG P w K mg base k f fd ps sp ∧ mg x = some (.ref f) ∧ PySem.W.keepIn K (.ref f) = true ∧ Binds K fd ps []
structure Df (K : PySem.W.Frag) (mg : Str → Option Value) (x : Str) (st : Stmt) : Prop where
  ex : ∃ (f : Addr) (fd : FuncData), mg x = some (.ref f) ∧ Fun K x x st f fd
section
variable {P : Program} {w : World} {K : PySem.W.Frag} {mg : Str → Option Value} {base : Heap}
theorem CalG.imp {k : Nat} {x : Str} {sp sp' : Sp} (c : CalG P w K mg base k x sp) (h : ∀ vs H Z EE, sp' vs H Z EE → sp vs H Z EE) : CalG P w K mg base k x sp' := by
  obtain ⟨f, fd, ps, F, a, b, d⟩ := c.ex
  exact ⟨f, fd, ps, ⟨fun vs H Z EE q => F.len vs H Z EE (h _ _ _ _ q), fun A outer s H args us vs Z EE hr hg hes hbd hv hst => F.run A outer s H args us vs Z EE hr hg hes hbd hv (h _ _ _ _ hst)⟩, a, b, d⟩
theorem fn_mk {x : Str} {f : Addr} {fd : FuncData} {st : Stmt} {N ps : List Str} {k : Nat} {sp : Sp} (F : Fun K x x st f fd) (S : FnScope N ps (defScope st))
    (len : ∀ vs H Z EE, sp vs H Z EE → vs.length = ps.length)
    (hbody : ∀ (cdv : Value) (A : Around) (outer : List Env) (s : Shared) (H : Hp) (vs : List V) (Z : VK) (EE : XK), Room k (A.deeper (envOfC x (defScope st) s.heap.objs.size f cdv)) → (A.deeper (envOfC x (defScope st) s.heap.objs.size f cdv)).guards = some [] → sp vs H Z EE →
      ∃ t, PSs (cxOf CX0 P w K mg base N x (defScope st) f cdv A outer s H EE).nox (defBody st) t ∧ t { nx := fun _ H' => Z .non H', rt := Z } (start N vs) H) : FnG P w K mg base (k + 1) f fd ps sp := by
  obtain ⟨oc, od, kV, doc, pm, an, cdv, ct, sl, rfl, lkp, hcd⟩ := F.ex
  refine ⟨len, fun A outer s H args us vs Z EE hr hg e0 hbt r hsp => ?_⟩
  have body : ∀ (A : Around) (outer : List Env) (s : Shared) (H : Hp) (vs : List V) (Z : VK) (EE : XK), Room k (A.deeper (envOfC x (defScope st) s.heap.objs.size f cdv)) → A.guards = some [] → sp vs H Z EE →
      ∃ t, PSs (cxOf CX0 P w K mg base N x (defScope st) f cdv A outer s H EE) (defBody st) t ∧ t { nx := fun _ H' => Z .non H', rt := Z } (start N vs) H := fun A outer s H vs Z EE hr hg hsp => by
    obtain ⟨t, h, q⟩ := hbody cdv A outer s H vs Z EE hr hg hsp
    exact ⟨t, h.nox, q⟩
  have hlen := len _ _ _ _ hsp
  have KI : K.In s.heap := e0.mod.kin.keeps fun b o e => (e0.bs b o e).1
  have nlm : s.heap.NoLimit := e0.mod.nolimit.keeps fun b o e => (e0.bs b o e).1
  have hkind : ∀ y ∈ ps.zip us, (defScope st).names.lookup y.1 = some .local ∨ ((defScope st).names.lookup y.1 = some .cell ∧ ((cellsFrom (s.heap.objs.size + 1) (defScope st).names []).lookup y.1).isSome = true) := fun ⟨n, v⟩ hyy => by
    rcases S.par n (List.of_mem_zip hyy).1 with q | q
    · exact .inl q
    · exact .inr ⟨q, PySem.W.cellsFrom_some _ _ _ (.inl q)⟩
  refine codeAny_call_function hr.depth (KI _ _ lkp) rfl S.co S.gen rfl (PySem.W.codeRec_of KI hcd) (hbt _ _ _ _ ?_)
  refine wpAny_newFunctionEnv_cells S.kind hkind fun env hes st1 xx => ?_
  subst hes
  refine ⟨nlm.keeps xx.toInCall.keep, codeAny_func ?_⟩
  obtain ⟨t, ht, hsq⟩ := body A outer s H vs Z EE (hr.deeper _) hg hsp
  have I : Inv (cxOf CX0 P w K mg base N x (defScope st) f cdv A outer s H EE) [] (start N vs) H st1 := inv_start S hr.hd e0 hlen r xx
  refine wpAny_mono (ht.run [] st1 (start N vs) H _ I hsq) (fun fl s' hst => ?_) fun e s' hst => hst
  have ready : ∀ {τ' : L2.St} {H' : Hp} {v : V} {u : Value}, Inv (cxOf CX0 P w K mg base N x (defScope st) f cdv A outer s H EE) [] τ' H' s' → RelV v u → Z v H' → CE outer P w H s Z u s' :=
    fun {τ' H' v u} J rv q => ⟨v, H', J.os, J.bare, J.base, J.hok, rv, q⟩
  cases fl with
  | ret u =>
    obtain ⟨v, τ', H', J, rv, q⟩ := hst
    exact ready J rv q
  | next =>
    obtain ⟨τ', H', J, q⟩ := hst
    exact ready (v := V.non) (u := Value.none) J rfl q
  | brk =>
    obtain ⟨_, _, _, q⟩ := hst
    exact False.elim q
  | cont =>
    obtain ⟨_, _, _, q⟩ := hst
    exact False.elim q
theorem cal_mk {x : Str} {st : Stmt} {N ps : List Str} {k : Nat} {sp : Sp} (D : Df K mg x st) (S : FnScope N ps (defScope st))
    (hbd : ∀ (kV doc pm : Value) (an : Option Addr) (cdv ct : Value) (us : List Value), us.length = ps.length → bindArgs (PySem.W.fnOf x x (defArgs st) (defBody st) (defScope st) .none kV doc pm an cdv ct) ⟨us, []⟩ = pure (ps.zip us))
    (len : ∀ vs H Z EE, sp vs H Z EE → vs.length = ps.length)
    (hbody : ∀ (f : Addr) (cdv : Value) (A : Around) (outer : List Env) (s : Shared) (H : Hp) (vs : List V) (Z : VK) (EE : XK), Room k (A.deeper (envOfC x (defScope st) s.heap.objs.size f cdv)) → (A.deeper (envOfC x (defScope st) s.heap.objs.size f cdv)).guards = some [] → sp vs H Z EE →
      ∃ t, PSs (cxOf CX0 P w K mg base N x (defScope st) f cdv A outer s H EE).nox (defBody st) t ∧ t { nx := fun _ H' => Z .non H', rt := Z } (start N vs) H) : CalG P w K mg base (k + 1) x sp := by
  obtain ⟨f, fd, hmg, F⟩ := D.ex
  exact ⟨f, fd, ps, fn_mk F S len (hbody f), hmg, F.kp, F.binds hbd⟩
end
section
variable {X : Cx} {pk : List (Addr × Obj)} {τ : L2.St} {H : Hp} {s : Shared} {k j : Nat} {sp : Sp} {f : Addr} {fd : FuncData} {ps : List Str} {Z : VK} {us : List Value} {vs : List V} {x : Str} {p pos : Pos} {e : Expr} {es : List Expr} {t : TA}
theorem run_fnG (F : FnG X.prog X.w X.K X.mg X.base k f fd ps sp) (hr : Room k X.A) (hg : X.A.guards = some []) (hbd : Binds X.K fd ps [])
    (I : Inv X pk τ H s) (r : Vals vs us) (h : sp vs H Z E0) : wpAny (model X.prog X.w) X.A (call (.ref f) us) (EP X pk τ Z) X.xe s := by
  have hlen : us.length = ps.length := by rw [← r.length]; exact F.len _ _ _ _ h
  have e1 : us ++ [] = us := List.append_nil us
  refine wpAny_call (codeAny_mono (F.run X.A X.stack s H ⟨us, []⟩ us vs Z E0 hr hg I.env0 (by have q := hbd s us I.kIn (by rw [e1]; exact hlen); rw [e1] at q; exact q) r h) fun r s' hsq => ?_)
  cases r with
  | error e => exact (show False from hsq).elim
  | ok fl =>
    cases fl with
    | ret u => exact I.after hsq
    | next => exact False.elim hsq
    | brk => exact False.elim hsq
    | cont => exact False.elim hsq
theorem pe_cG (c : CalG X.prog X.w X.K X.mg X.base k x sp) (hr : Room j X.A) (hg0 : X.A.guards = some []) (hkp : k ≤ j) (hg : Gl X x) (ha : PA X (e :: es) t)
    (hdb : (x == ("__debug__" : Str)) = false := by decide) (hes : starEach (e :: es) X.env = (false, eval e X.env) :: starEach es X.env := by rfl) (hpl : (backTo pos (starEach es X.env)).any (·.1) = false := by rfl) :
    PE X (.Call (.Name x p) (e :: es) [] pos) (tCall sp [] E0 t) := by
  obtain ⟨f, fd, ps, F, hmg, kp, b⟩ := c.ex
  refine ⟨fun pk s τ H Z I h => ?_⟩
  refine wpAny_Call_Name_kw (ld_glob I hg hmg ?_ hdb)
  refine PySem.W.callWith_K (h₀ := X.base) I.ok.mod.kin kp (thn (ha.run pos pk s τ H _ I h) fun us st1 ⟨vs, H1, I1, r, q⟩ => ⟨I1.kIn, ?_⟩) hes hpl
  have q : sp (vs ++ []) H1 Z E0 := q
  rw [List.append_nil] at q
  exact run_fnG F (hr.mono hkp) hg0 b I1 r q
end
end Own

namespace Own
open PySem PySem.Spec PyProof.Rows L2 Evl
theorem up_old {H : Hp} {p q : Addr} {o u : HO} (hp : H p = none) (h : H q = some u) : upd H p o q = some u := by
  rw [upd_ne (ne_of_none h hp)]
  exact h
theorem gen1 {H H1 : Hp} {p : Addr} {o : HO} (hq : upd H p o = H1) (hp : H p = none) : Ex H H1 ∧ H1 p = some o := by
  subst hq
  exact ⟨Ex.new hp, upd_same⟩
/-! ### tuples never change -/
def TEx (H H' : Hp) : Prop := ∀ a xs, H a = some (.tup xs) → H' a = some (.tup xs)
theorem TEx.refl (H : Hp) : TEx H H := fun _ _ h => h
theorem TEx.trans {H H1 H2 : Hp} (a : TEx H H1) (b : TEx H1 H2) : TEx H H2 := fun x o h => b x o (a x o h)
theorem TEx.of {H H' : Hp} (e : Ex H H') : TEx H H' := fun a _ h => e a _ h
theorem TEx.lst {H : Hp} {D : Addr} {xs : List V} {o : HO} (h : H D = some (.lst xs)) : TEx H (upd H D o) := fun a ys q => by
  rw [upd_ne (fun z => by rw [z, h] at q; cases q)]
  exact q
/-- two tuples, zipped -/
theorem walk_zipT {K : PySem.W.Frag} {a b : Addr} {xs ys : List V} {n : Nat} (hn : n = min xs.length ys.length) :
    Walk (RZ.ItzT K a b) n (fun H => SqT K H a xs ∧ SqT K H b ys) (YPair (fun i => xs[i]?) (fun i => ys[i]?)) := by
  refine ⟨fun i H hi h => ?_, fun H h => ⟨xs, ys, h.1, h.2, by omega⟩, fun i H x H' hi h y => ?_⟩
  · exact ⟨xs, ys, xs[i], ys[i], h.1, h.2, List.getElem?_eq_getElem (by omega), List.getElem?_eq_getElem (by omega)⟩
  · obtain ⟨T, u, v, rfl, h1, h2, h3, h4⟩ := y
    exact ⟨T, u, v, rfl, h1, h2, h3 _ h.1, h4 _ h.2⟩
/-- what is left of a comprehension, of a for, behind its source -/
def LcRest (g : TG) (tt : TT) (te : TE) (vs : List Nat) (σ : L2.St) (Q : VK) : It → Hp → Prop := fun J H1 => tLc (fun _ _ R => R J H1) g tt te vs σ H1 Q
def tLcO (wi : TI) (g : TG) (tt : TT) (te : TE) (vs : List Nat) : TE := fun σ H Q => wi σ H (LcRest g tt te vs σ Q)
def ForRest (g : TG) (tb : TS) (D : Ends) : L2.St → It → Hp → Prop := fun σ J H1 => tFor (fun _ _ R => R J H1) g tb D σ H1
def tForO (wi : TI) (g : TG) (tb : TS) : TS := fun D σ H => wi σ H (ForRest g tb D σ)
theorem pe_lcO {X : Cx} {e : Expr} {wi : TI} {g : TG} {tt : TT} {te : TE} {vs : List Nat} (h : PE X e (tLc wi g tt te vs)) : PE X e (tLcO wi g tt te vs) := h
theorem ps_setLcO {X : Cx} {st : Stmt} {wi : TI} {g k : TG} {tt : TT} {te : TE} {vs : List Nat} (h : PS X st (tAsg (tLc wi g tt te vs) k)) : PS X st (tAsg (tLcO wi g tt te vs) k) := h
theorem ps_forO {X : Cx} {st : Stmt} {wi : TI} {g : TG} {tb : TS} (h : PS X st (tFor wi g tb)) : PS X st (tForO wi g tb) := h
/-! ### the unions within a comprehension -/
section
variable {X : Cx} {s : Shared} {H : Hp} {sc : Scope} {ce : Env} {fp : List Addr} {s' : Shared} {H' : Hp} {sc' : Scope} {ce' : Env} {fp' : List Addr}
theorem pg_tupB {es : List Expr} {k n : Nat} {pos : Pos} {t : TGs} (hc : X.calm = true) (h : PGs (X.blk s H sc ce fp) es t) (hn : (assignEach es (X.blk s H sc ce fp).env).length = n := by rfl)
    (hst : (assignEach es (X.blk s H sc ce fp).env).findIdx? (·.1) = none := by rfl) : PG (X.blk s H sc ce fp) (.Tuple es k pos) (gTup X.K n t) := pg_tup (X := X.blk s H sc ce fp) hc h hn hst
theorem opAddB : OpR (X.blk s H sc ce fp) (binaryOp .Add) (rAdd X.K) := opAdd
theorem opEqB {k : Nat} (hr : Room k X.A) : OpR (X.blk s H sc ce fp) (compareOp .Eq) (rEqA X.K) := opEq hr
theorem opNeB {k : Nat} (hr : Room k X.A) : OpR (X.blk s H sc ce fp) (compareOp .NotEq) (rNeA X.K) := opNe hr
theorem opInB : OpR (X.blk s H sc ce fp) (compareOp .In) (rInA X.K) := opIn
theorem opNotInB : OpR (X.blk s H sc ce fp) (compareOp .NotIn) (rNotInA X.K) := opNotIn
theorem ixAnyB : IxR (X.blk s H sc ce fp) (rIxA X.K X.w) := ixAny
theorem slAnyB : SlR (X.blk s H sc ce fp) (rSlAny X.K) := slAny
theorem callLenB : CallR (X.blk s H sc ce fp) (.builtin "len") (rLenA X.K) := callLen
theorem opAddBB : OpR ((X.blk s H sc ce fp).blk s' H' sc' ce' fp') (binaryOp .Add) (rAdd X.K) := opAdd
theorem opEqBB {k : Nat} (hr : Room k X.A) : OpR ((X.blk s H sc ce fp).blk s' H' sc' ce' fp') (compareOp .Eq) (rEqA X.K) := opEq hr
theorem opNeBB {k : Nat} (hr : Room k X.A) : OpR ((X.blk s H sc ce fp).blk s' H' sc' ce' fp') (compareOp .NotEq) (rNeA X.K) := opNe hr
theorem opInBB : OpR ((X.blk s H sc ce fp).blk s' H' sc' ce' fp') (compareOp .In) (rInA X.K) := opIn
theorem opNotInBB : OpR ((X.blk s H sc ce fp).blk s' H' sc' ce' fp') (compareOp .NotIn) (rNotInA X.K) := opNotIn
theorem ixAnyBB : IxR ((X.blk s H sc ce fp).blk s' H' sc' ce' fp') (rIxA X.K X.w) := ixAny
theorem slAnyBB : SlR ((X.blk s H sc ce fp).blk s' H' sc' ce' fp') (rSlAny X.K) := slAny
theorem callLenBB : CallR ((X.blk s H sc ce fp).blk s' H' sc' ce' fp') (.builtin "len") (rLenA X.K) := callLen
end
/-- a for: Pv by the turn, the slots and the heap -/
theorem frG {J : It} {n : Nat} {G : Hp → Prop} {Y : Nat → Hp → V → Hp → Prop} (w : Walk J n G Y) {g : TG} {tb : TS} {D : Ends} {σ : L2.St} {H : Hp} (Pv : Nat → L2.St → Hp → Prop) (h0 : Pv 0 σ H) (hG : ∀ i σ H, i ≤ n → Pv i σ H → G H)
    (hs : ∀ i x σ H H', i < n → Pv i σ H → Y i H x H' → g x σ H' fun σ2 H2 => tb { D with nx := Pv (i + 1), ct := Pv (i + 1), bk := D.nx } σ2 H2) (hd : ∀ σ H, Pv n σ H → D.nx σ H) : ForRest g tb D σ J H := for_it w Pv h0 hG hs hd
/-- a comprehension whose turns may give anything: Pa speaks of the turn, what has been given, and tuples -/
theorem lcG {J : It} {n : Nat} {G : Hp → Prop} {Y : Nat → Hp → V → Hp → Prop} (w : Walk J n G Y) {g : TG} {tt : TT} {te : TE} {vs : List Nat} {σ : L2.St} {H1 : Hp} {Q : VK} (hn : n ≤ 40000) (hG0 : G H1) (hGm : ∀ H H', Ex H H' → G H → G H') (hY : ∀ i H x H', Y i H x H' → Ex H H')
    (Pa : Nat → List V → Hp → Prop) (hm : ∀ i ys H H', TEx H H' → Pa i ys H → Pa i ys H') (p0 : Pa 0 [] H1)
    (hs : ∀ i x H H' ys, i < n → Ex H1 H → Y i H x H' → Pa i ys H' → ∀ (N : V → Hp → Prop) (N0 : Hp → Prop), (∀ y H4, Ex H' H4 → Pa (i + 1) (ys ++ [y]) H4 → N y H4) → (∀ H3, Ex H' H3 → Pa (i + 1) ys H3 → N0 H3) →
      g x (wipe σ vs) H' fun σ2 H2 => wipe σ2 vs = wipe σ vs ∧ tt σ2 H2 fun b H3 => if b = true then te σ2 H3 N else N0 H3)
    (k : ∀ D H2 ys, H1 D = none → Ex H1 H2 → H2 D = some (.lst ys) → ys.length ≤ n → Pa n ys H2 → Q (.ref D) H2) :
    LcRest g tt te vs σ Q J H1 := by
  intro D hD
  refine lc_it w (fun i H => ∃ ys, Ex H1 H ∧ H D = some (.lst ys) ∧ ys.length ≤ i ∧ Pa i ys H) ⟨[], Ex.new hD, upd_same, Nat.zero_le _, hm _ _ _ _ (TEx.of (Ex.new hD)) p0⟩ (fun i H hi ⟨ys, e, _⟩ => hGm _ _ e hG0) ?_ ?_
  · rintro i x H H' hi ⟨ys, e, hd, hl, hp⟩ hy
    have e' := hY _ _ _ _ hy
    refine hs i x H H' ys hi e hy (hm _ _ _ _ (TEx.of e') hp) _ _ (fun y H4 e4 p4 => ?_) (fun H3 e3 p3 => ?_)
    · have d4 := e4 _ _ (e' _ _ hd)
      refine ⟨ys, d4, sz_lt (by omega), ys ++ [y], Ex.mut ((e.trans e').trans e4) hD, upd_same, ?_, hm _ _ _ _ (TEx.lst d4) p4⟩
      rw [List.length_append]
      show ys.length + 1 ≤ i + 1
      omega
    · exact ⟨ys, (e.trans e').trans e3, e3 _ _ (e' _ _ hd), by omega, p3⟩
  · rintro H ⟨ys, e, hd, hl, hp⟩
    exact k D H ys hD e hd hl hp
theorem ex_eq {H H' : Hp} (h : H' = H) : Ex H H' := by
  subst h
  exact Ex.refl _
theorem yAt_ex {xs : List V} : ∀ i H x H', YAt xs i H x H' → Ex H H' := fun _ _ _ _ h => ex_eq h.1
theorem yFn_ex {f : Nat → V} : ∀ i H x H', YFn f i H x H' → Ex H H' := fun _ _ _ _ h => ex_eq h.1
theorem yPair_ex {xs ys : Nat → Option V} : ∀ i H x H', YPair xs ys i H x H' → Ex H H' := fun _ _ _ _ h => by
  obtain ⟨T, u, v, _, h1, rfl, _, _⟩ := h
  exact Ex.new h1
/-! ### texts by their signs -/
def cs (z : Str) : List Nat := z.cps.toList
theorem cs_ext {a b : Str} (h : cs a = cs b) : a = b := PyProof.Rows.ext_toList h
theorem cs_len (z : Str) : z.length = (cs z).length := by simp [cs, Str.length]
theorem cs_add (a b : Str) : cs (a ++ b) = cs a ++ cs b := TL.tl_append a b
theorem cs_one (c : Nat) : cs ⟨#[c]⟩ = [c] := rfl
theorem cut_from (xs : List V) (j : Nat) : cutV xs (some (j : Int)) none = xs.drop j := by
  unfold cutV
  rw [HT.sIx_nat, HT.sIx_none]
  by_cases h : j ≤ xs.length
  · rw [Nat.min_eq_left h]
    apply List.take_of_length_le
    rw [List.length_drop]
    exact Nat.le_refl _
  · rw [Nat.min_eq_right (by omega), Nat.sub_self, List.take_zero, List.drop_of_length_le (by omega)]
theorem joinL_one : ∀ l : List Nat, TL.joinL [] (l.map fun c => [c]) = l
  | [] => rfl
  | [c] => rfl
  | c :: d :: r => by
    show [c] ++ ([] ++ TL.joinL [] ((d :: r).map fun c => [c])) = c :: d :: r
    rw [joinL_one (d :: r)]
    rfl
def sgn (c : Nat) : Str := ⟨#[c]⟩
theorem sum_sgn : ∀ cr : List Nat, ((cr.map sgn).map (·.length)).sum = cr.length
  | [] => rfl
  | c :: r => by
    rw [List.map_cons, List.map_cons, List.sum_cons, sum_sgn r, List.length_cons]
    show 1 + r.length = r.length + 1
    omega
theorem join_sgn (l : List Nat) : Txt.join ("" : Str) (l.map sgn) = SX.S l := by
  have e : l.map sgn = (l.map fun c => [c]).map SX.S := by
    rw [List.map_map]
    rfl
  rw [e]
  have q := SX.join_S [] (l.map fun c => [c])
  rw [joinL_one] at q
  exact q
theorem in_strs (z : Str) : ∀ ns : List Str, inV (.str z) (ns.map V.str) = decide (z ∈ ns)
  | [] => rfl
  | n :: ns => by
    have ih := in_strs z ns
    unfold inV at ih ⊢
    rw [List.map_cons, List.any_cons, ih]
    show ((n == z) || decide (z ∈ ns)) = decide (z ∈ n :: ns)
    by_cases h : n = z
    · subst h
      simp
    · have h2 : ¬ z = n := fun e => h e.symm
      have h3 : (n == z) = false := beq_eq_false_iff_ne.mpr h
      rw [h3, Bool.false_or]
      simp [h2]
theorem flat_strs (ns : List Str) : (ns.map V.str).all flatV = true := by
  rw [List.all_eq_true]
  intro x hx
  obtain ⟨y, _, rfl⟩ := List.mem_map.mp hx
  rfl
theorem str_at {ns : List Str} {i : Nat} {x : V} (h : (ns.map V.str)[i]? = some x) : ∃ z, ns[i]? = some z ∧ x = .str z := by
  rw [List.getElem?_map] at h
  cases e : ns[i]? with
  | none => rw [e] at h; cases h
  | some z => rw [e] at h; exact ⟨z, rfl, (Option.some.inj h).symm⟩
end Own

namespace Own
open PySem PySem.Spec PyProof.Rows L2 Evl
theorem listText_le (ts : List Str) : (listText ts).length ≤ piled ts + 3 := by
  unfold listText
  rw [strLen_append]
  cases ts with
  | nil => decide
  | cons t r =>
    show (textFrom 1 (("[" : Str) ++ ("" : Str) ++ t) r).length + 1 ≤ _
    rw [textFrom_length_pos _ _ _ (by decide), piled_cons, strLen_append, strLen_append]
    show 1 + 0 + t.length + piled r + 1 ≤ _
    omega
theorem tupleText_le (ts : List Str) : (tupleText ts).length ≤ piled ts + 3 := by
  unfold tupleText
  rw [strLen_append, strLen_append]
  have e3 : (((if ts.length == 1 then ",)" else ")" : String) : Str)).length ≤ 2 := by split <;> decide
  have e1 : ((("(" : String) : Str)).length = 1 := rfl
  by_cases h : ts = []
  · subst h
    decide
  · have := join_length_add ts h
    omega
mutual
/-- no text of d is longer -/
def wt : PyData → Nat
  | .none => 4
  | .bool _ => 5
  | .int _ => 1921
  | .str x => 10 * x.length + 2
  | .list xs => wts xs + 3
  | .tuple xs => wts xs + 3
  | .dict _ => 0
def wts : List PyData → Nat
  | [] => 0
  | x :: xs => wt x + 2 + wts xs
end
mutual
theorem shown_le : ∀ d : PyData, d.canLay0 = true → d.showable = true → d.shown.length ≤ wt d
  | .none, _, _ => by decide
  | .bool b, _, _ => by cases b <;> decide
  | .int i, _, h => int_text_len_1921 (of_decide_eq_true h)
  | .str x, h, _ => by
    refine StrLaws.reprText_len x fun c hc => ?_
    have h2 : x.cps.all (· < 0x110000) = true := h
    rw [← Array.all_toList] at h2
    have q := of_decide_eq_true ((List.all_eq_true.mp h2) c hc)
    exact Nat.lt_trans q (by decide)
  | .list xs, h, h2 => by
    have q := shownAll_le xs h h2
    have z := listText_le (PyData.shownAll xs)
    show (listText (PyData.shownAll xs)).length ≤ wts xs + 3
    omega
  | .tuple xs, h, h2 => by
    have q := shownAll_le xs h h2
    have z := tupleText_le (PyData.shownAll xs)
    show (tupleText (PyData.shownAll xs)).length ≤ wts xs + 3
    omega
  | .dict _, h, _ => by cases h
theorem shownAll_le : ∀ ds : List PyData, PyData.canLayAll0 ds = true → PyData.showableAll ds = true → piled (PyData.shownAll ds) ≤ wts ds
  | [], _, _ => Nat.le_refl _
  | d :: ds, h, h2 => by
    have h' : (d.canLay0 && PyData.canLayAll0 ds) = true := h
    have h2' : (d.showable && PyData.showableAll ds) = true := h2
    rw [Bool.and_eq_true] at h' h2'
    have q1 := shown_le d h'.1 h2'.1
    have q2 := shownAll_le ds h'.2 h2'.2
    show piled (d.shown :: PyData.shownAll ds) ≤ wt d + 2 + wts ds
    rw [piled_cons]
    omega
end
/-- data that may be shown and compared -/
def fine (d : PyData) : Prop := d.canLay0 = true ∧ d.showable = true ∧ d.depth ≤ 20 ∧ wt d ≤ 16000000
theorem fine.noDict {d : PyData} (h : fine d) : d.hasDict = false := PyData.hasDict_of_canLay d h.1
theorem fine.shp {d : PyData} (h : fine d) : SeqAt.shaped d = true := by
  unfold SeqAt.shaped
  rw [h.1, Bool.true_and]
  exact decide_eq_true (Nat.le_trans h.2.2.1 (by decide))
theorem fine.len {d : PyData} (h : fine d) : d.shown.length ≤ sizeLine := Nat.le_trans (shown_le d h.1 h.2.1) (Nat.le_trans h.2.2.2 (by decide))
/-- repr of any data -/
def rReprA (K : PySem.W.Frag) : List V → Hp → VK → Prop := fun xs H Q => ∃ v d, xs = [v] ∧ Dp K H v d ∧ fine d ∧ Q (.str d.shown) H
theorem callReprA {X : Cx} {k : Nat} (hg : X.A.guards = some []) (hr : Room k X.A) : CallR X (.builtin "repr") (rReprA X.K) := by
  intro pk s τ H xs us Q I r h
  obtain ⟨v, d, rfl, hd, hf, q⟩ := h
  cases hd with
  | lst h1 h2 => exact callRepr hg hr pk s τ H _ us Q I r ⟨_, _, rfl, .lst h1 h2, hf.2.1, hf.noDict, hf.2.2.1, hf.len, q⟩
  | tup h1 h2 => exact callRepr hg hr pk s τ H _ us Q I r ⟨_, _, rfl, .tup h1 h2, hf.2.1, hf.noDict, hf.2.2.1, hf.len, q⟩
  | non =>
    obtain ⟨u, rfl, ru⟩ := vals1 r
    cases ru
    exact PySem.P.repr_of_none ⟨.str "None", H, I.tok _, ⟨_, rfl⟩, q⟩
  | bl b =>
    obtain ⟨u, rfl, ru⟩ := vals1 r
    cases ru
    exact PySem.P.repr_of_bool ⟨.str (if b then "True" else "False"), H, I.tok _, ⟨_, by cases b <;> rfl⟩, by cases b <;> exact q⟩
  | int i =>
    obtain ⟨u, rfl, t, rfl⟩ := vals1 r
    exact PySem.P.repr_of_int (of_decide_eq_true hf.2.1) ⟨.str (toString i), H, I.tok _, ⟨_, rfl⟩, q⟩
  | str x =>
    obtain ⟨u, rfl, t, rfl⟩ := vals1 r
    exact PySem.P.repr_of_str ⟨.str (reprText x), H, I.tok _, ⟨_, rfl⟩, q⟩ hf.len
def spAlike (K : PySem.W.Frag) : Sp := fun vs H Q _ => ∃ (x y : V) (d : PyData), vs = [x, y] ∧ Dp K H x d ∧ Dp K H y d ∧ fine d ∧ Q (.bl true) H
/-- bounds by parts -/
def fin (n W : Nat) (d : PyData) : Prop := d.canLay0 = true ∧ d.showable = true ∧ d.depth ≤ n ∧ wt d ≤ W
theorem fin.fine {n W : Nat} {d : PyData} (h : fin n W d) (h1 : n ≤ 20) (h2 : W ≤ 16000000) : fine d := ⟨h.1, h.2.1, Nat.le_trans h.2.2.1 h1, Nat.le_trans h.2.2.2 h2⟩
theorem fin.mono {n W n' W' : Nat} {d : PyData} (h : fin n W d) (h1 : n ≤ n') (h2 : W ≤ W') : fin n' W' d := ⟨h.1, h.2.1, Nat.le_trans h.2.2.1 h1, Nat.le_trans h.2.2.2 h2⟩
theorem fin_all {n W : Nat} : ∀ {ds : List PyData}, (∀ d ∈ ds, fin n W d) → PyData.canLayAll0 ds = true ∧ PyData.showableAll ds = true ∧ PyData.depthAll ds ≤ n ∧ wts ds ≤ ds.length * (W + 2)
  | [], _ => ⟨rfl, rfl, Nat.zero_le _, Nat.zero_le _⟩
  | d :: ds, h => by
    obtain ⟨a1, a2, a3, a4⟩ := h d List.mem_cons_self
    obtain ⟨b1, b2, b3, b4⟩ := fin_all fun x hx => h x (List.mem_cons_of_mem _ hx)
    refine ⟨?_, ?_, ?_, ?_⟩
    · show (d.canLay0 && PyData.canLayAll0 ds) = true
      rw [a1, b1]
      rfl
    · show (d.showable && PyData.showableAll ds) = true
      rw [a2, b2]
      rfl
    · show max d.depth (PyData.depthAll ds) ≤ n
      omega
    · show wt d + 2 + wts ds ≤ (ds.length + 1) * (W + 2)
      rw [Nat.add_mul]
      omega
theorem fin_list {n W m : Nat} {ds : List PyData} (h : ∀ d ∈ ds, fin n W d) (hm : ds.length ≤ m) : fin (n + 1) (m * (W + 2) + 3) (.list ds) := by
  obtain ⟨b1, b2, b3, b4⟩ := fin_all h
  refine ⟨b1, b2, Nat.succ_le_succ b3, ?_⟩
  show wts ds + 3 ≤ _
  have q := Nat.mul_le_mul_right (W + 2) hm
  omega
theorem fin_tup {n W m : Nat} {ds : List PyData} (h : ∀ d ∈ ds, fin n W d) (hm : ds.length ≤ m) : fin (n + 1) (m * (W + 2) + 3) (.tuple ds) := by
  obtain ⟨b1, b2, b3, b4⟩ := fin_all h
  refine ⟨b1, b2, Nat.succ_le_succ b3, ?_⟩
  show wts ds + 3 ≤ _
  have q := Nat.mul_le_mul_right (W + 2) hm
  omega
theorem fin_str {z : Str} {L : Nat} (h : (PyData.str z).canLay0 = true) (hl : z.length ≤ L) : fin 0 (10 * L + 2) (.str z) := by
  refine ⟨h, rfl, Nat.le_refl _, ?_⟩
  show 10 * z.length + 2 ≤ _
  omega
theorem fin_bool (b : Bool) : fin 0 5 (.bool b) := ⟨rfl, rfl, Nat.le_refl _, Nat.le_refl _⟩
theorem fin_none : fin 0 5 .none := ⟨rfl, rfl, Nat.le_refl _, by show 4 ≤ 5; decide⟩
theorem fin_int {i : Int} (h : i.natAbs.log2 < 1920) : fin 0 1921 (.int i) := ⟨rfl, decide_eq_true h, Nat.le_refl _, Nat.le_refl _⟩
/-- a text times 0 or 1 -/
def rMulS : R2 := fun x y H Q => ∃ (z : Str) (k : Bool), x = .str z ∧ y = .int (if k then 1 else 0) ∧ z.length ≤ 100000 ∧ Q (.str (if k then z else Str.empty)) H
theorem op_mulS {X : Cx} : OpR X (binaryOp .Mult) rMulS := by
  intro pk s τ H x y v u Q I rx ry h
  obtain ⟨z, k, rfl, rfl, hl, q⟩ := h
  obtain ⟨t, rfl⟩ := rx
  cases k with
  | false =>
    obtain ⟨t', rfl⟩ := ry
    exact PySem.P.mul_str_none (by decide) (by decide) ⟨.str _, H, I.tok _, ⟨_, rfl⟩, q⟩
  | true =>
    obtain ⟨t', rfl⟩ := ry
    have z : EP X pk τ Q (.str z t) s := ⟨.str _, H, I, ⟨_, rfl⟩, q⟩
    refine PySem.P.mul_str (by decide) (fun _ h => absurd h (by simp)) (fun _ h => absurd h (by simp)) ?_
    rw [if_neg (by decide), if_pos (by simp)]
    exact z
end Own

namespace Own
open PySem PySem.Spec PyProof.Rows L2 Evl
/-! ### two sources in one comprehension -/
def Lc2Rest (g : TG) (tt : TT) (wi1 : TI) (g1 : TG) (tt1 : TT) (te : TE) (vs vs1 : List Nat) (σ : L2.St) (Q : VK) : It → Hp → Prop := fun J H1 => tLc2 (fun _ _ R => R J H1) g tt wi1 g1 tt1 te vs vs1 σ H1 Q
def tLc2O (wi : TI) (g : TG) (tt : TT) (wi1 : TI) (g1 : TG) (tt1 : TT) (te : TE) (vs vs1 : List Nat) : TE := fun σ H Q => wi σ H (Lc2Rest g tt wi1 g1 tt1 te vs vs1 σ Q)
theorem pe_lc2O {X : Cx} {e : Expr} {wi wi1 : TI} {g g1 : TG} {tt tt1 : TT} {te : TE} {vs vs1 : List Nat} (h : PE X e (tLc2 wi g tt wi1 g1 tt1 te vs vs1)) : PE X e (tLc2O wi g tt wi1 g1 tt1 te vs vs1) := h
theorem ps_setLc2O {X : Cx} {st : Stmt} {wi wi1 : TI} {g g1 k : TG} {tt tt1 : TT} {te : TE} {vs vs1 : List Nat} (h : PS X st (tAsg (tLc2 wi g tt wi1 g1 tt1 te vs vs1) k)) : PS X st (tAsg (tLc2O wi g tt wi1 g1 tt1 te vs vs1) k) := h
theorem piAnyB {X : Cx} {s : Shared} {H : Hp} {sc : Scope} {ce : Env} {fp : List Addr} {tg l : Expr} {tl : TE} (hl : PE (X.blk s H sc ce fp) l tl) : PI (X.blk s H sc ce fp) tg l (iAny X.K tl) := piAny hl
/-- what is left of the second source's loop -/
def InRest (D : Addr) (Nx : Hp → Prop) (g1 : TG) (tt1 : TT) (te : TE) (vs1 : List Nat) (σ2 : L2.St) : It → Hp → Prop := fun J1 H4 => ∃ W1 : Nat → Nat → Hp → Prop, (∃ m, W1 0 m H4) ∧ ∀ j k H, W1 j k H →
  (J1.stop j H ∧ Nx H) ∨ (J1.go j H ∧ ∃ Nx1 : Hp → Prop, (∀ H', Nx1 H' → ∃ k', k' < k ∧ W1 (j + 1) k' H') ∧ ∀ x H', J1.yld j H x H' → g1 x (wipe σ2 vs1) H' fun σ3 H5 => wipe σ3 vs1 = wipe σ2 vs1 ∧ tt1 σ3 H5 fun b H6 =>
    if b = true then te σ3 H6 fun y H7 => ∃ acc, H7 D = some (.lst acc) ∧ acc.length < sizeLine ∧ Nx1 (upd H7 D (.lst (acc ++ [y]))) else Nx1 H6)
theorem inG {J1 : It} {n1 : Nat} {G1 : Hp → Prop} {Y1 : Nat → Hp → V → Hp → Prop} (w1 : Walk J1 n1 G1 Y1) {D : Addr} {Nx : Hp → Prop} {g1 : TG} {tt1 : TT} {te : TE} {vs1 : List Nat} {σ2 : L2.St} {H1 H4 : Hp} {ys : List V}
    (hD : H1 D = none) (e0 : Ex H1 H4) (hd : H4 D = some (.lst ys)) (hG1 : ∀ H, Ex H1 H → TEx H4 H → G1 H) (hY1 : ∀ i H x H', Y1 i H x H' → Ex H H') (Pb : Nat → List V → Hp → Prop) (hm : ∀ j zs H H', TEx H H' → Pb j zs H → Pb j zs H') (hl : ∀ j zs H, Pb j zs H → zs.length ≤ 40000) (p0 : Pb 0 ys H4)
    (hs : ∀ j x H5 H6 zs, j < n1 → Ex H1 H5 → TEx H4 H5 → Y1 j H5 x H6 → Pb j zs H6 → ∀ (N : V → Hp → Prop) (N1 : Hp → Prop), (∀ y H7, Ex H6 H7 → Pb (j + 1) (zs ++ [y]) H7 → N y H7) → (∀ H7, Ex H6 H7 → Pb (j + 1) zs H7 → N1 H7) →
      g1 x (wipe σ2 vs1) H6 fun σ3 H7 => wipe σ3 vs1 = wipe σ2 vs1 ∧ tt1 σ3 H7 fun b H8 => if b = true then te σ3 H8 N else N1 H8)
    (hend : ∀ zs H, Ex H1 H → TEx H4 H → H D = some (.lst zs) → Pb n1 zs H → Nx H) : InRest D Nx g1 tt1 te vs1 σ2 J1 H4 := by
  refine ⟨fun j k H => k = n1 - j ∧ j ≤ n1 ∧ ∃ zs, Ex H1 H ∧ TEx H4 H ∧ H D = some (.lst zs) ∧ Pb j zs H, ⟨n1, by simp, Nat.zero_le _, ys, e0, TEx.refl _, hd, p0⟩, ?_⟩
  rintro j k H ⟨rfl, hj, zs, e, t, d, p⟩
  have hg := hG1 H e t
  by_cases hlt : j < n1
  · refine .inr ⟨w1.goes j H hlt hg, fun H' => ∃ zs, Ex H1 H' ∧ TEx H4 H' ∧ H' D = some (.lst zs) ∧ Pb (j + 1) zs H', fun H' q => ⟨n1 - (j + 1), by omega, rfl, hlt, q⟩, fun x H' y => ?_⟩
    have hy := w1.yields j H x H' hlt hg y
    have e' := hY1 _ _ _ _ hy
    refine hs j x H H' zs hlt e t hy (hm _ _ _ _ (TEx.of e') p) _ _ (fun v H7 e7 p7 => ?_) (fun H7 e7 p7 => ?_)
    · have d7 := e7 _ _ (e' _ _ d)
      have b := hl _ _ _ p
      exact ⟨zs, d7, sz_lt (by omega), zs ++ [v], Ex.mut ((e.trans e').trans e7) hD, (t.trans (TEx.of (e'.trans e7))).trans (TEx.lst d7), upd_same, hm _ _ _ _ (TEx.lst d7) p7⟩
    · exact ⟨zs, (e.trans e').trans e7, t.trans (TEx.of (e'.trans e7)), e7 _ _ (e' _ _ d), p7⟩
  · have ej : j = n1 := by omega
    subst ej
    exact .inl ⟨w1.stops H hg, hend zs H e t d p⟩
/-- a comprehension over two sources whose turns may give anything -/
theorem lc2G {J : It} {n : Nat} {G : Hp → Prop} {Y : Nat → Hp → V → Hp → Prop} (w : Walk J n G Y) {g : TG} {tt : TT} {wi1 : TI} {g1 : TG} {tt1 : TT} {te : TE} {vs vs1 : List Nat} {σ : L2.St} {H1 : Hp} {Q : VK} (hG0 : G H1) (hGm : ∀ H H', Ex H H' → G H → G H') (hY : ∀ i H x H', Y i H x H' → Ex H H')
    (Pa : Nat → List V → Hp → Prop) (hm : ∀ i ys H H', TEx H H' → Pa i ys H → Pa i ys H') (p0 : Pa 0 [] H1)
    (hs : ∀ i x H H' ys, i < n → Ex H1 H → Y i H x H' → Pa i ys H' → ∀ (D : Addr) (Nx : Hp → Prop), H1 D = none → H' D = some (.lst ys) → (∀ zs H3, Ex H1 H3 → H3 D = some (.lst zs) → Pa (i + 1) zs H3 → Nx H3) →
      g x (wipe σ vs) H' fun σ2 H2 => wipe σ2 vs = wipe σ vs ∧ tt σ2 H2 fun b H3 => if b = true then wi1 σ2 H3 (InRest D Nx g1 tt1 te vs1 σ2) else Nx H3)
    (k : ∀ D H2 ys, H1 D = none → Ex H1 H2 → H2 D = some (.lst ys) → Pa n ys H2 → Q (.ref D) H2) : Lc2Rest g tt wi1 g1 tt1 te vs vs1 σ Q J H1 := by
  intro D hD
  refine ⟨fun i m H => m = n - i ∧ i ≤ n ∧ ∃ ys, Ex H1 H ∧ H D = some (.lst ys) ∧ Pa i ys H, ⟨n, by simp, Nat.zero_le _, [], Ex.new hD, upd_same, hm _ _ _ _ (TEx.of (Ex.new hD)) p0⟩, ?_⟩
  rintro i m H ⟨rfl, hi, ys, e, d, p⟩
  have hg := hGm _ _ e hG0
  by_cases hlt : i < n
  · refine .inr ⟨w.goes i H hlt hg, fun H' => ∃ ys, Ex H1 H' ∧ H' D = some (.lst ys) ∧ Pa (i + 1) ys H', fun H' q => ⟨n - (i + 1), by omega, rfl, hlt, q⟩, fun x H' y => ?_⟩
    have hy := w.yields i H x H' hlt hg y
    have e' := hY _ _ _ _ hy
    exact hs i x H H' ys hlt e hy (hm _ _ _ _ (TEx.of e') p) D _ hD (e' _ _ d) fun zs H3 e3 d3 p3 => ⟨zs, e3, d3, p3⟩
  · have ej : i = n := by omega
    subst ej
    exact .inl ⟨w.stops H hg, k D H ys hD e d p⟩
/-! ### xs[::s], s being 1 or -1 -/
def tDirL (K : PySem.W.Frag) (te ts : TE) : TE := fun σ H Q => te σ H fun x H1 => tPart ts σ H1 fun o H2 => ∃ (a : Addr) (xs : List V) (i : Bool), x = .ref a ∧ SqL K H2 a xs ∧ o = some (if i = true then 1 else -1) ∧ ∀ p, H2 p = none → Q (.ref p) (upd H2 p (.lst (if i = true then xs else xs.reverse)))
theorem cut_all (xs : List V) : cutV xs none none = xs := by
  unfold cutV
  rw [HT.sIx_none, HT.sIx_none, List.drop_zero, Nat.sub_zero, List.take_length]
theorem pe_dirL {X : Cx} {e es : Expr} {te ts : TE} {p3 pos : Pos} (he : PE X e te) (hs : PE X es ts)
    (hsub : ∀ (a l : Addr), subscripted (.Slice none none (some es) p3) false (.ref a) (.ref l) = operate [.ref a, .ref l] (getItem (.ref a) (.ref l)) := by intro _ _; with_unfolding_all rfl) : PE X (.Subscript e (.Slice none none (some es) p3) pos) (tDirL X.K te ts) := by
  refine ⟨fun pins s σ H Q I h => ?_⟩
  refine Subscript_ (thn (he.run pins s σ H _ I h) fun v s1 ⟨x, H1, I1, r1, q1⟩ => ?_)
  refine wpAny_Slice (thn (po_none.run pins s1 σ H1 (fun o H2 => o = none ∧ H2 = H1) I1 ⟨rfl, rfl⟩) fun vl s2 ⟨l, H2, I2, pl, el, e2⟩ => ?_)
  subst el e2
  refine thn (po_none.run pins s2 σ H2 (fun o H3 => o = none ∧ H3 = H2) I2 ⟨rfl, rfl⟩) fun vu s3 ⟨u, H3, I3, pu, eu, e3⟩ => ?_
  subst eu e3
  have hst : PO X (some es) (tPart ts) := po_some hs
  refine thn (hst.run pins s3 σ H3 _ I3 q1) fun vs s4 ⟨o, H4, I4, ps, a, xs, ib, ex, hx, eo, q⟩ => ?_
  subst ex
  cases r1
  subst eo
  have I5 : Inv X pins σ H4 { s4 with heap := s4.heap.push { cls := .type "slice", data := .fields #[vl, vu, vs] } } := I4.kept (t' := s4.toks) fun b ob q => Heap.get?_push_of_some _ q
  obtain ⟨its, r, ht, hz⟩ := I5.list hx
  have hlen := r.length
  show wpAny (model X.prog X.w) X.A (subscriptTail e (.Slice none none (some es) p3) (.ref a) (.ref s4.heap.objs.size)) (EP X pins σ Q) X.xe { s4 with heap := s4.heap.push { cls := .type "slice", data := .fields #[vl, vu, vs] } }
  refine tail_any (ops := [.ref a, .ref s4.heap.objs.size]) ht.isList.typeIs (PySem.slot_list_getitem.lookup) ?_ (hsub _ _)
  cases ib with
  | true =>
    simp only [if_true] at q ps ⊢
    refine wpAny_getItem_list_slice ht.isList (Heap.IsSliceOf.new _ vl vu vs) pl pu ps (by decide) ?_ (by rw [List.size_toArray]; omega)
    rw [show slicePick its.toArray none none (some 1) = slicePick its.toArray none none none from rfl, slicePick_cut, HT.sIx_none, HT.sIx_none, List.drop_zero, Nat.sub_zero, List.take_length]
    exact ⟨.ref _, _, I5.laid (t' := s4.toks) (o := .lst xs) (fun b ob q => Heap.get?_push_of_some _ q) (Nat.le_refl _) ⟨hz, _, 0, r, Heap.get?_push_size _ rfl⟩, rfl, q _ (I5.hok.fresh (Nat.le_refl _))⟩
  | false =>
    simp only [Bool.false_eq_true, if_false] at q ps ⊢
    refine wpAny_getItem_list_slice ht.isList (Heap.IsSliceOf.new _ vl vu vs) pl pu ps (by decide) ?_ (by rw [List.size_toArray]; omega)
    rw [PySem.W.krv_pick]
    exact ⟨.ref _, _, I5.laid (t' := s4.toks) (o := .lst xs.reverse) (fun b ob q => Heap.get?_push_of_some _ q) (Nat.le_refl _) ⟨by rw [List.length_reverse]; exact hz, _, 0, r.reverse, Heap.get?_push_size _ rfl⟩, rfl, q _ (I5.hok.fresh (Nat.le_refl _))⟩
theorem ifT {b : Bool} {p q : Prop} (h : b = true) (x : p) : if b = true then p else q := by
  rw [h]
  exact iteT x
theorem ifF {b : Bool} {p q : Prop} (h : b = false) (x : q) : if b = true then p else q := by
  rw [h]
  exact iteF x
theorem cut_to (xs : List V) (j : Nat) : cutV xs none (some (j : Int)) = xs.take j := by
  unfold cutV
  rw [HT.sIx_nat, HT.sIx_none, List.drop_zero, Nat.sub_zero]
  by_cases h : j ≤ xs.length
  · rw [Nat.min_eq_left h]
  · rw [Nat.min_eq_right (by omega), List.take_of_length_le (Nat.le_refl _), List.take_of_length_le (by omega)]
/-! ### repr of a dict of texts and ints -/
def kvV (p : Str × Int) : Key × V := (Sum.inr p.1, .int p.2)
def kvP (p : Str × Int) : PyData × PyData := (.str p.1, .int p.2)
def dcD (kv : List (Str × Int)) : PyData := .dict (kv.map kvP)
theorem dc_reads {P : Program} {w : World} {h : Heap} : ∀ {kv : List (Str × Int)} {us : List (Key × Value)} {es : List DictEntry}, KV (kv.map kvV) us → Pairs (mixKind P w) es us →
    ReadsAll h (es.map (·.key)) ((kv.map kvP).map (·.1)) [] ∧ ReadsAll h (es.map (·.val)) ((kv.map kvP).map (·.2)) []
  | [], _, _, .nil, .nil => ⟨.nil, .nil⟩
  | p :: kv, u :: us, e :: es, .cons a b, .cons c d f => by
    obtain ⟨q1, q2⟩ := dc_reads b f
    obtain ⟨a1, t, a2⟩ := a
    have a1 : Sum.inr p.1 = u.1 := a1
    rcases keyIs_shape (show keyIs u.1 e.key = true from c) with ⟨i, t', e1, e2⟩ | ⟨x, t', e1, e2⟩
    · rw [← a1] at e1
      cases e1
    · rw [← a1] at e1
      cases e1
      refine ⟨?_, ?_⟩
      · show ReadsAll h (e.key :: es.map (·.key)) (PyData.str p.1 :: (kv.map kvP).map (·.1)) ([] ++ [])
        rw [e2]
        exact .cons (.str _ _) q1
      · show ReadsAll h (e.val :: es.map (·.val)) (PyData.int p.2 :: (kv.map kvP).map (·.2)) ([] ++ [])
        rw [d, a2]
        exact .cons (.int _ _) q2
def kvOk (p : Str × Int) : Prop := (PyData.str p.1).canLay0 = true ∧ p.1.length ≤ 100 ∧ p.2.natAbs.log2 < 1920
theorem dc_depth : ∀ kv : List (Str × Int), PyData.depthKv (kv.map kvP) = 0
  | [] => rfl
  | p :: kv => by
    show max (max 0 0) (PyData.depthKv (kv.map kvP)) = 0
    rw [dc_depth kv]
    rfl
theorem dc_show : ∀ {kv : List (Str × Int)}, (∀ p ∈ kv, kvOk p) → PyData.showableKv (kv.map kvP) = true ∧ ((PyData.shownKv (kv.map kvP)).map (·.length)).sum ≤ kv.length * 3000 ∧ (PyData.shownKv (kv.map kvP)).length = kv.length
  | [], _ => ⟨rfl, Nat.le_refl _, rfl⟩
  | p :: kv, h => by
    obtain ⟨a1, a2, a3⟩ := dc_show fun q hq => h q (List.mem_cons_of_mem _ hq)
    obtain ⟨b1, b2, b3⟩ := h p List.mem_cons_self
    have s1 := shown_le (.str p.1) b1 rfl
    have s2 := shown_le (.int p.2) rfl (decide_eq_true b3)
    have s1 : (PyData.shown (.str p.1)).length ≤ 10 * p.1.length + 2 := s1
    have s2 : (PyData.shown (.int p.2)).length ≤ 1921 := s2
    refine ⟨?_, ?_, ?_⟩
    · show ((PyData.str p.1).showable && (PyData.int p.2).showable && PyData.showableKv (kv.map kvP)) = true
      rw [a1, show (PyData.str p.1).showable = true from rfl, show (PyData.int p.2).showable = true from decide_eq_true b3]
      rfl
    · show ((PyData.shownKv ((PyData.str p.1, PyData.int p.2) :: kv.map kvP)).map (·.length)).sum ≤ (kv.length + 1) * 3000
      rw [PyData.shownKv_cons, List.map_cons, List.sum_cons, strLen_append, strLen_append]
      have : (": " : Str).length = 2 := rfl
      omega
    · show (PyData.shownKv ((PyData.str p.1, PyData.int p.2) :: kv.map kvP)).length = kv.length + 1
      rw [PyData.shownKv_cons, List.length_cons, a3]
def rReprK : List V → Hp → VK → Prop := fun xs H Q => ∃ (a : Addr) (kv : List (Str × Int)), xs = [.ref a] ∧ H a = some (.dK (kv.map kvV)) ∧ (∀ p ∈ kv, kvOk p) ∧ kv.length ≤ 1000 ∧ Q (.str (dcD kv).shown) H
theorem callReprK {X : Cx} {k : Nat} (hg : X.A.guards = some []) (hr : Room k X.A) : CallR X (.builtin "repr") rReprK := by
  intro pk s τ H xs us Q I r h
  obtain ⟨a, kv, rfl, ha, hok, hl, q⟩ := h
  rw [Vals.ref1 r]
  obtain ⟨hz, hsm, vs, rel, o, es, ep, ho, hex, hdat, hko, hp, hn⟩ := dk_of I.hok ha
  obtain ⟨r1, r2⟩ := dc_reads (h := s.heap) rel hp
  obtain ⟨s1, s2, s3⟩ := dc_show hok
  have rd : Reads s.heap (.ref a) (dcD kv) (a :: [] ++ []) := Reads.dict ho hex.1 hdat r1 r2
  have hu := hr.units
  have hlen : (dcD kv).shown.length ≤ sizeLine := by
    show (dictText (PyData.shownKv (kv.map kvP))).length ≤ sizeLine
    have z := dictText_len_le (PyData.shownKv (kv.map kvP))
    rw [s3] at z
    have := line63
    have z2 : (dictText (PyData.shownKv (kv.map kvP))).length ≤ 4000000 := by
      have := Nat.mul_le_mul_right 3000 hl
      omega
    exact Nat.le_trans z2 (by decide)
  have hdep : (dcD kv).depth = 1 := by
    show PyData.depthKv (kv.map kvP) + 1 = 1
    rw [dc_depth]
  refine repr_of_reads' rd s1 (fun _ hm => ?_) hg (by omega) (fun _ _ e => e) (fun h' u tk hkp => ⟨.str (dcD kv).shown, H, I.kept (h' := h') (t' := tk) hkp, ⟨_, rfl⟩, q⟩) hlen
  have hm : sysModules ∈ [a] := hm
  rw [List.mem_singleton] at hm
  rw [← hm] at hsm
  exact absurd hsm (by decide)
end Own

namespace Own
open PySem PySem.Spec PyProof.Rows L2 Evl
/-! ### values of all kinds -/
mutual
/-- data that is tracked; dicts of texts and ints may stand in it -/
inductive Da (H : Hp) : V → PyData → Prop
  | non : Da H .non .none
  | bl (b : Bool) : Da H (.bl b) (.bool b)
  | int (i : Int) : Da H (.int i) (.int i)
  | str (z : Str) : Da H (.str z) (.str z)
  | lst {a : Addr} {xs : List V} {ds : List PyData} : H a = some (.lst xs) → DaAll H xs ds → Da H (.ref a) (.list ds)
  | tup {a : Addr} {xs : List V} {ds : List PyData} : H a = some (.tup xs) → DaAll H xs ds → Da H (.ref a) (.tuple ds)
  | dct {a : Addr} {kv : List (Str × Int)} {ks : List (PyData × PyData)} : H a = some (.dK (kv.map kvV)) → ks = kv.map kvP → Da H (.ref a) (.dict ks)
inductive DaAll (H : Hp) : List V → List PyData → Prop
  | nil : DaAll H [] []
  | cons {v : V} {vs : List V} {d : PyData} {ds : List PyData} : Da H v d → DaAll H vs ds → DaAll H (v :: vs) (d :: ds)
end
mutual
theorem Da.ex {H H' : Hp} (e : Ex H H') : ∀ (d : PyData) {v : V}, Da H v d → Da H' v d
  | .none, _, h => by cases h; exact .non
  | .bool _, _, h => by cases h; exact .bl _
  | .int _, _, h => by cases h; exact .int _
  | .str _, _, h => by cases h; exact .str _
  | .list ds, _, h => by
    cases h with
    | lst h1 h2 => exact .lst (e _ _ h1) (DaAll.ex e ds h2)
  | .tuple ds, _, h => by
    cases h with
    | tup h1 h2 => exact .tup (e _ _ h1) (DaAll.ex e ds h2)
  | .dict _, _, h => by
    cases h with
    | dct h1 h2 => exact .dct (e _ _ h1) h2
theorem DaAll.ex {H H' : Hp} (e : Ex H H') : ∀ (ds : List PyData) {vs : List V}, DaAll H vs ds → DaAll H' vs ds
  | [], _, h => by cases h; exact .nil
  | d :: ds, _, h => by
    cases h with
    | cons h1 h2 => exact .cons (Da.ex e d h1) (DaAll.ex e ds h2)
end
theorem DaAll.len {H : Hp} : ∀ {vs : List V} {ds : List PyData}, DaAll H vs ds → vs.length = ds.length
  | _, _, .nil => rfl
  | _, _, .cons _ h => by rw [List.length_cons, List.length_cons, h.len]
theorem DaAll.at {H : Hp} : ∀ {vs : List V} {ds : List PyData} {i : Nat} {v : V}, DaAll H vs ds → vs[i]? = some v → ∃ d, ds[i]? = some d ∧ Da H v d
  | _, _, _, _, .nil, e => by simp at e
  | _, _, 0, _, .cons h _, e => by cases e; exact ⟨_, rfl, h⟩
  | _, _, i + 1, _, .cons _ h, e => DaAll.at (i := i) h e
theorem DaAll.at2 {H : Hp} : ∀ {vs : List V} {ds : List PyData} {i : Nat} {d : PyData}, DaAll H vs ds → ds[i]? = some d → ∃ v, vs[i]? = some v ∧ Da H v d
  | _, _, _, _, .nil, e => by simp at e
  | _, _, 0, _, .cons h _, e => by cases e; exact ⟨_, rfl, h⟩
  | _, _, i + 1, _, .cons _ h, e => DaAll.at2 (i := i) h e
theorem DaAll.app {H : Hp} : ∀ {vs ws : List V} {ds es : List PyData}, DaAll H vs ds → DaAll H ws es → DaAll H (vs ++ ws) (ds ++ es)
  | _, _, _, _, .nil, k => k
  | _, _, _, _, .cons h t, k => .cons h (t.app k)
theorem DaAll.take {H : Hp} : ∀ {vs : List V} {ds : List PyData} (n : Nat), DaAll H vs ds → DaAll H (vs.take n) (ds.take n)
  | _, _, 0, _ => .nil
  | _, _, _ + 1, .nil => .nil
  | _, _, n + 1, .cons h t => .cons h (t.take n)
theorem DaAll.drop {H : Hp} : ∀ {vs : List V} {ds : List PyData} (n : Nat), DaAll H vs ds → DaAll H (vs.drop n) (ds.drop n)
  | _, _, 0, h => h
  | _, _, _ + 1, .nil => .nil
  | _, _, n + 1, .cons _ t => t.drop n
theorem DaAll.put {H : Hp} {v : V} {d : PyData} (hv : Da H v d) : ∀ {vs : List V} {ds : List PyData} {i : Nat}, DaAll H vs ds → DaAll H (vs.set i v) (ds.set i d)
  | _, _, _, .nil => .nil
  | _, _, 0, .cons _ t => .cons hv t
  | _, _, i + 1, .cons h t => .cons h (DaAll.put hv (i := i) t)
theorem DaAll.snoc {H : Hp} {v : V} {d : PyData} {vs : List V} {ds : List PyData} (h : DaAll H vs ds) (hv : Da H v d) : DaAll H (vs ++ [v]) (ds ++ [d]) := h.app (.cons hv .nil)
/-! kinds -/
def tyD : PyData → String
  | .none => "NoneType"
  | .bool _ => "bool"
  | .int _ => "int"
  | .str _ => "str"
  | .list _ => "list"
  | .tuple _ => "tuple"
  | .dict _ => "dict"
theorem Da.ty {K : PySem.W.Frag} {H : Hp} {v : V} {d : PyData} (h : Da H v d) : TyX K H v (.type (tyD d)) := by
  cases h with
  | non => exact .base .non
  | bl b => exact .base (.bl b)
  | int i => exact .base (.int i)
  | str z => exact .base (.str z)
  | lst h1 h2 => exact .base (.lst h1)
  | tup h1 h2 => exact .base (.tup h1)
  | dct h1 h2 => exact .base (.dK h1)
def isStrD : PyData → Bool | .str _ => true | _ => false
def isTupD : PyData → Bool | .tuple _ => true | _ => false
def isLstD : PyData → Bool | .list _ => true | _ => false
def isBoolD : PyData → Bool | .bool _ => true | _ => false
def isIntD : PyData → Bool | .int _ => true | .bool _ => true | _ => false
theorem kit7 {T : String} {a b c e f g i : Bool} (h1 : kitB "NoneType" T = some a) (h2 : kitB "bool" T = some b) (h3 : kitB "int" T = some c) (h4 : kitB "str" T = some e) (h5 : kitB "list" T = some f) (h6 : kitB "tuple" T = some g) (h7 : kitB "dict" T = some i)
    {p : PyData → Bool} (q1 : p .none = a) (q2 : ∀ x, p (.bool x) = b) (q3 : ∀ x, p (.int x) = c) (q4 : ∀ x, p (.str x) = e) (q5 : ∀ x, p (.list x) = f) (q6 : ∀ x, p (.tuple x) = g) (q7 : ∀ x, p (.dict x) = i) : ∀ d, kitB (tyD d) T = some (p d)
  | .none => by rw [q1]; exact h1
  | .bool x => by rw [q2]; exact h2
  | .int x => by rw [q3]; exact h3
  | .str x => by rw [q4]; exact h4
  | .list x => by rw [q5]; exact h5
  | .tuple x => by rw [q6]; exact h6
  | .dict x => by rw [q7]; exact h7
theorem kit_str : ∀ d, kitB (tyD d) "str" = some (isStrD d) := kit7 (a := false) (b := false) (c := false) (e := true) (f := false) (g := false) (i := false) (by decide +kernel) (by decide +kernel) (by decide +kernel) (by decide +kernel) (by decide +kernel) (by decide +kernel) (by decide +kernel) rfl (fun _ => rfl) (fun _ => rfl) (fun _ => rfl) (fun _ => rfl) (fun _ => rfl) (fun _ => rfl)
theorem kit_tuple : ∀ d, kitB (tyD d) "tuple" = some (isTupD d) := kit7 (a := false) (b := false) (c := false) (e := false) (f := false) (g := true) (i := false) (by decide +kernel) (by decide +kernel) (by decide +kernel) (by decide +kernel) (by decide +kernel) (by decide +kernel) (by decide +kernel) rfl (fun _ => rfl) (fun _ => rfl) (fun _ => rfl) (fun _ => rfl) (fun _ => rfl) (fun _ => rfl)
theorem kit_list : ∀ d, kitB (tyD d) "list" = some (isLstD d) := kit7 (a := false) (b := false) (c := false) (e := false) (f := true) (g := false) (i := false) (by decide +kernel) (by decide +kernel) (by decide +kernel) (by decide +kernel) (by decide +kernel) (by decide +kernel) (by decide +kernel) rfl (fun _ => rfl) (fun _ => rfl) (fun _ => rfl) (fun _ => rfl) (fun _ => rfl) (fun _ => rfl)
theorem kit_bool : ∀ d, kitB (tyD d) "bool" = some (isBoolD d) := kit7 (a := false) (b := true) (c := false) (e := false) (f := false) (g := false) (i := false) (by decide +kernel) (by decide +kernel) (by decide +kernel) (by decide +kernel) (by decide +kernel) (by decide +kernel) (by decide +kernel) rfl (fun _ => rfl) (fun _ => rfl) (fun _ => rfl) (fun _ => rfl) (fun _ => rfl) (fun _ => rfl)
theorem kit_int : ∀ d, kitB (tyD d) "int" = some (isIntD d) := kit7 (a := false) (b := true) (c := true) (e := false) (f := false) (g := false) (i := false) (by decide +kernel) (by decide +kernel) (by decide +kernel) (by decide +kernel) (by decide +kernel) (by decide +kernel) (by decide +kernel) rfl (fun _ => rfl) (fun _ => rfl) (fun _ => rfl) (fun _ => rfl) (fun _ => rfl) (fun _ => rfl)
section
variable {K : PySem.W.Frag} {H : Hp} {v : V} {d : PyData} {Q : VK}
theorem isi_str (h : Da H v d) (q : Q (.bl (isStrD d)) H) : rIsi K [v, .ty "str"] H Q :=
  ⟨v, .ty "str", _, _, isStrD d, rfl, .ty _, h.ty, kit_ty (kit_str d), q⟩
theorem isi_tup (h : Da H v d) (q : Q (.bl (isTupD d)) H) : rIsi K [v, .ty "tuple"] H Q :=
  ⟨v, .ty "tuple", _, _, isTupD d, rfl, .ty _, h.ty, kit_ty (kit_tuple d), q⟩
theorem isi_lst (h : Da H v d) (q : Q (.bl (isLstD d)) H) : rIsi K [v, .ty "list"] H Q :=
  ⟨v, .ty "list", _, _, isLstD d, rfl, .ty _, h.ty, kit_ty (kit_list d), q⟩
theorem isi_bool (h : Da H v d) (q : Q (.bl (isBoolD d)) H) : rIsi K [v, .ty "bool"] H Q :=
  ⟨v, .ty "bool", _, _, isBoolD d, rfl, .ty _, h.ty, kit_ty (kit_bool d), q⟩
theorem isi_int (h : Da H v d) (q : Q (.bl (isIntD d)) H) : rIsi K [v, .ty "int"] H Q :=
  ⟨v, .ty "int", _, _, isIntD d, rfl, .ty _, h.ty, kit_ty (kit_int d), q⟩
theorem isi_two {a b : String} {r1 r2 : Bool} {tp : Addr} (h : Da H v d) (ht : H tp = some (.tup [.ty a, .ty b])) (h1 : PySem.W.kitOne K (.type (tyD d)) (.type a) = some r1) (h2 : PySem.W.kitOne K (.type (tyD d)) (.type b) = some r2) (q : Q (.bl (r1 || r2)) H) : rIsiT K [v, .ref tp] H Q := by
  refine ⟨v, tp, _, _, [.type a, .type b], r1 || r2, rfl, ht, .cons (.ty _) (.cons (.ty _) .nil), h.ty, ?_, q⟩
  refine kitAny_cons h1 (fun e => ?_) (fun e => by rw [e]; rfl)
  rw [e, Bool.false_or]
  exact kitAny_cons h2 (fun e => by rw [e]; exact kitAny_nil) (fun e => by rw [e])
theorem isi_tl {tp : Addr} (h : Da H v d) (ht : H tp = some (.tup [.ty "tuple", .ty "list"])) (q : Q (.bl (isTupD d || isLstD d)) H) : rIsiT K [v, .ref tp] H Q :=
  isi_two h ht (r1 := isTupD d) (r2 := isLstD d) (kit_ty (kit_tuple d)) (kit_ty (kit_list d)) q
theorem isi_lt {tp : Addr} (h : Da H v d) (ht : H tp = some (.tup [.ty "list", .ty "tuple"])) (q : Q (.bl (isLstD d || isTupD d)) H) : rIsiT K [v, .ref tp] H Q :=
  isi_two h ht (r1 := isLstD d) (r2 := isTupD d) (kit_ty (kit_list d)) (kit_ty (kit_tuple d)) q
end
/-! a list beside the empty one -/
def rEq0 (K : PySem.W.Frag) : R2 := fun x y H Q => ∃ (a b : Addr) (xs : List V), x = .ref a ∧ y = .ref b ∧ SqL K H a xs ∧ SqL K H b [] ∧ Q (.bl xs.isEmpty) H
def rNe0 (K : PySem.W.Frag) : R2 := fun x y H Q => ∃ (a b : Addr) (xs : List V), x = .ref a ∧ y = .ref b ∧ SqL K H a xs ∧ SqL K H b [] ∧ Q (.bl (!xs.isEmpty)) H
theorem op_eq0 {X : Cx} {k : Nat} (hr : Room k X.A) : OpR X (compareOp .Eq) (rEq0 X.K) := by
  intro pk s τ H x y v u Q I rx ry h
  obtain ⟨a, b, xs, rfl, rfl, h1, h2, q⟩ := h
  cases rx
  cases ry
  obtain ⟨its, r, pl, hz⟩ := I.list h1
  obtain ⟨its2, r2, pl2, hz2⟩ := I.list h2
  cases r2
  have hu : X.A.units < cLine := by
    have := hr.units
    omega
  have hlen := r.length
  cases xs with
  | nil =>
    cases r
    exact SeqAt.eq_listAt (e := fun _ => true) pl.isList pl2.isList rfl hu (fun j h1 => absurd h1 (by simp)) ⟨.bl true, H, I, rfl, q⟩
  | cons z zs =>
    refine SeqAt.eq_list_lengthsAt pl.isList pl2.isList ?_ hu ⟨.bl false, H, I, rfl, q⟩
    rw [List.length_cons] at hlen
    simp only [List.size_toArray, List.length_nil, bne_iff_ne, ne_eq]
    omega
theorem op_ne0 {X : Cx} {k : Nat} (hr : Room k X.A) : OpR X (compareOp .NotEq) (rNe0 X.K) := by
  intro pk s τ H x y v u Q I rx ry h
  obtain ⟨a, b, xs, rfl, rfl, h1, h2, q⟩ := h
  cases rx
  cases ry
  obtain ⟨its, r, pl, hz⟩ := I.list h1
  obtain ⟨its2, r2, pl2, hz2⟩ := I.list h2
  cases r2
  have hu : X.A.units < cLine := by
    have := hr.units
    omega
  have hlen := r.length
  cases xs with
  | nil =>
    cases r
    exact SeqAt.RcNeAt.lists (e := fun _ => true) pl.isList pl2.isList rfl hu (fun j h1 => absurd h1 (by simp)) _ _ _ _ ⟨.bl false, H, I, rfl, q⟩
  | cons z zs =>
    refine SeqAt.RcNeAt.lists_lengths pl.isList pl2.isList ?_ hu _ _ _ _ ⟨.bl true, H, I, rfl, q⟩
    rw [List.length_cons] at hlen
    simp only [List.size_toArray, List.length_nil, bne_iff_ne, ne_eq]
    omega
theorem op_eq0B {X : Cx} {k : Nat} {s : Shared} {H : Hp} {sc : Scope} {ce : Env} {fp : List Addr} (hr : Room k X.A) : OpR (X.blk s H sc ce fp) (compareOp .Eq) (rEq0 X.K) := op_eq0 hr
theorem op_ne0B {X : Cx} {k : Nat} {s : Shared} {H : Hp} {sc : Scope} {ce : Env} {fp : List Addr} (hr : Room k X.A) : OpR (X.blk s H sc ce fp) (compareOp .NotEq) (rNe0 X.K) := op_ne0 hr
/-! sizes -/
mutual
def gD : PyData → Bool
  | .none => true
  | .bool _ => true
  | .int i => decide (i.natAbs.log2 < 1920)
  | .str x => x.cps.all (· < 0x110000)
  | .list xs => gDs xs
  | .tuple xs => gDs xs
  | .dict ks => gDk ks
def gDs : List PyData → Bool
  | [] => true
  | x :: xs => gD x && gDs xs
def gDk : List (PyData × PyData) → Bool
  | [] => true
  | (k, v) :: r => gD k && (gD v && gDk r)
end
mutual
/-- no text of d is longer -/
def wd : PyData → Nat
  | .none => 5
  | .bool _ => 5
  | .int _ => 1921
  | .str x => 10 * x.length + 5
  | .list xs => wds xs + 3
  | .tuple xs => wds xs + 3
  | .dict ks => wdk ks + 3
def wds : List PyData → Nat
  | [] => 0
  | x :: xs => wd x + 2 + wds xs
def wdk : List (PyData × PyData) → Nat
  | [] => 0
  | (k, v) :: r => wd k + wd v + 4 + wdk r
end
theorem str_wd {x : Str} (h : x.cps.all (· < 0x110000) = true) : (PyData.shown (.str x)).length ≤ 10 * x.length + 5 := by
  have z : (PyData.shown (.str x)).length ≤ 10 * x.length + 2 := by
    refine StrLaws.reprText_len x fun c hc => ?_
    rw [← Array.all_toList] at h
    have q := of_decide_eq_true ((List.all_eq_true.mp h) c hc)
    exact Nat.lt_trans q (by decide)
  omega
mutual
theorem shownD : ∀ d : PyData, gD d = true → d.showable = true ∧ d.shown.length ≤ wd d
  | .none, _ => ⟨rfl, by decide⟩
  | .bool b, _ => ⟨rfl, by cases b <;> decide⟩
  | .int i, h => ⟨h, int_text_len_1921 (of_decide_eq_true h)⟩
  | .str x, h => ⟨rfl, str_wd h⟩
  | .list xs, h => by
    obtain ⟨q1, q2⟩ := shownDs xs h
    have z := listText_le (PyData.shownAll xs)
    refine ⟨q1, ?_⟩
    show (listText (PyData.shownAll xs)).length ≤ wds xs + 3
    omega
  | .tuple xs, h => by
    obtain ⟨q1, q2⟩ := shownDs xs h
    have z := tupleText_le (PyData.shownAll xs)
    refine ⟨q1, ?_⟩
    show (tupleText (PyData.shownAll xs)).length ≤ wds xs + 3
    omega
  | .dict ks, h => by
    obtain ⟨q1, q2⟩ := shownDk ks h
    refine ⟨q1, ?_⟩
    show (dictText (PyData.shownKv ks)).length ≤ wdk ks + 3
    have z := dictText_len_le (PyData.shownKv ks)
    omega
theorem shownDs : ∀ ds : List PyData, gDs ds = true → PyData.showableAll ds = true ∧ piled (PyData.shownAll ds) ≤ wds ds
  | [], _ => ⟨rfl, Nat.le_refl _⟩
  | d :: ds, h => by
    have h' : (gD d && gDs ds) = true := h
    rw [Bool.and_eq_true] at h'
    obtain ⟨a1, a2⟩ := shownD d h'.1
    obtain ⟨b1, b2⟩ := shownDs ds h'.2
    refine ⟨?_, ?_⟩
    · show (d.showable && PyData.showableAll ds) = true
      rw [a1, b1]
      rfl
    · show piled (d.shown :: PyData.shownAll ds) ≤ wd d + 2 + wds ds
      rw [piled_cons]
      omega
theorem shownDk : ∀ ks : List (PyData × PyData), gDk ks = true → PyData.showableKv ks = true ∧ ((PyData.shownKv ks).map (·.length)).sum + 2 * (PyData.shownKv ks).length ≤ wdk ks
  | [], _ => ⟨rfl, Nat.le_refl _⟩
  | (k, v) :: r, h => by
    have h' : (gD k && (gD v && gDk r)) = true := h
    rw [Bool.and_eq_true, Bool.and_eq_true] at h'
    obtain ⟨a1, a2⟩ := shownD k h'.1
    obtain ⟨b1, b2⟩ := shownD v h'.2.1
    obtain ⟨c1, c2⟩ := shownDk r h'.2.2
    refine ⟨?_, ?_⟩
    · show (k.showable && v.showable && PyData.showableKv r) = true
      rw [a1, b1, c1]
      rfl
    · rw [PyData.shownKv_cons, List.map_cons, List.sum_cons, List.length_cons, strLen_append, strLen_append]
      show _ ≤ wd k + wd v + 4 + wdk r
      have : (": " : Str).length = 2 := rfl
      omega
end
end Own

namespace Own
open PySem PySem.Spec PyProof.Rows L2 Evl
/-- the base knows the table of modules (so no tracked list lies there) -/
def SysAt (base : Heap) : Prop := ∃ mm, base.Ns sysModules mm
section
variable {X : Cx} {pins : List (Addr × Obj)} {σ : L2.St} {H : Hp} {s : Shared}
theorem not_sys (I : Inv X pins σ H s) (hs : SysAt X.base) {a : Addr} {o : Obj} {vs : Array Value} {n : Nat} (h : s.heap.get? a = some o) (hd : o.data = .seq vs n) : a ≠ sysModules := by
  intro e
  subst e
  obtain ⟨mm, o2, es, ep, h2, hd2, _⟩ := hs
  have h3 := I.bk _ _ h2
  rw [h] at h3
  cases h3
  rw [hd] at hd2
  cases hd2
mutual
theorem Da.reads (I : Inv X pins σ H s) (hs : SysAt X.base) : ∀ (d : PyData) (v : V) (u : Value), Da H v d → RelV v u → ∃ as, Reads s.heap u d as ∧ sysModules ∉ as
  | .none, _, _, h, r => by
    cases h
    cases r
    exact ⟨_, Reads.none, by simp⟩
  | .bool b, _, _, h, r => by
    cases h
    cases r
    exact ⟨_, Reads.bool b, by simp⟩
  | .int i, _, _, h, r => by
    cases h
    obtain ⟨t, rfl⟩ := r
    exact ⟨_, Reads.int i t, by simp⟩
  | .str x, _, _, h, r => by
    cases h
    obtain ⟨t, rfl⟩ := r
    exact ⟨_, Reads.str x t, by simp⟩
  | .list ds, _, _, h, r => by
    cases h with
    | lst hh ha =>
      cases r
      obtain ⟨its, rv, ⟨o, n, ho, hc, _, hd⟩, _⟩ := I.list (sq_of hh)
      obtain ⟨as, hr, hn⟩ := DaAll.reads I hs ds _ its ha rv
      refine ⟨_, Reads.list ho hc hd hr, ?_⟩
      rw [List.mem_cons, not_or]
      exact ⟨(not_sys I hs ho hd).symm, hn⟩
  | .tuple ds, _, _, h, r => by
    cases h with
    | tup hh ha =>
      cases r
      obtain ⟨its, rv, ⟨o, ho, hc, n, hd⟩, _⟩ := I.tuple (st_of hh)
      obtain ⟨as, hr, hn⟩ := DaAll.reads I hs ds _ its ha rv
      exact ⟨_, Reads.tuple ho hc hd hr, hn⟩
  | .dict ks, _, _, h, r => by
    cases h with
    | dct hh e =>
      cases r
      obtain ⟨hz, hsm, vs, rel, o, es, ep, ho, hex, hdat, hko, hp, hn⟩ := dk_of I.hok hh
      obtain ⟨r1, r2⟩ := dc_reads (h := s.heap) rel hp
      subst e
      refine ⟨_, Reads.dict ho hex.1 hdat r1 r2, ?_⟩
      intro hm
      have hm : sysModules ∈ [_] := hm
      rw [List.mem_singleton] at hm
      rw [← hm] at hsm
      exact absurd hsm (by decide)
theorem DaAll.reads (I : Inv X pins σ H s) (hs : SysAt X.base) : ∀ (ds : List PyData) (vs : List V) (us : List Value), DaAll H vs ds → Vals vs us → ∃ as, ReadsAll s.heap us ds as ∧ sysModules ∉ as
  | [], _, _, h, r => by
    cases h
    cases r
    exact ⟨_, ReadsAll.nil, by simp⟩
  | d :: ds, _, _, h, r => by
    cases h with
    | cons h1 h2 =>
      cases r with
      | cons r1 r2 =>
        obtain ⟨as, q1, n1⟩ := Da.reads I hs d _ _ h1 r1
        obtain ⟨bs, q2, n2⟩ := DaAll.reads I hs ds _ _ h2 r2
        refine ⟨_, ReadsAll.cons q1 q2, ?_⟩
        rw [List.mem_append, not_or]
        exact ⟨n1, n2⟩
end
end
/-- data that may be shown -/
def okD (n W : Nat) (d : PyData) : Prop := gD d = true ∧ d.depth ≤ n ∧ wd d ≤ W
theorem okD.mono {n W n' W' : Nat} {d : PyData} (h : okD n W d) (h1 : n ≤ n') (h2 : W ≤ W') : okD n' W' d := ⟨h.1, Nat.le_trans h.2.1 h1, Nat.le_trans h.2.2 h2⟩
def rReprX : List V → Hp → VK → Prop := fun xs H Q => ∃ v d, xs = [v] ∧ Da H v d ∧ okD 40 16000000 d ∧ Q (.str d.shown) H
theorem callReprX {X : Cx} {k : Nat} (hs : SysAt X.base) (hg : X.A.guards = some []) (hr : Room k X.A) : CallR X (.builtin "repr") rReprX := by
  intro pk s τ H xs us Q I r h
  obtain ⟨v, d, rfl, hd, ⟨g1, g2, g3⟩, q⟩ := h
  obtain ⟨s1, s2⟩ := shownD d g1
  have hlen : d.shown.length ≤ sizeLine := Nat.le_trans s2 (Nat.le_trans g3 (by decide))
  have hu := hr.units
  obtain ⟨u, eu, ru⟩ := vals1 r
  subst eu
  obtain ⟨as, rd, hn⟩ := Da.reads I hs d v u hd ru
  cases hd with
  | lst h1 h2 =>
    cases ru
    exact repr_of_reads' rd s1 (fun _ => hn) hg (by omega) (fun _ _ e => e) (fun h' u tk hkp => ⟨.str _, H, I.kept (h' := h') (t' := tk) hkp, ⟨_, rfl⟩, q⟩) hlen
  | tup h1 h2 =>
    cases ru
    exact repr_of_reads' rd s1 (fun _ => hn) hg (by omega) (fun _ _ e => e) (fun h' u tk hkp => ⟨.str _, H, I.kept (h' := h') (t' := tk) hkp, ⟨_, rfl⟩, q⟩) hlen
  | dct h1 h2 =>
    cases ru
    exact repr_of_reads' rd s1 (fun _ => hn) hg (by omega) (fun _ _ e => e) (fun h' u tk hkp => ⟨.str _, H, I.kept (h' := h') (t' := tk) hkp, ⟨_, rfl⟩, q⟩) hlen
  | non =>
    cases ru
    exact PySem.P.repr_of_none ⟨.str "None", H, I.tok _, ⟨_, rfl⟩, q⟩
  | bl b =>
    cases ru
    exact PySem.P.repr_of_bool ⟨.str (if b then "True" else "False"), H, I.tok _, ⟨_, by cases b <;> rfl⟩, by cases b <;> exact q⟩
  | int i =>
    obtain ⟨t, rfl⟩ := ru
    exact PySem.P.repr_of_int (of_decide_eq_true g1) ⟨.str (toString i), H, I.tok _, ⟨_, rfl⟩, q⟩
  | str x =>
    obtain ⟨t, rfl⟩ := ru
    exact PySem.P.repr_of_str ⟨.str (reprText x), H, I.tok _, ⟨_, rfl⟩, q⟩ hlen
/-! making and taking apart -/
theorem gDs_iff : ∀ {ds : List PyData}, gDs ds = true ↔ ∀ d ∈ ds, gD d = true
  | [] => ⟨fun _ d h => by (cases h), fun _ => rfl⟩
  | x :: xs => by
    show (gD x && gDs xs) = true ↔ _
    rw [Bool.and_eq_true, gDs_iff (ds := xs)]
    refine ⟨fun h d hd => ?_, fun h => ⟨h x List.mem_cons_self, fun d hd => h d (List.mem_cons_of_mem _ hd)⟩⟩
    rcases List.mem_cons.mp hd with e | hd
    · rw [e]
      exact h.1
    · exact h.2 d hd
theorem depthAll_le {n : Nat} : ∀ {ds : List PyData}, PyData.depthAll ds ≤ n ↔ ∀ d ∈ ds, d.depth ≤ n
  | [] => ⟨fun _ d h => by (cases h), fun _ => Nat.zero_le _⟩
  | x :: xs => by
    show max x.depth (PyData.depthAll xs) ≤ n ↔ _
    rw [Nat.max_le, depthAll_le (ds := xs)]
    refine ⟨fun h d hd => ?_, fun h => ⟨h x List.mem_cons_self, fun d hd => h d (List.mem_cons_of_mem _ hd)⟩⟩
    rcases List.mem_cons.mp hd with e | hd
    · rw [e]
      exact h.1
    · exact h.2 d hd
theorem wds_app : ∀ (xs ys : List PyData), wds (xs ++ ys) = wds xs + wds ys
  | [], ys => (Nat.zero_add _).symm
  | x :: xs, ys => by
    show wd x + 2 + wds (xs ++ ys) = wd x + 2 + wds xs + wds ys
    rw [wds_app xs ys]
    omega
theorem wd_mem {d : PyData} : ∀ {ds : List PyData}, d ∈ ds → wd d + 2 ≤ wds ds
  | x :: xs, h => by
    show _ ≤ wd x + 2 + wds xs
    rcases List.mem_cons.mp h with e | h
    · rw [e]
      omega
    · have := wd_mem h
      omega
theorem wds_take (n : Nat) (xs : List PyData) : wds (xs.take n) ≤ wds xs := by
  have h := wds_app (xs.take n) (xs.drop n)
  rw [List.take_append_drop] at h
  omega
theorem wds_drop (n : Nat) (xs : List PyData) : wds (xs.drop n) ≤ wds xs := by
  have h := wds_app (xs.take n) (xs.drop n)
  rw [List.take_append_drop] at h
  omega
theorem wd_pos : ∀ d : PyData, 3 ≤ wd d
  | .none => by show 3 ≤ 5; decide
  | .bool _ => by show 3 ≤ 5; decide
  | .int _ => by show 3 ≤ 1921; decide
  | .str x => by show 3 ≤ 10 * x.length + 5; omega
  | .list xs => by show 3 ≤ wds xs + 3; omega
  | .tuple xs => by show 3 ≤ wds xs + 3; omega
  | .dict ks => by show 3 ≤ wdk ks + 3; omega
theorem len_wds : ∀ ds : List PyData, 5 * ds.length ≤ wds ds
  | [] => Nat.le_refl _
  | x :: xs => by
    have := len_wds xs
    have := wd_pos x
    show 5 * (xs.length + 1) ≤ wd x + 2 + wds xs
    omega
end Own

namespace Own
open PySem PySem.Spec PyProof.Rows L2 Evl
/-! ### data that lies within A -/
theorem none_of {H H' : Hp} {l : Addr} (e : Ex H H') (h : H' l = none) : H l = none := by
  cases hx : H l with
  | none => rfl
  | some o => rw [e _ _ hx] at h; cases h
mutual
inductive DaA (A : Addr → Prop) (H : Hp) : V → PyData → Prop
  | non : DaA A H .non .none
  | bl (b : Bool) : DaA A H (.bl b) (.bool b)
  | int (i : Int) : DaA A H (.int i) (.int i)
  | str (z : Str) : DaA A H (.str z) (.str z)
  | lst {a : Addr} {xs : List V} {ds : List PyData} : A a → H a = some (.lst xs) → DaAA A H xs ds → DaA A H (.ref a) (.list ds)
  | tup {a : Addr} {xs : List V} {ds : List PyData} : A a → H a = some (.tup xs) → DaAA A H xs ds → DaA A H (.ref a) (.tuple ds)
  | dct {a : Addr} {kv : List (Str × Int)} {ks : List (PyData × PyData)} : A a → H a = some (.dK (kv.map kvV)) → ks = kv.map kvP → DaA A H (.ref a) (.dict ks)
inductive DaAA (A : Addr → Prop) (H : Hp) : List V → List PyData → Prop
  | nil : DaAA A H [] []
  | cons {v : V} {vs : List V} {d : PyData} {ds : List PyData} : DaA A H v d → DaAA A H vs ds → DaAA A H (v :: vs) (d :: ds)
end
mutual
theorem DaA.move {A A' : Addr → Prop} {H H' : Hp} (e : ∀ a o, A a → H a = some o → H' a = some o) (w : ∀ a, A a → A' a) : ∀ (d : PyData) {v : V}, DaA A H v d → DaA A' H' v d
  | .none, _, h => by cases h; exact .non
  | .bool _, _, h => by cases h; exact .bl _
  | .int _, _, h => by cases h; exact .int _
  | .str _, _, h => by cases h; exact .str _
  | .list ds, _, h => by
    cases h with
    | lst h0 h1 h2 => exact .lst (w _ h0) (e _ _ h0 h1) (DaAA.move e w ds h2)
  | .tuple ds, _, h => by
    cases h with
    | tup h0 h1 h2 => exact .tup (w _ h0) (e _ _ h0 h1) (DaAA.move e w ds h2)
  | .dict _, _, h => by
    cases h with
    | dct h0 h1 h2 => exact .dct (w _ h0) (e _ _ h0 h1) h2
theorem DaAA.move {A A' : Addr → Prop} {H H' : Hp} (e : ∀ a o, A a → H a = some o → H' a = some o) (w : ∀ a, A a → A' a) : ∀ (ds : List PyData) {vs : List V}, DaAA A H vs ds → DaAA A' H' vs ds
  | [], _, h => by cases h; exact .nil
  | d :: ds, _, h => by
    cases h with
    | cons h1 h2 => exact .cons (DaA.move e w d h1) (DaAA.move e w ds h2)
end
mutual
theorem DaA.da {A : Addr → Prop} {H : Hp} : ∀ (d : PyData) {v : V}, DaA A H v d → Da H v d
  | .none, _, h => by cases h; exact .non
  | .bool _, _, h => by cases h; exact .bl _
  | .int _, _, h => by cases h; exact .int _
  | .str _, _, h => by cases h; exact .str _
  | .list ds, _, h => by
    cases h with
    | lst h0 h1 h2 => exact .lst h1 (DaAA.da ds h2)
  | .tuple ds, _, h => by
    cases h with
    | tup h0 h1 h2 => exact .tup h1 (DaAA.da ds h2)
  | .dict _, _, h => by
    cases h with
    | dct h0 h1 h2 => exact .dct h1 h2
theorem DaAA.da {A : Addr → Prop} {H : Hp} : ∀ (ds : List PyData) {vs : List V}, DaAA A H vs ds → DaAll H vs ds
  | [], _, h => by cases h; exact .nil
  | d :: ds, _, h => by
    cases h with
    | cons h1 h2 => exact .cons (DaA.da d h1) (DaAA.da ds h2)
end
mutual
theorem Da.within {H : Hp} : ∀ (d : PyData) {v : V}, Da H v d → DaA (fun a => H a ≠ none) H v d
  | .none, _, h => by cases h; exact .non
  | .bool _, _, h => by cases h; exact .bl _
  | .int _, _, h => by cases h; exact .int _
  | .str _, _, h => by cases h; exact .str _
  | .list ds, _, h => by
    cases h with
    | lst h1 h2 => exact .lst (by rw [h1]; exact fun z => nomatch z) h1 (DaAll.within ds h2)
  | .tuple ds, _, h => by
    cases h with
    | tup h1 h2 => exact .tup (by rw [h1]; exact fun z => nomatch z) h1 (DaAll.within ds h2)
  | .dict _, _, h => by
    cases h with
    | dct h1 h2 => exact .dct (by rw [h1]; exact fun z => nomatch z) h1 h2
theorem DaAll.within {H : Hp} : ∀ (ds : List PyData) {vs : List V}, DaAll H vs ds → DaAA (fun a => H a ≠ none) H vs ds
  | [], _, h => by cases h; exact .nil
  | d :: ds, _, h => by
    cases h with
    | cons h1 h2 => exact .cons (Da.within d h1) (DaAll.within ds h2)
end
section
variable {A : Addr → Prop} {H : Hp}
theorem DaAA.len : ∀ {vs : List V} {ds : List PyData}, DaAA A H vs ds → vs.length = ds.length
  | _, _, .nil => rfl
  | _, _, .cons _ h => by rw [List.length_cons, List.length_cons, h.len]
theorem DaAA.at2 : ∀ {vs : List V} {ds : List PyData} {i : Nat} {d : PyData}, DaAA A H vs ds → ds[i]? = some d → ∃ v, vs[i]? = some v ∧ DaA A H v d
  | _, _, _, _, .nil, e => by simp at e
  | _, _, 0, _, .cons h _, e => by cases e; exact ⟨_, rfl, h⟩
  | _, _, i + 1, _, .cons _ h, e => DaAA.at2 (i := i) h e
theorem DaAA.at : ∀ {vs : List V} {ds : List PyData} {i : Nat} {v : V}, DaAA A H vs ds → vs[i]? = some v → ∃ d, ds[i]? = some d ∧ DaA A H v d
  | _, _, _, _, .nil, e => by simp at e
  | _, _, 0, _, .cons h _, e => by cases e; exact ⟨_, rfl, h⟩
  | _, _, i + 1, _, .cons _ h, e => DaAA.at (i := i) h e
theorem DaAA.app : ∀ {vs ws : List V} {ds es : List PyData}, DaAA A H vs ds → DaAA A H ws es → DaAA A H (vs ++ ws) (ds ++ es)
  | _, _, _, _, .nil, k => k
  | _, _, _, _, .cons h t, k => .cons h (t.app k)
theorem DaAA.take : ∀ {vs : List V} {ds : List PyData} (n : Nat), DaAA A H vs ds → DaAA A H (vs.take n) (ds.take n)
  | _, _, 0, _ => .nil
  | _, _, _ + 1, .nil => .nil
  | _, _, n + 1, .cons h t => .cons h (t.take n)
theorem DaAA.drop : ∀ {vs : List V} {ds : List PyData} (n : Nat), DaAA A H vs ds → DaAA A H (vs.drop n) (ds.drop n)
  | _, _, 0, h => h
  | _, _, _ + 1, .nil => .nil
  | _, _, n + 1, .cons _ t => t.drop n
theorem DaAA.put {v : V} {d : PyData} (hv : DaA A H v d) : ∀ {vs : List V} {ds : List PyData} {i : Nat}, DaAA A H vs ds → DaAA A H (vs.set i v) (ds.set i d)
  | _, _, _, .nil => .nil
  | _, _, 0, .cons _ t => .cons hv t
  | _, _, i + 1, .cons h t => .cons h (DaAA.put hv (i := i) t)
end
end Own

namespace Own
open PySem PySem.Spec PyProof.Rows L2 Evl
/-! ### a tuple that begins with a text, beside a tuple of one text -/
def rEqTs (K : PySem.W.Frag) : R2 := fun x y H Q => ∃ (a b : Addr) (z u : Str) (xs : List V), x = .ref a ∧ y = .ref b ∧ SqT K H a (.str z :: xs) ∧ SqT K H b [.str u] ∧ Q (.bl (decide (z = u) && xs.isEmpty)) H
theorem op_eqTs {X : Cx} {k : Nat} (hr : Room k X.A) : OpR X (compareOp .Eq) (rEqTs X.K) := by
  intro pk s τ H x y v v2 Q I rx ry h
  obtain ⟨a, b, z, u, xs, rfl, rfl, h1, h2, q⟩ := h
  cases rx
  cases ry
  obtain ⟨its, r, tp, hz⟩ := I.tuple h1
  obtain ⟨its2, r2, tp2, hz2⟩ := I.tuple h2
  cases r2 with
  | cons ru rn =>
    cases rn
    obtain ⟨tu, rfl⟩ := ru
    cases r with
    | @cons _ _ _ its0 rz rr =>
      obtain ⟨tz, rfl⟩ := rz
      have hu : X.A.units < cLine := by
        have := hr.units
        omega
      refine SeqAt.eq_tupleAt (e := fun _ => decide (z = u)) tp tp2 hu (fun j h1 h2 => ?_) ⟨.bl _, H, I, rfl, ?_⟩
      · have hj : j = 0 := by
          have : j < 1 := h2
          omega
        subst hj
        have e : (z == u) = decide (z = u) := by
          by_cases h : z = u
          · rw [h]
            simp
          · rw [decide_eq_false h]
            exact beq_eq_false_iff_ne.mpr h
        rw [← e]
        exact SeqAt.EqAt.str_str z tz u tu
      · have hm : min (Value.str z tz :: its0).toArray.size [Value.str u tu].toArray.size = 1 := by simp
        have hs : ((Value.str z tz :: its0).toArray.size == [Value.str u tu].toArray.size) = xs.isEmpty := by
          have hlen := rr.length
          cases xs with
          | nil => cases rr; rfl
          | cons x xs =>
            rw [List.length_cons] at hlen
            show ((its0.length + 1) == 1) = false
            exact beq_eq_false_iff_ne.mpr (by omega)
        rw [hm, hs]
        show Q (.bl ((decide (z = u) && true) && xs.isEmpty)) H
        rw [Bool.and_true]
        exact q
def rEqB (K : PySem.W.Frag) : R2 := fun x y H Z => rEqA K x y H Z ∨ rEqTs K x y H Z
theorem opEqT {X : Cx} {k : Nat} (hr : Room k X.A) : OpR X (compareOp .Eq) (rEqB X.K) := OpR.or (opEq hr) (op_eqTs hr)
end Own

namespace Own
open PySem PySem.Spec PyProof.Rows L2 Evl
/-! ### a tuple beside the empty one -/
def rEqT0 (K : PySem.W.Frag) : R2 := fun x y H Q => ∃ (a b : Addr) (xs : List V), x = .ref a ∧ y = .ref b ∧ SqT K H a xs ∧ SqT K H b [] ∧ Q (.bl xs.isEmpty) H
theorem op_eqT0 {X : Cx} {k : Nat} (hr : Room k X.A) : OpR X (compareOp .Eq) (rEqT0 X.K) := by
  intro pk s τ H x y v v2 Q I rx ry h
  obtain ⟨a, b, xs, rfl, rfl, h1, h2, q⟩ := h
  cases rx
  cases ry
  obtain ⟨its, r, tp, hz⟩ := I.tuple h1
  obtain ⟨its2, r2, tp2, hz2⟩ := I.tuple h2
  cases r2
  have hu : X.A.units < cLine := by
    have := hr.units
    omega
  refine SeqAt.eq_tupleAt (e := fun _ => true) tp tp2 hu (fun j h1 h2 => absurd h2 (by simp)) ⟨.bl _, H, I, rfl, ?_⟩
  have hm : min its.toArray.size ([] : List Value).toArray.size = 0 := by simp
  have hs : (its.toArray.size == ([] : List Value).toArray.size) = xs.isEmpty := by
    have hlen := r.length
    cases xs with
    | nil => cases r; rfl
    | cons x xs =>
      rw [List.length_cons] at hlen
      show (its.toArray.size == 0) = false
      rw [List.size_toArray]
      exact beq_eq_false_iff_ne.mpr (by omega)
  rw [hm, hs]
  exact q
/-! ### what a dict of the written part has of a text -/
def IsKD (K : PySem.W.Frag) (w : World) (a : Addr) : Prop := ∃ es n, K.lookup a = some ⟨.type "dict", none, .dict es n, #[]⟩ ∧ PySem.W.KeysLit w.params es.toList ∧ (a == sysModules) = false
def tKGet2 (K : PySem.W.Frag) (w : World) (td ty tx : TE) : TE := fun σ H Q => td σ H fun x H1 => ∃ a, x = .ref a ∧ IsKD K w a ∧ ty σ H1 fun y H2 => tx σ H2 fun z H3 => ∃ (k : Str) (v : V), y = .str k ∧ ((∃ u, PySem.W.nsIn K a k = some (some u) ∧ RelV v u) ∨ (PySem.W.nsIn K a k = some none ∧ v = z)) ∧ Q v H3
theorem pe_kget2 {X : Cx} {o e f : Expr} {apos cpos : Pos} {td ty tx : TE} (ho : PE X o td) (he : PE X e ty) (hf : PE X f tx) (m : M2 X o "get" apos e f cpos) : PE X (.Call (.Attribute o "get" apos) [e, f] [] cpos) (tKGet2 X.K X.w td ty tx) := by
  refine ⟨fun pins s σ H Q I h => ?_⟩
  refine wpAny_Call_method m.base m.few m.line PySem.F.plainAttrs_dict PySem.F.slot_dict_get PySem.F.type_dict_get (thn (ho.run pins s σ H _ I h) fun u s1 ⟨x, H1, I1, rx, a, ex, d, q1⟩ => ?_)
  subst ex
  obtain rfl : u = Value.ref a := rx
  obtain ⟨es, n, hl, hk, hd⟩ := d
  refine ⟨(PySem.W.mapOf_K (prog := X.prog) (w := X.w) I1.kIn hl hk).typeIs, fun b q => ?_, ?_⟩
  · cases q
    exact ⟨_, I1.kIn _ _ hl, rfl⟩
  rw [m.trees]
  refine Calls.callWith_builtin rfl (Calls.evalArgs_plain (Calls.spliced_cons (thn (he.run pins s1 σ H1 _ I1 q1) fun iv s2 ⟨y, H2, I2, ry, q2⟩ =>
    Calls.spliced_cons (thn (hf.run pins s2 σ H2 _ I2 q2) fun fv s3 ⟨z, H3, I3, rz, k, v, ey, g, q3⟩ => Calls.spliced_nil ?_))))
  subst ey
  obtain ⟨t, rfl⟩ := (show ∃ t, iv = Value.str k t from ry)
  have hm := PySem.W.mapOf_K (prog := X.prog) (w := X.w) I3.kIn hl hk
  refine call_meetsIn PySem.F.slot_dict_get hm.typeIs PySem.F.entry_dict_get (PySem.F.args_dict_get_3 _ _ _) (meets_dict_get_default (strKind X.prog X.w) a (strKind_is X.prog X.w k t) hd fv) ⟨_, hm, ?_⟩
  rcases g with ⟨u, hn, hv⟩ | ⟨hn, rfl⟩
  · rw [PySem.W.find_K hl hn]
    exact ⟨v, H3, I3.tok _, hv, q3⟩
  · rw [PySem.W.find_K hl hn]
    exact ⟨v, H3, I3.tok _, rz, q3⟩
/-! ### t[::-1], t being a tuple -/
theorem sliceApplied_rev {prog : Program} {w : World} {A : Around} {E : Value → Shared → Prop} {s : Shared} {sl : Addr} {vl vu vs : Value} {n : Nat} {Q : Int × Int × Nat → Shared → Prop} (hs : s.heap.IsSliceOf sl vl vu vs) (pl : IsPart vl none) (pu : IsPart vu none) (ps : IsPart vs (some (-1)))
    (h : Q ((n : Int) - 1, -1, n) s) : wpAny (model prog w) A (Builtin.Slice.sliceApplied (.ref sl) (pure (n : Int))) Q E s := by
  obtain ⟨os, hos, hcs, hds⟩ := id hs
  unfold Builtin.Slice.sliceApplied Builtin.Slice.sliceFields
  refine wpAny_bind (wpAny_bind (wpAny_field hos hds (x := vl) rfl (wpAny_bind (wpAny_field hos hds (x := vu) rfl (wpAny_bind (wpAny_field hos hds (x := vs) rfl (wpAny_pure ?_)))))))
  refine wpAny_bind (HT.slicePart_ ps ?_)
  show wpAny _ _ (if ((-1 : Int) == 0) = true then _ else _) _ _ s
  rw [if_neg (by decide)]
  refine wpAny_bind (HT.slicePart_ pl (wpAny_bind (HT.slicePart_ pu (wpAny_bind (wpAny_pure ?_)))))
  show wpAny _ _ (match Builtin.Slice.sliceAdjust none none (-1) (n : Int) with | (lo, hi) => pure (lo, (-1 : Int), Builtin.Slice.slicePlaces lo hi (-1))) _ _ s
  have e1 : Builtin.Slice.sliceAdjust none none (-1) (n : Int) = ((n : Int) - 1, -1) := rfl
  rw [e1]
  show wpAny _ _ (pure ((n : Int) - 1, (-1 : Int), Builtin.Slice.slicePlaces ((n : Int) - 1) (-1) (-1))) _ _ s
  have e2 : Builtin.Slice.slicePlaces ((n : Int) - 1) (-1) (-1) = n := by
    unfold Builtin.Slice.slicePlaces
    have h1 : ¬ ((-1 : Int) > 0) := by decide
    simp only [h1, if_false]
    split
    · rw [show (- -1 : Int) = 1 by decide, Int.ediv_one]
      omega
    · omega
  rw [e2]
  exact wpAny_pure h
theorem fm_congr {α β : Type} {f g : α → Option β} : ∀ {l : List α}, (∀ x ∈ l, f x = g x) → l.filterMap f = l.filterMap g
  | [], _ => rfl
  | x :: l, h => by
    rw [List.filterMap_cons, List.filterMap_cons, h x List.mem_cons_self, fm_congr fun y hy => h y (List.mem_cons_of_mem _ hy)]
theorem pick_rev (xs : Array Value) : ((List.range xs.size).filterMap fun (m : Nat) => xs[(((xs.size : Int) - 1) + (m : Int) * -1).toNat]?).toArray = xs.toList.reverse.toArray := by
  have e : ((List.range xs.size).filterMap fun (m : Nat) => xs[(((xs.size : Int) - 1) + (m : Int) * -1).toNat]?) = ((List.range xs.size).map fun k => xs.size - 1 - k).filterMap (xs[·]?) := by
    rw [List.filterMap_map]
    refine fm_congr fun m hm => ?_
    have := List.mem_range.mp hm
    show xs[_]? = xs[_]?
    rw [show (((xs.size : Int) - 1) + (m : Int) * -1).toNat = xs.size - 1 - m by omega]
  rw [e, PySem.W.krv_range, List.filterMap_reverse, PySem.W.krv_all]
theorem getItem_tuple_rev {prog : Program} {w : World} {A : Around} {E : Value → Shared → Prop} {s : Shared} {t sl : Addr} {items : Array Value} {vl vu vs : Value} {Q : Value → Shared → Prop} (ht : IsTup s.heap t items) (hs : s.heap.IsSliceOf sl vl vu vs) (pl : IsPart vl none) (pu : IsPart vu none) (ps : IsPart vs (some (-1)))
    (h : Q (.ref s.heap.objs.size) { s with heap := s.heap.push { cls := .type "tuple", data := .seq items.toList.reverse.toArray } })
    (hsz : items.size ≤ sizeLine) : wpAny (model prog w) A (getItem (.ref t) (.ref sl)) Q E s := by
  have htake : sizeOk (.seq items.toList.reverse.toArray) := by
    show items.toList.reverse.toArray.size ≤ sizeLine
    rw [List.size_toArray, List.length_reverse, Array.length_toList]
    exact hsz
  obtain ⟨os, hos, hcs, hds⟩ := id hs
  have hTs : s.TypeIs (.ref sl) "slice" := ⟨os, hos, hcs⟩
  unfold getItem
  try with_reducible refine wpAny_holding ?_
  first | refine wpAny_bind (wpAny_pure ?_) | skip
  refine wpAny_bind (wpAny_sequenceKey ht.typeIs (by decide) ?_)
  refine wpAny_bind (wpAny_callSpecial?_slot (name := Str.ofString "__getitem__") ht.typeIs PyProof.Rows.slot_tuple_getitem
    (wpAny_call_entry PyProof.Rows.slot_tuple_getitem ht.typeIs entry_tuple_getitem ?_ (args_tuple_getitem _ _)))
  show wpAny _ _ (Builtin.Tuple.tupleItemsOf (.ref t) >>= _) _ _ s
  refine wpAny_bind (tupleItemsOf_ ht ?_)
  refine wpAny_bind (wpAny_typeOf hTs ?_)
  rw [if_pos (by decide)]
  refine wpAny_bind (sliceApplied_rev hs pl pu ps ?_)
  have hno : ¬ ((((items.size : Int) - 1) == 0 && (-1 : Int) == 1 && items.size == items.size) = true) := by
    intro q
    rw [Bool.and_eq_true, Bool.and_eq_true] at q
    exact absurd (eq_of_beq q.1.2) (by decide)
  show wpAny _ _ (if (((items.size : Int) - 1) == 0 && (-1 : Int) == 1 && items.size == items.size) = true then _ else _) _ _ s
  rw [if_neg hno, pick_rev]
  first
    | exact wpAny_bind (m := Builtin.Tuple.tupleExact _) (wpAny_newObj_type (wpAny_pure ⟨_, rfl, wpAny_pure h⟩) htake)
    | exact wpAny_bind (m := Builtin.Tuple.tupleExact _) (wpAny_newObj_type (wpAny_bind (wpAny_pure (wpAny_pure ⟨_, rfl, wpAny_pure h⟩))) htake)
    | exact wpAny_bind (wpAny_bind (m := Builtin.Tuple.tupleExact _) (wpAny_newObj_type (wpAny_pure (wpAny_pure ⟨_, rfl, wpAny_pure h⟩)) htake))
    | exact wpAny_bind (wpAny_bind (m := Builtin.Tuple.tupleExact _) (wpAny_newObj_type (wpAny_pure ⟨_, rfl, wpAny_pure h⟩) htake))
def tRevT (K : PySem.W.Frag) (te ts : TE) : TE := fun σ H Q => te σ H fun x H1 => tPart ts σ H1 fun o H2 => ∃ (a : Addr) (xs : List V), x = .ref a ∧ SqT K H2 a xs ∧ o = some (-1) ∧ ∀ p, H2 p = none → Q (.ref p) (upd H2 p (.tup xs.reverse))
theorem pe_revT {X : Cx} {e es : Expr} {te ts : TE} {p3 pos : Pos} (he : PE X e te) (hs : PE X es ts)
    (hsub : ∀ (a l : Addr), subscripted (.Slice none none (some es) p3) false (.ref a) (.ref l) = operate [.ref a, .ref l] (getItem (.ref a) (.ref l)) := by intro _ _; with_unfolding_all rfl) : PE X (.Subscript e (.Slice none none (some es) p3) pos) (tRevT X.K te ts) := by
  refine ⟨fun pins s σ H Q I h => ?_⟩
  refine Subscript_ (thn (he.run pins s σ H _ I h) fun v s1 ⟨x, H1, I1, r1, q1⟩ => ?_)
  refine wpAny_Slice (thn (po_none.run pins s1 σ H1 (fun o H2 => o = none ∧ H2 = H1) I1 ⟨rfl, rfl⟩) fun vl s2 ⟨l, H2, I2, pl, el, e2⟩ => ?_)
  subst el e2
  refine thn (po_none.run pins s2 σ H2 (fun o H3 => o = none ∧ H3 = H2) I2 ⟨rfl, rfl⟩) fun vu s3 ⟨u, H3, I3, pu, eu, e3⟩ => ?_
  subst eu e3
  have hst : PO X (some es) (tPart ts) := po_some hs
  refine thn (hst.run pins s3 σ H3 _ I3 q1) fun vs s4 ⟨o, H4, I4, ps, a, xs, ex, hx, eo, q⟩ => ?_
  subst ex
  cases r1
  subst eo
  have I5 : Inv X pins σ H4 { s4 with heap := s4.heap.push { cls := .type "slice", data := .fields #[vl, vu, vs] } } := I4.kept (t' := s4.toks) fun b ob q => Heap.get?_push_of_some _ q
  obtain ⟨its, r, ht, hz⟩ := I5.tuple hx
  have hlen := r.length
  show wpAny (model X.prog X.w) X.A (subscriptTail e (.Slice none none (some es) p3) (.ref a) (.ref s4.heap.objs.size)) (EP X pins σ Q) X.xe { s4 with heap := s4.heap.push { cls := .type "slice", data := .fields #[vl, vu, vs] } }
  refine tail_any (ops := [.ref a, .ref s4.heap.objs.size]) ht.typeIs (PyProof.Rows.slot_tuple_getitem.lookup) ?_ (hsub _ _)
  refine getItem_tuple_rev ht (Heap.IsSliceOf.new _ vl vu vs) pl pu ps ?_ (by rw [List.size_toArray]; omega)
  refine ⟨.ref _, _, I5.laid (t' := s4.toks) (o := .tup xs.reverse) (fun b ob q => Heap.get?_push_of_some _ q) (Nat.le_refl _) ?_, rfl, q _ (I5.hok.fresh (Nat.le_refl _))⟩
  exact ⟨by rw [List.length_reverse]; exact hz, _, r.reverse, ⟨_, Heap.get?_push_size _ rfl, rfl, _, rfl⟩⟩
/-! ### parts of tuples, and tuples behind one another, whatever is the whole -/
theorem sl_toG {K : PySem.W.Frag} {H : Hp} {Z : VK} {p : Addr} {xs : List V} {j : Nat} (hp : H p = some (.tup xs)) (z : ∀ (t : Addr) (H' : Hp), Ex H H' → H' t = some (.tup (xs.take j)) → Z (.ref t) H') : rSlAny K (.ref p) none (some (j : Int)) H Z := by
  refine .inr (.inl ⟨p, _, rfl, st_of hp, fun hz => ?_, fun hz t ht => ?_⟩)
  · have h1 := hz.2
    rw [HT.sIx_nat] at h1
    refine z p H (Ex.refl _) ?_
    rw [List.take_of_length_le (by omega)]
    exact hp
  · rw [cut_to]
    generalize hq2 : upd H t _ = H2
    obtain ⟨e2, h2⟩ := gen1 hq2 ht
    exact z t _ e2 h2
theorem sl_fromG {K : PySem.W.Frag} {H : Hp} {Z : VK} {p : Addr} {xs : List V} {j : Nat} (hp : H p = some (.tup xs)) (z : ∀ (t : Addr) (H' : Hp), Ex H H' → H' t = some (.tup (xs.drop j)) → Z (.ref t) H') : rSlAny K (.ref p) (some (j : Int)) none H Z := by
  refine .inr (.inl ⟨p, _, rfl, st_of hp, fun hz => ?_, fun hz t ht => ?_⟩)
  · have h1 := hz.1
    rw [HT.sIx_nat] at h1
    refine z p H (Ex.refl _) ?_
    have : j = 0 ∨ xs.length = 0 := by omega
    rcases this with rfl | h
    · exact hp
    · rw [List.drop_of_length_le (by omega)]
      rw [List.length_eq_zero_iff.mp h] at hp
      exact hp
  · rw [cut_from]
    generalize hq2 : upd H t _ = H2
    obtain ⟨e2, h2⟩ := gen1 hq2 ht
    exact z t _ e2 h2
theorem cat_G {K : PySem.W.Frag} {H : Hp} {Z : VK} {a b : Addr} {xs ys : List V} (ha : H a = some (.tup xs)) (hb : H b = some (.tup ys)) (hl : xs.length + ys.length ≤ 1000) (z : ∀ (t : Addr) (H' : Hp), Ex H H' → H' t = some (.tup (xs ++ ys)) → Z (.ref t) H') : rAdd K (.ref a) (.ref b) H Z := by
  refine .inr (.inr (.inr ⟨a, b, xs, ys, rfl, rfl, st_of ha, st_of hb, Nat.le_trans hl (by show 1000 ≤ sizeLine; decide), fun e => ?_, fun _ e => ?_, fun _ _ t ht => ?_⟩))
  · refine z b H (Ex.refl _) ?_
    rw [e, List.nil_append]
    exact hb
  · refine z a H (Ex.refl _) ?_
    rw [e, List.append_nil]
    exact ha
  · generalize hq2 : upd H t _ = H2
    obtain ⟨e2, h2⟩ := gen1 hq2 ht
    exact z t _ e2 h2
def rMulT (K : PySem.W.Frag) : R2 := fun x y H Z => rMul x y H Z ∨ rRepT K x y H Z
theorem opMulT {X : Cx} : OpR X (binaryOp .Mult) (rMulT X.K) := OpR.or opMul op_repT
theorem flat_one {α : Type} (x : α) : ∀ n : Nat, (List.replicate n [x]).flatten = List.replicate n x
  | 0 => rfl
  | n + 1 => by
    rw [List.replicate_succ, List.flatten_cons, flat_one x n]
    rfl
theorem DaAll.rep {H : Hp} {v : V} {d : PyData} (h : Da H v d) : ∀ n : Nat, DaAll H (List.replicate n v) (List.replicate n d)
  | 0 => .nil
  | n + 1 => .cons h (DaAll.rep h n)
end Own

namespace Own
open PySem PySem.Spec PyProof.Rows L2 Evl
/-! ### the end -/
theorem law_callG {P : Program} {w : World} {K : PySem.W.Frag} {mg mb : Str → Option Value} {k : Nat} {fa a : Addr} {fd : FuncData} {x : Str} {sp : Sp} {st : Shared} {vs : List Value} {ns : List Int}
    (inK : K.In st.heap) (gN : st.heap.Ns mainGlobals mg) (bN : st.heap.Ns builtinsNs mb) (bN0 : ∀ x : Str, x ≠ "__name__" → mb x = bootBuiltins x) (noL : st.heap.NoLimit) (g0 : st.gens = #[])
    (at0 : st.heap.get? a = some { cls := .type "list", data := .seq vs.toArray }) (are : IntsAre vs ns) (few : ns.length ≤ sizeLine) (hr : Room k callerA)
    (F : ∀ base : Heap, K.In base → base.Ns mainGlobals mg → FnG P w K mg base k fa fd [x] sp) (bnd : ∀ (s : Shared) (u : Value), BindsTo s fd ⟨[u], []⟩ [(x, u)])
    (want : ∀ H : Hp, Only H → SqL K H a (ns.map V.int) → sp [.ref a] H (fun v _ => v = .bl true) fun _ _ _ => False)
    :
    codeAny (model P w) callerA (.call (.ref fa) ⟨[.ref a], []⟩) (fun r s' => r = .ok (.ret (.bool true)) ∧ OldK st.heap s'.heap ∧ s'.os = st.os ∧ AllBare s'.gens) st := by
  have rvs := vals_ints are
  have lv := are.length
  have main : ∀ H : Hp, Only H → SqL K H a (ns.map V.int) → HOk P w H st.heap → (∀ b, H b ≠ none → b = a) → (H a ≠ none → K.lookup a = none) →
      codeAny (model P w) callerA (.call (.ref fa) ⟨[.ref a], []⟩) (fun r s' => r = .ok (.ret (.bool true)) ∧ OldK st.heap s'.heap ∧ s'.os = st.os ∧ AllBare s'.gens) st := by
    intro H only sq okH ata notK
    have inB : ∀ {b : Addr} {o : Obj}, st.heap.get? b = some o → H b = none → (hidT st.heap H).get? b = some o := fun e n => hidT_get e n
    have nod : ∀ {b : Addr} {o : Obj} {es : Array DictEntry} {ep : Nat}, st.heap.get? b = some o → o.data = .dict es ep → H b = none := fun {b o es ep} e d => by
      cases qq : H b with
      | none => rfl
      | some u =>
        have e' : b = a := ata b (by rw [qq]; simp)
        subst e'
        rw [at0] at e; cases e
        have d' : Data.seq vs.toArray _ = Data.dict es ep := d
        cases d'
    have nsB : ∀ {b : Addr} {m : Str → Option Value}, st.heap.Ns b m → (hidT st.heap H).Ns b m := fun {b m} ⟨o, es, ep, e, d, r⟩ => ⟨o, es, ep, inB e (nod e d), d, r⟩
    have kB : K.In (hidT st.heap H) := fun b o e => inB (inK b o e) (by
      cases qq : H b with
      | none => rfl
      | some u =>
        have e' : b = a := ata b (by rw [qq]; simp)
        subst e'
        rw [notK (by rw [qq]; simp)] at e; cases e)
    have mdl : Mod K mg (hidT st.heap H) := ⟨kB, nsB gN, ⟨mb, nsB bN, bN0⟩, let ⟨mc, h1, h2⟩ := noL; ⟨mc, nsB h1, h2⟩⟩
    have envs : Env0 P w K mg (hidT st.heap H) callerA [] st H := ⟨rfl, mdl, fun b o e => of_hidT e, Nat.le_of_eq (hidT_size _ _), trivial, fun b bN => absurd (show b ∈ ([] : List Addr) from bN) (by simp), okH, .of_eq g0⟩
    refine codeAny_mono ((F _ kB (nsB gN)).run callerA [] st H ⟨[.ref a], []⟩ [.ref a] [.ref a] _ _ hr rfl envs (bnd st (.ref a)) (.cons rfl .nil) (want H only sq)) fun r s' h => ?_
    cases r with
    | error e => exact (show False from h).elim
    | ok fl =>
      cases fl with
      | next => exact False.elim h
      | brk => exact False.elim h
      | cont => exact False.elim h
      | ret u =>
        obtain ⟨v, H', oss, br, uu, hok', r', qq⟩ := h
        have q' : v = .bl true := qq
        subst q'
        obtain rfl : u = Value.bool true := r'
        refine ⟨rfl, OldK.of_keep fun b o e => ?_, oss, br⟩
        cases qq : H b with
        | none => exact uu.keep b o e qq (by intro zz; exact absurd (show b ∈ ([] : List Addr) from zz) (by simp)) (by simp)
        | some u =>
          rcases only b with zz | ⟨ob, xs, zz⟩
          · rw [qq] at zz; cases zz
          · have zz2 := uu.frzs b ob _ zz
            obtain ⟨e1, _⟩ := okH b _ zz
            obtain ⟨e2, _⟩ := hok' b _ zz2
            rw [e] at e1; cases e1
            exact e2
  cases lkK : K.lookup a with
  | some o =>
    have e := inK a o lkK
    rw [at0] at e
    cases e
    refine main (fun _ => none) (fun _ => .inl rfl) (.inr ⟨_, vs.toArray, _, lkK, rfl, rfl, rfl, by rw [List.size_toArray, lv]; exact few, by simpa using rvs⟩) (fun b u zz => by have z' : (none : Option HO) = some u := zz; cases z') (fun b zz => absurd rfl zz) fun zz => absurd rfl zz
  | none =>
    refine main (fun b => if b = a then some (.frz { cls := .type "list", data := .seq vs.toArray } (.lst (ns.map V.int))) else none) (fun b => ?_) (.inl (.inr ⟨{ cls := .type "list", data := .seq vs.toArray }, if_pos rfl⟩)) (fun b u zz => ?_) (fun b zz => ?_) fun _ => lkK
    · by_cases bN : b = a
      · exact .inr ⟨_, _, if_pos bN⟩
      · exact .inl (if_neg bN)
    · by_cases bN : b = a
      · have z' := (if_pos bN).symm.trans zz
        cases z'
        subst bN
        exact ⟨at0, by rw [List.length_map]; exact few, vs, _, rvs, at0⟩
      · have z' := (if_neg bN).symm.trans zz
        cases z'
    · by_cases bN : b = a
      · exact bN
      · exact absurd (if_neg bN) zz
theorem walk_G {l : PySem.W.OpenLaw} {n k : Nat} {q : Program} {loose : List Str} {XP : (Str → Option Value) → Heap → Prop} {YP : World → Heap → Prop} {d : DefRec} {K : Params → PySem.W.Frag} {sp : World → Sp} {x : Str}
    (most : l.most = some n) (small : n ≤ sizeLine) (nodf : d.params.defaults = []) (room : Room k callerA) (inn : ∀ (w : World) (h : Heap), YP w h → (K w.params).In h)
    (F : ∀ (w : World) (mg : Str → Option Value) (fa : Addr) (h : Heap), (K w.params).In h → h.Ns mainGlobals mg → mg d.name = some (.ref fa) →
      ∃ fd : FuncData, (∀ (s : Shared) (u : Value), BindsTo s fd ⟨[u], []⟩ [(x, u)]) ∧ ∀ base : Heap, (K w.params).In base → base.Ns mainGlobals mg → FnG l.prog w (K w.params) mg base k fa fd [x] (sp w))
    (want : ∀ (w : World) (H : Hp) (a : Addr) (ns : List Int), ns.length ≤ n → SqL (K w.params) H a (ns.map V.int) → sp w [.ref a] H (fun v _ => v = .bl true) fun _ _ _ => False) :
    PySem.W.WalkO q loose XP YP l.row.toRowW d [] (fun f vs => PySem.call f vs) := by
  refine Att.attach_call most nodf fun w s₀ st mg mb fa o pm cd doc a vs ns G Y ho hd hcd hmg hobj hints hlen g0 => ?_
  have KI := inn w _ Y
  obtain ⟨fd, bd, good⟩ := F w mg fa _ KI G.T.g hmg
  exact law_callG KI G.T.g G.T.b G.T.builtins G.T.nolimit g0 hobj hints (Nat.le_trans hlen small) room good bd (fun H _ hS => want w H a ns hlen hS)
theorem df_mk {K : PySem.W.Frag} {h : Heap} {mg : Str → Option Value} {x : Str} {st : Stmt} {f : Addr} {oc : Value} {od an : Option Addr} {sl : Array (Option Value)} {kV doc pm cdv ct : Value} (X : K.In h) (G : h.Ns mainGlobals mg)
    (a : PySem.W.nsIn K mainGlobals x = some (some (.ref f))) (l : K.lookup f = some ⟨oc, od, .func (PySem.W.fnOf x x (defArgs st) (defBody st) (defScope st) .none kV doc pm an cdv ct), sl⟩) (c : PySem.W.codeIn K cdv x = true) (kp : PySem.W.keepIn K (.ref f) = true) : Df K mg x st :=
  ⟨f, _, PySem.W.mg_of X G a, fun_mk l c kp⟩
end Own

namespace Own
open PySem PySem.Spec PyProof.Rows L2 Evl
def top (i : Nat) : Stmt := PySem.Challenge.pw_scriptpicks_k27_picks_within_picks.main.body.getD i (.Pass ⟨0, 0, 0, 0⟩)
/-- all but b stands -/
def ExB (b : Addr) (H H' : Hp) : Prop := ∀ a o, a ≠ b → H a = some o → H' a = some o
theorem ExB.refl (b : Addr) (H : Hp) : ExB b H H := fun _ _ _ h => h
theorem ExB.set {b : Addr} {H H' : Hp} {o : HO} (e : ExB b H H') : ExB b H (upd H' b o) := fun a u n h => by
  rw [upd_ne n]
  exact e a u n h
theorem ExB.new {b p : Addr} {H H' : Hp} {o : HO} (e : ExB b H H') (hp : H' p = none) : ExB b H (upd H' p o) := fun a u n h => by
  have q := e a u n h
  rw [upd_ne (ne_of_none q hp)]
  exact q
theorem ints_ne4 {ns : List Int} {i j k : Int} {c : Addr} (z : HO.lst (ns.map V.int) = .lst [.int i, .int j, .int k, .ref c]) : False := by
  have z2 : ns.map V.int = [.int i, .int j, .int k, .ref c] := by injection z
  match ns, z2 with
  | [], z2 => cases z2
  | [_], z2 => cases z2
  | [_, _], z2 => cases z2
  | [_, _, _], z2 => cases z2
  | _ :: _ :: _ :: _ :: _, z2 =>
    simp only [List.map_cons] at z2
    injection z2 with _ z2
    injection z2 with _ z2
    injection z2 with _ z2
    injection z2 with z2 _
    cases z2
theorem first_int (ns : List Int) (lo hi : Option Int) : ∃ z, atI (cutV (ns.map V.int) lo hi ++ [V.int 0]) 0 = some (V.int z) := by
  unfold cutV
  rw [← List.map_drop, ← List.map_take]
  generalize (List.take _ (List.drop _ ns)) = l
  cases l with
  | nil => exact ⟨0, rfl⟩
  | cons a r => exact ⟨a, atI_nat (j := 0) rfl⟩
theorem genB {H H3 H4 : Hp} {b : Addr} {o : HO} (hq : upd H3 b o = H4) (e : ExB b H H3) : ExB b H H4 ∧ H4 b = some o := by
  subst hq
  exact ⟨e.set, upd_same⟩
structure Txt0 (mg : Str → Option Value) : Prop where
  abs : mg "abs" = none
  int : mg "int" = none
  len : mg "len" = none
  tuple : mg "tuple" = none
  list : mg "list" = none
  all : mg "all" = none
  any : mg "any" = none
  zip : mg "zip" = none
  range : mg "range" = none
  repr : mg "repr" = none
  dict : mg "dict" = none
abbrev s_l_bag : Stmt := top 8
theorem sc_l_bag : FnScope ["_law_script", "_law_cell"] ["_law_script"] (defScope s_l_bag) := ⟨rfl, rfl, rfl, by decide +kernel, rfl, by decide +kernel, by decide +kernel⟩
abbrev s_l_take : Stmt := top 9
theorem sc_l_take : FnScope ["_law_bag_here", "_law_many", "_law_cell", "_law_mixed", "_law_value", "_law_begin", "_law_second"] ["_law_bag_here", "_law_many"] (defScope s_l_take) := ⟨rfl, rfl, rfl, by decide +kernel, rfl, by decide +kernel, by decide +kernel⟩
abbrev s_l_some : Stmt := top 11
theorem sc_l_some : FnScope ["_law_bag_here", "_law_things"] ["_law_bag_here", "_law_things"] (defScope s_l_some) := ⟨rfl, rfl, rfl, by decide +kernel, rfl, by decide +kernel, by decide +kernel⟩
section
variable {P : Program} {w : World} {K : PySem.W.Frag} {mg : Str → Option Value} {base : Heap}
/-- the bag as a list -/
def spTakeL : Sp := fun vs H Q _ => ∃ (b c : Addr) (m i j k : Int) (ns : List Int), vs = [.ref b, .int m] ∧ H b = some (.lst [.int i, .int j, .int k, .ref c]) ∧ H c = some (.lst (ns.map V.int)) ∧ ns.length ≤ 63 ∧ 0 < m ∧ m < 1000000000 ∧
  ∀ (H' : Hp) (r i' j' k' : Int), 0 ≤ r → r < m → ExB b H H' → H' b = some (.lst [.int i', .int j', .int k', .ref c]) → Q (.int r) H'
theorem ok_takeL (T : Txt0 mg) (D : Df K mg "_law_take" s_l_take) : CalG P w K mg base 1 "_law_take" spTakeL := by
  refine cal_mk D sc_l_take (fun _ _ _ _ _ _ us hl => match us, hl with | [_, _], _ => rfl) (fun vs H Q E h => ?_) (fun f cdv A outer s H vs Q E hr hG h => ?_)
  · obtain ⟨b, c, m, i, j, k, ns, rfl, _⟩ := h
    rfl
  · obtain ⟨b, c, m, i, j, k, ns, rfl, hb, hc, h63, hm, hm9, q⟩ := h
    have nbc : c ≠ b := ne_of hc hb (fun z => ints_ne4 z)
    refine ⟨_, (Evl.pss_cut (ps_if (pt_cmpR (opEq hr) (pe_ix ixAny (pv 0) pe_int (fun _ _ => rfl)) pe_int (nomark _)) (pss_cons (ps_set (i := 2) sc_l_take.nd rfl (Or.inl rfl) (pe_ix ixAny (pe_op opAdd (pe_slice slAny (pe_ix ixAny (pv 0) pe_int (fun _ _ => rfl)) (po_some (pe_ix ixAny (pv 0) pe_int (fun _ _ => rfl))) po_none) (pe_lst (pa_cons pe_int pa_nil))) pe_int (fun _ _ => rfl)))
      (pss_cons (ps_augS (pv 0) pe_int pgetL pe_int ip_add set_list)
      (Evl.pss_cut (ps_if (pt_cmpR opGe (pv 2) pe_int (nomark _)) (pss_one (ps_asg (pv 2) (pg_sub (pv 0) pe_int set_list))) pss_nil)
      (pss_cons (ps_set (i := 3) sc_l_take.nd rfl (Or.inl rfl) (pe_op opAdd (pe_op opAdd (pe_op opMul (pe_ix ixAny (pv 0) pe_int (fun _ _ => rfl)) pe_int) (pe_op op_mod (pe_callTy call_int1 (by rfl) T.int (by decide +kernel) (pa_cons (pv 2) pa_nil)) pe_int)) (pe_op opMul pe_int (pe_ix ixAny (pv 0) pe_int (fun _ _ => rfl)))))
      (pss_one (ps_asg (pe_op op_mod (pe_callTy call_int1 (by rfl) T.int (by decide +kernel) (pa_cons (pv 3) pa_nil)) pe_int) (pg_sub (pv 0) pe_int set_list))))))) pss_nil)
      (pss_cons (ps_if (pt_cmpR opGt (pe_ix ixAny (pv 0) pe_int (fun _ _ => rfl)) pe_int (nomark _)) (pss_cons (ps_set (i := 4) sc_l_take.nd rfl (Or.inl rfl) (pe_op op_mod (pe_callTy call_int1 (by rfl) T.int (by decide +kernel) (pa_cons (pe_ix ixAny (pv 0) pe_int (fun _ _ => rfl)) pa_nil)) (pv 1)))
      (pss_cons (ps_asg (pe_op op_fdivW (pe_ix ixAny (pv 0) pe_int (fun _ _ => rfl)) (pv 1)) (pg_sub (pv 0) pe_int set_list))
      (pss_one (ps_ret (pv 4))))) pss_nil)
      (pss_cons (ps_set (i := 5) sc_l_take.nd rfl (Or.inl rfl) (pe_op op_mod (pe_callTy call_int1 (by rfl) T.int (by decide +kernel) (pa_cons (pe_op opMul (pe_op opAdd (pe_ix ixAny (pv 0) pe_int (fun _ _ => rfl)) pe_int) pe_int) pa_nil)) pe_int))
      (pss_cons (ps_set (i := 6) sc_l_take.nd rfl (Or.inl rfl) (pe_op op_mod (pe_callTy call_int1 (by rfl) T.int (by decide +kernel) (pa_cons (pe_op opMul (pe_op op_mod (pe_callTy call_int1 (by rfl) T.int (by decide +kernel) (pa_cons (pe_op opMul (pv 5) (pv 5)) pa_nil)) pe_int) pe_int) pa_nil)) pe_int))
      (pss_one (ps_ret (pe_op op_mod (pe_callTy call_int1 (by rfl) T.int (by decide +kernel) (pa_cons (pe_op op_fdivW (pv 6) pe_int) pa_nil)) (pv 1)))))))), ?_⟩
    refine ⟨fun σ' H' => ∃ (i j k : Int) (x2 x3 : Option V), σ' = [some (.ref b), some (.int m), x2, x3, none, none, none] ∧ ExB b H H' ∧ H' b = some (.lst [.int i, .int j, .int k, .ref c]), ?_, ?_⟩
    · refine ⟨_, rfl, .inl ⟨b, _, 0, _, rfl, rfl, sq_of hb, rfl, .inl ⟨rfl, _, rfl, ?_⟩⟩⟩
      refine ite2 (fun _ => ?_) (fun _ => ⟨i, j, k, none, none, rfl, ExB.refl b H, hb⟩)
      -- cell = (bag[3][bag[2]:] + [0])[0]
      refine ⟨_, rfl, .inl ⟨b, _, 3, _, rfl, rfl, sq_of hb, rfl, ⟨_, rfl, .inl ⟨b, _, 2, _, rfl, rfl, sq_of hb, rfl, k, rfl, .inl ⟨c, _, rfl, sq_of hc, fun p hp => ?_⟩⟩⟩⟩⟩
      refine ⟨by show 1 ≤ sizeLine; decide, fun p2 hp2 => .inr (.inr (.inl ⟨p, p2, _, _, rfl, rfl, up_old hp2 upd_same, upd_same, ?_, fun p3 hp3 => ?_⟩))⟩
      · refine sz_of ?_
        have q1 := cutV_length (ns.map V.int) (some k) none
        rw [List.length_map] at q1
        show _ + 1 ≤ 100000
        omega
      obtain ⟨z, hz⟩ := first_int ns (some k) none
      refine .inl ⟨p3, _, 0, _, rfl, rfl, sq_of upd_same, hz, ?_⟩
      have e3 := (((ExB.refl b H).new (o := .lst (cutV (ns.map V.int) (some k) none)) hp).new (o := .lst [V.int 0]) hp2).new (o := .lst (cutV (ns.map V.int) (some k) none ++ [V.int 0])) hp3
      have hb3 := up_old (o := .lst (cutV (ns.map V.int) (some k) none ++ [V.int 0])) hp3 (up_old (o := .lst [V.int 0]) hp2 (up_old (o := .lst (cutV (ns.map V.int) (some k) none)) hp hb))
      generalize upd (upd (upd H p _) p2 _) p3 _ = H3 at e3 hb3 ⊢
      -- bag[2] += 1
      refine ⟨_, rfl, b, _, 2, _, rfl, rfl, sq_of hb3, rfl, k, 1, rfl, rfl, b, _, 2, 2, rfl, rfl, hb3, rfl, ?_⟩
      generalize hq4 : upd H3 b _ = H4
      obtain ⟨e4, hb4⟩ := genB hq4 e3
      -- if cell >= ..: bag[0] = cell
      refine ⟨fun σ' H' => ∃ (i : Int), σ' = [some (.ref b), some (.int m), some (.int z), none, none, none, none] ∧ ExB b H H' ∧ H' b = some (.lst [.int i, .int j, .int (k + 1), .ref c]), ?_, ?_⟩
      · refine ⟨_, rfl, z, _, rfl, rfl, _, rfl, ?_⟩
        refine ite2 (fun _ => ?_) (fun _ => ⟨i, rfl, e4, hb4⟩)
        exact ⟨_, rfl, _, rfl, b, _, 0, 0, rfl, rfl, hb4, rfl, z, rfl, e4.set, upd_same⟩
      · rintro σ5 H5 ⟨i5, rfl, e5, hb5⟩
        -- mixed
        refine ⟨_, rfl, .inl ⟨b, _, 1, _, rfl, rfl, sq_of hb5, rfl, .inl ⟨j, 48271, rfl, rfl, .inr (by decide), ?_⟩⟩⟩
        refine ⟨_, rfl, .inl ⟨z, rfl, ?_⟩⟩
        refine ⟨_, _, rfl, rfl, (show (0 : Int) < 2147483647 by decide), .inl ⟨_, _, rfl, rfl, ?_⟩⟩
        refine ⟨_, rfl, .inl ⟨b, _, 2, _, rfl, rfl, sq_of hb5, rfl, .inl ⟨7919, _, rfl, rfl, .inl (by decide), .inl ⟨_, _, rfl, rfl, ?_⟩⟩⟩⟩
        refine ⟨_, rfl, .inl ⟨_, rfl, ?_⟩⟩
        refine ⟨_, _, rfl, rfl, (show (0 : Int) < 2147483647 by decide), _, rfl, b, _, 1, 1, rfl, rfl, hb5, rfl, ?_⟩
        exact ⟨i5, _, k + 1, _, _, rfl, e5.set, upd_same⟩
    · rintro σ' H' ⟨i, j, k, x2, x3, rfl, e, hb⟩
      refine ⟨_, rfl, .inl ⟨b, _, 0, _, rfl, rfl, sq_of hb, rfl, i, 0, rfl, rfl, _, rfl, ?_⟩⟩
      refine ite2 (fun _ => ?_) (fun _ => ?_)
      · refine ⟨_, rfl, .inl ⟨b, _, 0, _, rfl, rfl, sq_of hb, rfl, .inl ⟨_, rfl, ?_⟩⟩⟩
        refine ⟨_, rfl, _, _, rfl, rfl, hm, ?_⟩
        refine ⟨_, rfl, .inl ⟨b, _, 0, _, rfl, rfl, sq_of hb, rfl, ?_⟩⟩
        refine ⟨_, rfl, _, _, rfl, rfl, wide_div hm (b := 30) (by omega) (by decide) (by decide), ?_⟩
        refine ⟨_, rfl, b, _, 0, 0, rfl, rfl, hb, rfl, ?_⟩
        exact ⟨_, rfl, q _ _ _ _ _ (Int.emod_nonneg _ (by omega)) (Int.emod_lt_of_pos _ hm) e.set upd_same⟩
      · refine ⟨_, rfl, .inl ⟨b, _, 1, _, rfl, rfl, sq_of hb, rfl, .inl ⟨j, 1, rfl, rfl, .inl ⟨_, 39373, rfl, rfl, .inr (by decide), .inl ⟨_, rfl, ?_⟩⟩⟩⟩⟩
        refine ⟨_, _, rfl, rfl, (show (0 : Int) < 1000000007 by decide), ?_⟩
        have h0 : 0 ≤ (j + 1) * 39373 % 1000000007 := Int.emod_nonneg _ (by decide)
        have h1 : (j + 1) * 39373 % 1000000007 < 1000000007 := Int.emod_lt_of_pos _ (by decide)
        refine ⟨_, rfl, _, rfl, .inl ⟨_, _, rfl, rfl, .inl ⟨Int.lt_of_lt_of_le (by decide) h0, Int.lt_trans h1 (by decide)⟩, .inl ⟨_, rfl, ?_⟩⟩⟩
        refine ⟨_, _, rfl, rfl, (show (0 : Int) < 998244353 by decide), .inl ⟨_, 30011, rfl, rfl, .inr (by decide), .inl ⟨_, rfl, ?_⟩⟩⟩
        refine ⟨_, _, rfl, rfl, (show (0 : Int) < 998244353 by decide), ?_⟩
        refine ⟨_, rfl, _, _, rfl, rfl, wide_div (b := 30) (by decide) (by decide) (by decide) (by decide), .inl ⟨_, rfl, ?_⟩⟩
        exact ⟨_, rfl, _, _, rfl, rfl, hm, q _ _ _ _ _ (Int.emod_nonneg _ (by omega)) (Int.emod_lt_of_pos _ hm) e hb⟩
end
/-- the bag, its numbers left open -/
def bagF (b c : Addr) (h : Heap) : Prop := ∃ (i j k : Int) (t u v : Tok) (n : Nat), h.get? b = some { cls := .type "list", data := .seq #[.int i t, .int j u, .int k v, .ref c] n }
def bagO (b c : Addr) : HO := .ext (bagF b c)
def BagAt (H : Hp) (b : Addr) : Prop := ∃ (c : Addr) (ns : List Int), H b = some (bagO b c) ∧ H c = some (.lst (ns.map V.int)) ∧ ns.length ≤ 63
theorem BagAt.ex {H H' : Hp} {b : Addr} (e : Ex H H') (h : BagAt H b) : BagAt H' b := by
  obtain ⟨c, ns, h1, h2, h3⟩ := h
  exact ⟨c, ns, e _ _ h1, e _ _ h2, h3⟩
theorem objOk_swap {P : Program} {w : World} {H H' : Hp} {h : Heap} (ht : ∀ a xs, H a = some (.tup xs) → H' a = some (.tup xs)) (ho : ∀ a x, H a = some (.own x) → H' a = some (.own x)) : ∀ (o : HO) (a : Addr), ObjOk P w H h a o → ObjOk P w H' h a o
  | .lst _, _, q => q
  | .tup _, _, q => q
  | .dK _, _, q => q
  | .dT kvs, a, q => by
    obtain ⟨q1, q2, xs, q3, q4⟩ := q
    exact ⟨q1, q2, xs, Paired.mapP q3 fun x y z => ⟨z.1, ht _ _ z.2.1, z.2.2⟩, q4⟩
  | .set _ _, _, q => q
  | .ins _ _ _, a, q => by
    obtain ⟨q1, q2⟩ := q
    exact ⟨ho _ _ q1, q2⟩
  | .own _, _, q => q
  | .xd _, _, q => q
  | .met _ _, _, q => q
  | .rng _ _, _, q => q
  | .frz o u, a, q => ⟨q.1, objOk_swap ht ho u a q.2⟩
  | .tbl _, _, q => q
  | .ext _, _, q => q
theorem hOk_set {P : Program} {w : World} {H : Hp} {h : Heap} {b : Addr} {o1 o2 : HO} (hk : HOk P w H h) (h1 : H b = some o1) (nt : ∀ xs, o1 ≠ .tup xs) (no : ∀ x, o1 ≠ .own x) (h2 : ObjOk P w (upd H b o2) h b o2) : HOk P w (upd H b o2) h := fun a o e => by
  by_cases ea : a = b
  · subst ea
    rw [upd_same] at e
    cases e
    exact h2
  · rw [upd_ne ea] at e
    refine objOk_swap (fun a' xs q => ?_) (fun a' x q => ?_) o a (hk a o e)
    · have n : a' ≠ b := fun z => by
        rw [z, h1] at q
        exact nt _ (Option.some.inj q)
      rw [upd_ne n]
      exact q
    · have n : a' ≠ b := fun z => by
        rw [z, h1] at q
        exact no _ (Option.some.inj q)
      rw [upd_ne n]
      exact q
def spTake : Sp := fun vs H Q _ => ∃ (b : Addr) (m : Int), vs = [.ref b, .int m] ∧ BagAt H b ∧ 0 < m ∧ m < 1000000000 ∧ ∀ (H' : Hp) (r : Int), 0 ≤ r → r < m → Ex H H' → Q (.int r) H'
section
variable {P : Program} {w : World} {K : PySem.W.Frag} {mg : Str → Option Value} {base : Heap}
theorem bag_shut {P : Program} {w : World} {H : Hp} {h : Heap} {b c : Addr} {i j k : Int} (q : ObjOk P w H h b (.lst [.int i, .int j, .int k, .ref c])) : bagF b c h := by
  obtain ⟨_, its, n, rv, ho⟩ := q
  cases rv with
  | cons r1 rv => cases rv with
    | cons r2 rv => cases rv with
      | cons r3 rv => cases rv with
        | cons r4 rv =>
          cases rv
          obtain ⟨t, rfl⟩ := r1
          obtain ⟨u, rfl⟩ := r2
          obtain ⟨v, rfl⟩ := r3
          cases r4
          exact ⟨i, j, k, t, u, v, n, ho⟩
theorem take_ext (C : CalG P w K mg base 1 "_law_take" spTakeL) : CalG P w K mg base 1 "_law_take" spTake := by
  obtain ⟨f, fd, ps, F, a, kp, bd⟩ := C.ex
  have hps : ps.length = 2 := (F.len [.ref 0, .int 1] (fun x => if x = 0 then some (.lst [.int 0, .int 0, .int 0, .ref 1]) else if x = 1 then some (.lst ([].map V.int)) else none) (fun _ _ => True) (fun _ _ _ => True) ⟨0, 1, 1, 0, 0, 0, [], rfl, rfl, rfl, by decide, by decide, by decide, fun _ _ _ _ _ _ _ _ _ => trivial⟩).symm
  refine ⟨f, fd, ps, ⟨fun vs H Q E h => ?_, fun A outer s H args us vs Q E hr hg e0 hb rv h => ?_⟩, a, kp, bd⟩
  · obtain ⟨b, m, rfl, _⟩ := h
    exact hps.symm
  · obtain ⟨b, m, rfl, ⟨c, ns, h1, h2, h3⟩, hm, hm9, q⟩ := h
    obtain ⟨⟨i, j, k, t, u, v, n, ho⟩, _, _⟩ := e0.hok b _ h1
    have nbc : c ≠ b := ne_of h2 h1 (by intro z; cases z)
    have hok : HOk P w (upd H b (.lst [.int i, .int j, .int k, .ref c])) s.heap := hOk_set e0.hok h1 (fun _ z => by cases z) (fun _ z => by cases z)
      ⟨by show 4 ≤ sizeLine; decide, [.int i t, .int j u, .int k v, .ref c], n, .cons ⟨t, rfl⟩ (.cons ⟨u, rfl⟩ (.cons ⟨v, rfl⟩ (.cons rfl .nil))), ho⟩
    have nb : ∀ x, H x = none → (upd H b (.lst [.int i, .int j, .int k, .ref c])) x = none := fun x e => by
      rw [upd_ne (fun z => by rw [z, h1] at e; cases e)]
      exact e
    have e1 : Env0 P w K mg base A outer s (upd H b (.lst [.int i, .int j, .int k, .ref c])) :=
      ⟨e0.frames, e0.mod, fun x o e => ⟨(e0.bs x o e).1, nb _ (e0.bs x o e).2⟩, e0.bsz, e0.funs, fun x hx => nb _ (e0.frf x hx), hok, e0.bare⟩
    have run := F.run A outer s _ args us [.ref b, .int m] (fun v H'' => (∃ i j k, H'' b = some (.lst [.int i, .int j, .int k, .ref c])) ∧ Q v (upd H'' b (bagO b c))) E hr hg e1 hb rv
      ⟨b, c, m, i, j, k, ns, rfl, upd_same, by rw [upd_ne nbc]; exact h2, h3, hm, hm9, fun H' r i' j' k' r0 r1 e2 hb' => ⟨⟨_, _, _, hb'⟩, q _ r r0 r1 fun x o hx => by
        by_cases ex : x = b
        · rw [ex] at hx ⊢
          rw [upd_same, ← h1]
          exact hx
        · rw [upd_ne ex]
          exact e2 x o ex (by rw [upd_ne ex]; exact hx)⟩⟩
    refine codeAny_mono run fun r s' hq => ?_
    cases r with
    | error e => exact hq
    | ok fl =>
      cases fl with
      | next => exact hq
      | brk => exact hq
      | cont => exact hq
      | ret u' =>
        obtain ⟨v', H'', q1, q2, q3, q4, q5, ⟨i2, j2, k2, q6⟩, q7⟩ := hq
        refine ⟨v', upd H'' b (bagO b c), q1, q2, ⟨?_, ?_, ?_, ?_, ?_, ?_, ?_⟩, ?_, q5, q7⟩
        · exact fun x o e n f g => q3.keep x o e (nb x n) f g
        · exact fun x o e n f g => q3.slot x o e (nb x n) f g
        · intro x o e n g
          have nx : x ≠ b := fun z => by
            rw [z, h1] at n
            cases n
          rw [upd_ne nx]
          exact q3.free x o e (nb x n) g
        · exact q3.there
        · intro x xs e
          have nx : x ≠ b := fun z => by
            rw [z, h1] at e
            cases e
          rw [upd_ne nx]
          exact q3.tups x xs (by rw [upd_ne nx]; exact e)
        · intro x o u e
          have nx : x ≠ b := fun z => by
            rw [z, h1] at e
            cases e
          rw [upd_ne nx]
          exact q3.frzs x o u (by rw [upd_ne nx]; exact e)
        · intro x ps e
          have nx : x ≠ b := fun z => by
            rw [z, h1] at e
            cases e
          rw [upd_ne nx]
          exact q3.tbls x ps (by rw [upd_ne nx]; exact e)
        · refine hOk_set q4 q6 (fun _ z => by cases z) (fun _ z => by cases z) ?_
          have q8 := bag_shut (q4 b _ q6)
          refine ⟨q8, ?_, fun ha hb ⟨i, j, k, t, u, v, n, x⟩ y => ⟨i, j, k, t, u, v, n, y _ x⟩⟩
          obtain ⟨_, _, _, _, _, _, _, x⟩ := q8
          exact ⟨_, x⟩
def spBagL (K : PySem.W.Frag) : Sp := fun vs H Q _ => ∃ (a : Addr) (ns : List Int), vs = [.ref a] ∧ SqL K H a (ns.map V.int) ∧ ns.length ≤ 63 ∧
  ∀ (H' : Hp) (b c : Addr) (ms : List Int), Ex H H' → H' b = some (.lst [.int 0, .int 1234567891, .int 0, .ref c]) → H' c = some (.lst (ms.map V.int)) → ms.length ≤ 63 → H b = none → Q (.ref b) H'
theorem all_ints : ∀ (ys : List V), (∀ (i : Nat) y, ys[i]? = some y → ∃ z : Int, y = .int z) → ∃ ms : List Int, ys = ms.map V.int
  | [], _ => ⟨[], rfl⟩
  | y :: ys, h => by
    obtain ⟨z, rfl⟩ := h 0 y rfl
    obtain ⟨ms, e⟩ := all_ints ys fun i y q => h (i + 1) y q
    exact ⟨z :: ms, by rw [e]; rfl⟩
theorem cut_at {xs : List V} {lo hi : Option Int} {i : Nat} {x : V} (h : (cutV xs lo hi)[i]? = some x) : ∃ j : Nat, xs[j]? = some x := by
  unfold cutV at h
  rw [List.getElem?_take] at h
  split at h
  · rw [List.getElem?_drop] at h
    exact ⟨_, h⟩
  · cases h
theorem map_at {ns : List Int} {i : Nat} {x : V} (h : (ns.map V.int)[i]? = some x) : ∃ z : Int, x = .int z := by
  rw [List.getElem?_map] at h
  cases e : ns[i]? with
  | none => rw [e] at h; cases h
  | some z => rw [e] at h; exact ⟨z, (Option.some.inj h).symm⟩
theorem ok_bagL (T : Txt0 mg) (D : Df K mg "_law_bag" s_l_bag) : CalG P w K mg base 1 "_law_bag" (spBagL K) := by
  refine cal_mk D sc_l_bag (fun _ _ _ _ _ _ us hl => match us, hl with | [_], _ => rfl) (fun vs H Q E h => ?_) (fun f cdv A outer s H vs Q E hr hG h => ?_)
  · obtain ⟨a, ns, rfl, _⟩ := h
    rfl
  · obtain ⟨a, ns, rfl, ha, h63, q⟩ := h
    refine ⟨_, (pss_one (ps_ret (pe_lst (pa_cons pe_int (pa_cons pe_int (pa_cons pe_int (pa_cons (pe_lcO (pe_lc (own := [("_law_cell", 1)]) rfl sc_l_bag.nd (piAny (pe_slice slAny (pv 0) po_none (po_some pe_int))) (blkOk_by (own := [("_law_cell", 1)]) (N := ["_law_script", "_law_cell"]) (sc := defScope s_l_bag) (by first | decide +kernel | kernel_rfl)) (fun _ _ _ _ _ => pg_name (i := 1) sc_l_bag.nd rfl (Or.inl rfl)) (fun _ _ _ _ _ => pts_nil) (fun _ _ _ _ _ => pe_callB call_abs (by rfl) T.abs (by decide +kernel) (pa_cons (pv 1) pa_nil)))) pa_nil))))))), ?_⟩
    refine .inl ⟨_, rfl, 63, rfl, .inl ⟨a, _, rfl, ha, fun p hp => ?_⟩⟩
    generalize hq1 : upd H p _ = H1
    obtain ⟨e1, h1⟩ := gen1 hq1 hp
    have hlen := cutV_length (ns.map V.int) none (some 63)
    rw [List.length_map] at hlen
    refine ⟨p, rfl, ⟨_, sq_of h1⟩, ?_⟩
    refine lcG (walk_list (xs := cutV (ns.map V.int) none (some 63))) (by omega) (sq_of h1) (fun _ _ e h => ex_l e h) yAt_ex (fun i ys _ => ∀ (j : Nat) y, ys[j]? = some y → ∃ z : Int, y = .int z) (fun _ _ _ _ _ h => h) (fun j y z => by simp at z) ?_ ?_
    · rintro i x H2 H3 ys hi e2 ⟨rfl, hx⟩ hp N N0 kN kN0
      obtain ⟨j, hj⟩ := cut_at hx
      obtain ⟨z, rfl⟩ := map_at hj
      refine ⟨rfl, ?_⟩
      refine ⟨_, rfl, z, rfl, ?_⟩
      refine kN _ _ (Ex.refl _) fun j y hy => ?_
      rw [List.getElem?_append] at hy
      split at hy
      · exact hp j y hy
      · rw [List.getElem?_singleton] at hy
        split at hy
        · exact ⟨_, (Option.some.inj hy).symm⟩
        · cases hy
    · intro D H2 ys hD e2 h2 hl hp
      obtain ⟨ms, rfl⟩ := all_ints ys hp
      refine ⟨by show 4 ≤ sizeLine; decide, fun b hb => ?_⟩
      generalize hq3 : upd H2 b _ = H3
      obtain ⟨e3, h3⟩ := gen1 hq3 hb
      rw [List.length_map] at hl
      exact q _ b D ms ((e1.trans e2).trans e3) h3 (e3 _ _ h2) (by omega) (fresh_back (e1.trans e2) hb)
/-- script: any list of ints -/
def spBag (K : PySem.W.Frag) : Sp := fun vs H Q _ => ∃ (a : Addr) (ns : List Int), vs = [.ref a] ∧ SqL K H a (ns.map V.int) ∧ ns.length ≤ 63 ∧ ∀ (H' : Hp) (b : Addr), Ex H H' → BagAt H' b → Q (.ref b) H'
theorem bag_ext (C : CalG P w K mg base 1 "_law_bag" (spBagL K)) : CalG P w K mg base 1 "_law_bag" (spBag K) := by
  obtain ⟨f, fd, ps, F, a, kp, bd⟩ := C.ex
  refine ⟨f, fd, ps, ⟨fun vs H Q E h => ?_, fun A outer s H args us vs Q E hr hg e0 hb rv h => ?_⟩, a, kp, bd⟩
  · obtain ⟨a, ns, rfl, ha, hl, _⟩ := h
    exact F.len [.ref a] H (fun _ _ => True) E ⟨a, ns, rfl, ha, hl, fun _ _ _ _ _ _ _ _ _ => trivial⟩
  · obtain ⟨a, ns, rfl, ha, hl, q⟩ := h
    have run := F.run A outer s _ args us [.ref a] (fun v H'' => ∃ (b c : Addr) (ms : List Int), v = .ref b ∧ Ex H H'' ∧ H'' b = some (.lst [.int 0, .int 1234567891, .int 0, .ref c]) ∧ H'' c = some (.lst (ms.map V.int)) ∧ ms.length ≤ 63 ∧ H b = none) E hr hg e0 hb rv
      ⟨a, ns, rfl, ha, hl, fun H' b c ms e h1 h2 h3 h4 => ⟨b, c, ms, rfl, e, h1, h2, h3, h4⟩⟩
    refine codeAny_mono run fun r s' hq => ?_
    cases r with
    | error e => exact hq
    | ok fl =>
      cases fl with
      | next => exact hq
      | brk => exact hq
      | cont => exact hq
      | ret u' =>
        obtain ⟨v', H'', q1, q2, q3, q4, q5, b, c, ms, rfl, e, h1, h2, h3, h4⟩ := hq
        have nbc : c ≠ b := ne_of h2 h1 (fun z => ints_ne4 z)
        have no : ∀ x o, H x = some o → x ≠ b := fun x o hx z => by
          rw [z, h4] at hx
          cases hx
        refine ⟨.ref b, upd H'' b (bagO b c), q1, q2, ⟨q3.keep, q3.slot, ?_, q3.there, ?_, ?_, ?_⟩, ?_, q5, q _ b (Ex.mut e h4) ⟨c, ms, upd_same, ?_, h3⟩⟩
        · intro x o ho n g
          have z := q3.free x o ho n g
          have nx : x ≠ b := fun y => by
            rw [y, h1] at z
            cases z
          rw [upd_ne nx]
          exact z
        · intro x xs hx
          rw [upd_ne (no _ _ hx)]
          exact q3.tups x xs hx
        · intro x o u hx
          rw [upd_ne (no _ _ hx)]
          exact q3.frzs x o u hx
        · intro x ps hx
          rw [upd_ne (no _ _ hx)]
          exact q3.tbls x ps hx
        · refine hOk_set q4 h1 (fun _ z => by cases z) (fun _ z => by cases z) ?_
          have q8 := bag_shut (q4 b _ h1)
          refine ⟨q8, ?_, fun ha hb ⟨i, j, k, t, u, v, n, x⟩ y => ⟨i, j, k, t, u, v, n, y _ x⟩⟩
          obtain ⟨_, _, _, _, _, _, _, x⟩ := q8
          exact ⟨_, x⟩
        · rw [upd_ne nbc]
          exact h2
def spSome (K : PySem.W.Frag) : Sp := fun vs H Q _ => ∃ (b a : Addr) (xs : List V), vs = [.ref b, .ref a] ∧ BagAt H b ∧ (SqL K H a xs ∨ SqT K H a xs) ∧ xs ≠ [] ∧ xs.length ≤ 100000 ∧
  ∀ (H' : Hp) (i : Nat) (x : V), Ex H H' → xs[i]? = some x → Q x H'
theorem ok_some (T : Txt0 mg) (D : Df K mg "_law_some" s_l_some) (c_l_take : CalG P w K mg base 1 "_law_take" spTake) : CalG P w K mg base 2 "_law_some" (spSome K) := by
  refine cal_mk D sc_l_some (fun _ _ _ _ _ _ us hl => match us, hl with | [_, _], _ => rfl) (fun vs H Q E h => ?_) (fun f cdv A outer s H vs Q E hr hG h => ?_)
  · obtain ⟨b, a, xs, rfl, _⟩ := h
    rfl
  · obtain ⟨b, a, xs, rfl, hb, ha, hne, hl, q⟩ := h
    have hpos : 0 < xs.length := List.length_pos_iff.mpr hne
    refine ⟨_, (pss_one (ps_ret (pe_ix ixAny (pv 1) (pe_cG c_l_take hr hG (by decide) rfl (pa_cons (pv 0) (pa_cons (pe_callB callLen (by rfl) T.len PySem.boot_len (pa_cons (pv 1) pa_nil)) pa_nil))) (fun _ _ => rfl)))), ?_⟩
    refine ⟨_, rfl, _, rfl, _, rfl, .inl ⟨a, xs, rfl, ha, ?_⟩⟩
    refine ⟨b, _, rfl, hb, by omega, by omega, fun H' r r0 r1 e => ?_⟩
    obtain ⟨j, rfl⟩ : ∃ j : Nat, r = (j : Int) := ⟨r.toNat, by omega⟩
    have hj : j < xs.length := by omega
    rcases ha with ha | ha
    · exact .inl ⟨a, xs, _, xs[j], rfl, rfl, ex_l e ha, atI_nat (List.getElem?_eq_getElem hj), q H' j _ e (List.getElem?_eq_getElem hj)⟩
    · exact .inr (.inl ⟨a, xs, _, xs[j], rfl, rfl, ex_t e ha, atI_nat (List.getElem?_eq_getElem hj), q H' j _ e (List.getElem?_eq_getElem hj)⟩)
end
abbrev s_l_names : Stmt := top 12
theorem sc_l_names : FnScope ["_law_bag_here", "_law_many", "_law_letters", "_law_found", "_law_words", "_law_k", "_law_signs", "_law_spin", "_law_at", "_law_rest", "_law_some_here", "_law_one"] ["_law_bag_here", "_law_many"] (defScope s_l_names) := ⟨rfl, rfl, rfl, by decide +kernel, rfl, by decide +kernel, by decide +kernel⟩
section
variable {P : Program} {w : World} {K : PySem.W.Frag} {mg : Str → Option Value} {base : Heap}
/-! ### names -/
def LET : Str := "abcdefghijklmnopqrstuvwxyz"
def WRD : Str := "at as last like all name book goal with turn part drop call copy chain close eq lt gt put"
def WL : List Str := ["at", "as", "last", "like", "all", "name", "book", "goal", "with", "turn", "part", "drop", "call", "copy", "chain", "close", "eq", "lt", "gt", "put"]
def lowc (c : Nat) : Bool := decide (97 ≤ c) && decide (c ≤ 122)
def isNm (z : Str) : Bool := decide (1 ≤ z.length) && decide (z.length ≤ 8) && (TL.tl z).all lowc
theorem wl_split : Txt.split WRD " " = WL := by decide +kernel
theorem wl_nm : WL.all isNm = true := by decide +kernel
theorem let_at : ∀ j : Fin 26, atI LET.cps.toList ((j.val : Nat) : Int) = some (97 + j.val) := by decide +kernel
theorem let_occ : ∀ j : Fin 26, Builtin.Str.occurrences LET (sgn (97 + j.val)) 0 LET.length 1 = [j.val] := by decide +kernel
theorem let_rot : ∀ j : Fin 26, (TL.tl (cutS LET (some (j.val : Int)) none ++ cutS LET none (some (j.val : Int)))).Nodup ∧ (TL.tl (cutS LET (some (j.val : Int)) none ++ cutS LET none (some (j.val : Int)))).all lowc = true ∧ (TL.tl (cutS LET (some (j.val : Int)) none ++ cutS LET none (some (j.val : Int)))).length = 26 := by decide +kernel
theorem let_cut : ∀ j : Fin 26, (cutS LET (some (j.val : Int)) none).length + (cutS LET none (some (j.val : Int))).length ≤ 26 := by decide +kernel
theorem four_at {r : Int} (h0 : 0 ≤ r) (h1 : r < 4) : ∃ n : Nat, 1 ≤ n ∧ n ≤ 8 ∧ atI [V.int 1, V.int 2, V.int 8, V.int 4] r = some (.int (n : Int)) := by
  have q : r = 0 ∨ r = 1 ∨ r = 2 ∨ r = 3 := by omega
  rcases q with rfl | rfl | rfl | rfl
  · exact ⟨1, by decide, by decide, rfl⟩
  · exact ⟨2, by decide, by decide, rfl⟩
  · exact ⟨8, by decide, by decide, rfl⟩
  · exact ⟨4, by decide, by decide, rfl⟩
/-- of more different names than stand in a list one is none of it -/
theorem more_left {α : Type} [DecidableEq α] : ∀ (xs ys : List α), xs.Nodup → ys.length < xs.length → ∃ x ∈ xs, x ∉ ys
  | [], ys, _, h => by simp at h
  | x :: xs, ys, hn, h => by
    by_cases hx : x ∈ ys
    · have hn2 := (List.nodup_cons.mp hn)
      obtain ⟨z, hz, hz2⟩ := more_left xs (ys.erase x) hn2.2 (by
        rw [List.length_erase_of_mem hx]
        rw [List.length_cons] at h
        have : 0 < ys.length := List.length_pos_of_mem hx
        omega)
      refine ⟨z, List.mem_cons_of_mem _ hz, fun q => hz2 ?_⟩
      have ne : z ≠ x := fun e => hn2.1 (e ▸ hz)
      exact (List.mem_erase_of_ne ne).mpr q
    · exact ⟨x, List.mem_cons_self, hx⟩
def spNames : Sp := fun vs H Q _ => ∃ (b : Addr) (m : Int), vs = [.ref b, .int m] ∧ BagAt H b ∧ 0 ≤ m ∧ m ≤ 25 ∧
  ∀ (H' : Hp) (p : Addr) (ns : List Str), Ex H H' → H p = none → H' p = some (.lst (ns.map V.str)) → (ns.length : Int) = m → ns.Nodup → (∀ z ∈ ns, isNm z = true) → Q (.ref p) H'
theorem ok_names (T : Txt0 mg) (D : Df K mg "_law_names" s_l_names) (c_l_take : CalG P w K mg base 1 "_law_take" spTake) : CalG P w K mg base 2 "_law_names" spNames := by
  refine cal_mk D sc_l_names (fun _ _ _ _ _ _ us hl => match us, hl with | [_, _], _ => rfl) (fun vs H Q E h => ?_) (fun f cdv A outer s H vs Q E hr hG h => ?_)
  · obtain ⟨b, m, rfl, _⟩ := h
    rfl
  · obtain ⟨b, m, rfl, hb, m0, m25, q⟩ := h
    refine ⟨_, (pss_cons (ps_asg (pe_tup (pa_cons pe_str (pa_cons (pe_lst pa_nil) pa_nil))) (pg_tup rfl (pgs_cons (pg_name (i := 2) sc_l_names.nd rfl (Or.inr rfl)) (pgs_cons (pg_name (i := 3) sc_l_names.nd rfl (Or.inr rfl)) pgs_nil))))
      (pss_cons (ps_set (i := 4) sc_l_names.nd rfl (Or.inl rfl) (pe_split pe_str pe_str))
      (pss_cons (ps_forO (ps_for PassesOwn.never rfl (pi_range1 rfl T.range (pa_cons (pv 1) pa_nil)) (pg_name (i := 5) sc_l_names.nd rfl (Or.inl rfl))
        (pss_cons (ps_setLcO (ps_setLc (i := 6) (own := [("_law_spin", 7)]) rfl sc_l_names.nd rfl rfl (sw_true rfl rfl rfl (by decide +kernel)) (pi_range1 rfl T.range (pa_cons (pe_ix ixAny (pe_lst (pa_cons pe_int (pa_cons pe_int (pa_cons pe_int (pa_cons pe_int pa_nil))))) (pe_cG c_l_take hr hG (by decide) rfl (pa_cons (pv 0) (pa_cons pe_int pa_nil))) (fun _ _ => rfl)) pa_nil)) (blkOk_by (own := [("_law_spin", 7)]) (N := ["_law_bag_here", "_law_many", "_law_letters", "_law_found", "_law_words", "_law_k", "_law_signs", "_law_spin", "_law_at", "_law_rest", "_law_some_here", "_law_one"]) (sc := defScope s_l_names) (by first | decide +kernel | kernel_rfl)) (fun _ _ _ _ _ => pg_name (i := 7) sc_l_names.nd rfl (Or.inl rfl)) (fun _ _ _ _ _ => pts_nil) (fun _ _ _ _ _ => pe_ix ixAnyB (pv 2) (pe_cG c_l_take hr hG (by decide) rfl (pa_cons (pv 0) (pa_cons pe_int pa_nil))) (fun _ _ => rfl))))
      (pss_cons (ps_asg (pe_tup (pa_cons (pe_bm PySem.F.plainAttrs_str PySem.F.slot_str_index PySem.F.type_str_index mt_sindex (pv 2) (pa_cons (pe_ix ixAny (pv 6) pe_int (fun _ _ => rfl)) pa_nil)) (pa_cons (pe_join pe_str (pe_slice slAny (pv 6) (po_some pe_int) po_none)) pa_nil))) (pg_tup rfl (pgs_cons (pg_name (i := 8) sc_l_names.nd rfl (Or.inl rfl)) (pgs_cons (pg_name (i := 9) sc_l_names.nd rfl (Or.inr rfl)) pgs_nil))))
      (pss_cons (ps_set (i := 10) sc_l_names.nd rfl (Or.inl rfl) (pe_op opAdd (pe_op opMul (pe_slice slAny (pv 4) (po_some (pv 8)) po_none) (pe_callTy call_int1 (by rfl) T.int (by decide +kernel) (pa_cons (pe_cmpR (opEq hr) (pe_cG c_l_take hr hG (by decide) rfl (pa_cons (pv 0) (pa_cons pe_int pa_nil))) pe_int (nomark _)) pa_nil))) (pe_lcO (pe_lc (own := [("_law_one", 11)]) rfl sc_l_names.nd (piAny (pe_op opAdd (pe_slice slAny (pv 2) (po_some (pv 8)) po_none) (pe_slice slAny (pv 2) po_none (po_some (pv 8))))) (blkOk_by (own := [("_law_one", 11)]) (N := ["_law_bag_here", "_law_many", "_law_letters", "_law_found", "_law_words", "_law_k", "_law_signs", "_law_spin", "_law_at", "_law_rest", "_law_some_here", "_law_one"]) (sc := defScope s_l_names) (by first | decide +kernel | kernel_rfl)) (fun _ _ _ _ _ => pg_name (i := 11) sc_l_names.nd rfl (Or.inl rfl)) (fun _ _ _ _ _ => pts_nil) (fun _ _ _ _ _ => pe_op opAddB (pv 11) (pv 9))))))
      (pss_one (ps_expr (pe_bm PySem.F.plainAttrs_list PySem.F.slot_list_append PySem.F.type_list_append mt_append (pv 3) (pa_cons (pe_ix ixAny (pe_lcO (pe_lc (own := [("_law_one", 11)]) rfl sc_l_names.nd (piAny (pv 10)) (blkOk_by (own := [("_law_one", 11)]) (N := ["_law_bag_here", "_law_many", "_law_letters", "_law_found", "_law_words", "_law_k", "_law_signs", "_law_spin", "_law_at", "_law_rest", "_law_some_here", "_law_one"]) (sc := defScope s_l_names) (by first | decide +kernel | kernel_rfl)) (fun _ _ _ _ _ => pg_name (i := 11) sc_l_names.nd rfl (Or.inl rfl)) (fun _ _ _ _ _ => pts_one (pt_cmpR opNotInB (pv 11) (pv 3) rfl)) (fun _ _ _ _ _ => pv 11))) pe_int (fun _ _ => rfl)) pa_nil)))))))))
      (pss_one (ps_ret (pv 3)))))), ?_⟩
    -- letters, found = '..', []
    refine ⟨Nat.zero_le _, fun fp hfp => ?_⟩
    generalize hq1 : upd H fp _ = H0
    obtain ⟨e0, h0⟩ := gen1 hq1 hfp
    refine ⟨by show 2 ≤ sizeLine; decide, fun tp htp => ?_⟩
    generalize hqt : upd H0 tp _ = H1
    obtain ⟨et, ht⟩ := gen1 hqt htp
    have e1 := e0.trans et
    have h1 := et _ _ h0
    refine ⟨tp, _, rfl, st_of ht, rfl, _, _, rfl, _, _, rfl, rfl, ?_⟩
    -- words
    refine ⟨⟨_, rfl⟩, _, _, rfl, rfl, (by decide), (by decide), fun wp hwp => ?_⟩
    generalize hq2 : upd H1 wp _ = H2
    obtain ⟨e2, h2⟩ := gen1 hq2 hwp
    have h2 : H2 wp = some (.lst (WL.map V.str)) := h2.trans (by rw [← wl_split]; rfl)
    refine ⟨_, rfl, m, rfl, by omega, by omega, ?_⟩
    refine frG (walk_range (lo := 0) (n := m.toNat)) (fun i σ H' => ∃ (ns : List Str) (x5 x6 x8 x9 x10 : Option V), σ = [some (.ref b), some (.int m), some (.str LET), some (.ref fp), some (.ref wp), x5, x6, none, x8, x9, x10, none] ∧ Ex H H' ∧
      H' fp = some (.lst (ns.map V.str)) ∧ H' wp = some (.lst (WL.map V.str)) ∧ ns.length = i ∧ ns.Nodup ∧ ∀ z ∈ ns, isNm z = true) ?_ (fun _ _ _ _ _ => trivial) ?_ ?_
    · exact ⟨[], none, none, none, none, none, rfl, e1.trans e2, e2 _ _ h1, h2, rfl, List.nodup_nil, fun z hz => by cases hz⟩
    · rintro i x σ H3 H4 hi ⟨ns, x5, x6, x8, x9, x10, rfl, e3, hf, hw, hl, hnd, hnm⟩ ⟨rfl, rfl⟩
      -- signs
      refine ⟨by show 4 ≤ sizeLine; decide, fun l4 hl4 => ?_⟩
      generalize hq5 : upd H4 l4 _ = H5
      obtain ⟨e5, h5⟩ := gen1 hq5 hl4
      refine ⟨_, rfl, b, 4, rfl, hb.ex (e3.trans e5), by decide, by decide, fun H6 r r0 r1 e6 => ?_⟩
      obtain ⟨n, n1, n8, hn⟩ := four_at r0 r1
      refine .inl ⟨l4, _, r, _, rfl, rfl, sq_of (e6 _ _ h5), hn, ?_⟩
      refine ⟨(n : Int), rfl, by omega, by omega, ?_⟩
      refine lcG (walk_range (lo := 0) (n := (n : Int).toNat)) (by omega) trivial (fun _ _ _ _ => trivial) yFn_ex (fun i ys _ => ∃ cl : List Nat, ys = (cl.map sgn).map V.str ∧ cl.length = i ∧ cl.all lowc = true) (fun _ _ _ _ _ h => h) ⟨[], rfl, rfl, rfl⟩ ?_ ?_
      · rintro j x H7 H8 ys hj e7 ⟨rfl, rfl⟩ ⟨cl, rfl, hcl, hlow⟩ N N0 kN kN0
        refine ⟨rfl, ?_⟩
        refine ⟨_, rfl, _, rfl, b, 26, rfl, hb.ex (((e3.trans e5).trans e6).trans e7), by decide, by decide, fun H9 r r0 r1 e9 => ?_⟩
        obtain ⟨j, rfl⟩ : ∃ j : Nat, r = (j : Int) := ⟨r.toNat, by omega⟩
        have ha := let_at ⟨j, by omega⟩
        refine .inr (.inr (.inl ⟨_, _, 97 + j, rfl, rfl, by decide, ha, ?_⟩))
        refine kN _ _ e9 ⟨cl ++ [97 + j], by simp [sgn], by simp [hcl], ?_⟩
        rw [List.all_append, hlow]
        simp [lowc]
        omega
      · rintro sp H7 ys hsp e7 h7 _ ⟨cl, rfl, hcl, hlow⟩
        -- at, rest
        have hcn : cl.length = n := by rw [hcl]; rfl
        obtain ⟨c0, cr, rfl⟩ : ∃ c0 cr, cl = c0 :: cr := by
          cases cl with
          | nil => rw [List.length_nil] at hcn; omega
          | cons c r => exact ⟨c, r, rfl⟩
        rw [List.all_cons, Bool.and_eq_true] at hlow
        obtain ⟨hc0, hcr⟩ := hlow
        obtain ⟨j0, rfl⟩ : ∃ j : Fin 26, c0 = 97 + j.val := by
          simp only [lowc, Bool.and_eq_true, decide_eq_true_eq] at hc0
          exact ⟨⟨c0 - 97, by omega⟩, by show c0 = 97 + (c0 - 97); omega⟩
        have hcrl : cr.length ≤ 7 := by rw [List.length_cons] at hcn; omega
        refine ⟨_, rfl, rfl, _, rfl, .inl ⟨sp, _, 0, .str (sgn (97 + j0.val)), rfl, rfl, sq_of h7, atI_nat (j := 0) rfl, ?_⟩⟩
        refine ⟨LET, sgn (97 + j0.val), j0.val, [], rfl, rfl, let_occ j0, ?_⟩
        refine ⟨⟨_, rfl⟩, _, rfl, 1, rfl, .inl ⟨sp, _, rfl, sq_of h7, fun l8 hl8 => ?_⟩⟩
        generalize hq8 : upd H7 l8 _ = H8
        obtain ⟨e8, h8⟩ := gen1 hq8 hl8
        have h8 : H8 l8 = some (.lst ((cr.map sgn).map V.str)) := by
          rw [h8]
          have z := cut_from (((((97 + j0.val) :: cr : List Nat)).map sgn).map V.str) 1
          rw [show (some (1 : Int)) = some ((1 : Nat) : Int) from rfl, z]
          rfl
        refine ⟨_, l8, cr.map sgn, rfl, rfl, .inl (sq_of h8), ?_, ?_⟩
        · have z := sum_sgn cr
          rw [z, List.length_map]
          show cr.length + cr.length * 0 ≤ 16777216
          omega
        generalize hR : Txt.join _ (cr.map sgn) = R
        have hR : R = SX.S cr := hR.symm.trans (join_sgn cr)
        refine ⟨by show 2 ≤ sizeLine; decide, fun t9 ht9 => ?_⟩
        generalize hq9 : upd H8 t9 _ = H9
        obtain ⟨e9, h9⟩ := gen1 hq9 ht9
        refine ⟨t9, _, rfl, st_of h9, rfl, _, _, rfl, _, _, rfl, rfl, ?_⟩
        have ee := (((e5.trans e6).trans e7).trans e8).trans e9
        -- some = words[at:] * int(take(8) == 0) + ..
        refine ⟨_, rfl, _, rfl, _, rfl, .inl ⟨wp, _, rfl, sq_of (ee _ _ hw), fun l10 hl10 => ?_⟩⟩
        generalize hq10 : upd H9 l10 _ = H10
        obtain ⟨e10, h10⟩ := gen1 hq10 hl10
        refine ⟨_, rfl, b, 8, rfl, hb.ex ((e3.trans ee).trans e10), by decide, by decide, fun H11 r r0 r1 e11 => ?_⟩
        refine .inl ⟨rfl, .inr ⟨_, rfl, ?_⟩⟩
        have hz10 : H10 l10 = some (.lst ((WL.drop j0.val).map V.str)) := by
          rw [h10, cut_from, List.map_drop]
        obtain ⟨kk, hkk⟩ : ∃ kk : Nat, (kk = 0 ∨ kk = 1) ∧ (if decide (V.int r = V.int 0) = true then (1 : Int) else 0) = (kk : Int) := by
          by_cases hz : decide (V.int r = V.int 0) = true
          · exact ⟨1, .inr rfl, by rw [if_pos hz]; rfl⟩
          · exact ⟨0, .inl rfl, by rw [if_neg hz]; rfl⟩
        refine .inr ⟨l10, (kk : Int), (WL.drop j0.val).map V.str, rfl, by rw [hkk.2], e11 _ _ hz10, by omega, by omega, ?_, fun l12 hl12 => ?_⟩
        · refine sz_of ?_
          rw [List.length_map, List.length_drop, Int.toNat_natCast]
          have z : WL.length = 20 := rfl
          rw [z]
          rcases hkk.1 with rfl | rfl <;> omega
        generalize hq12 : upd H11 l12 _ = H12
        obtain ⟨e12, h12⟩ := gen1 hq12 hl12
        obtain ⟨W0, hW0, hW1, hW2⟩ : ∃ W0 : List Str, H12 l12 = some (.lst (W0.map V.str)) ∧ W0.length ≤ 20 ∧ W0.all isNm = true := by
          rw [h12, Int.toNat_natCast]
          rcases hkk.1 with rfl | rfl
          · exact ⟨[], rfl, by decide, rfl⟩
          · refine ⟨WL.drop j0.val, by simp, ?_, ?_⟩
            · rw [List.length_drop]
              have z : WL.length = 20 := rfl
              omega
            · rw [List.all_eq_true]
              exact fun x hx => (List.all_eq_true.mp wl_nm) x (List.drop_subset _ _ hx)
        refine .inr (.inr ⟨_, rfl, _, rfl, _, rfl, .inr (.inr ⟨LET, rfl, by decide, ?_⟩)⟩)
        refine ⟨_, rfl, _, rfl, _, rfl, .inr (.inr ⟨LET, rfl, by decide, ?_⟩)⟩
        refine .inr (.inl ⟨_, _, rfl, rfl, sz_of (Nat.le_trans (let_cut j0) (by decide)), _, rfl, ?_⟩)
        obtain ⟨rnd, rlow, rlen⟩ := let_rot j0
        generalize hrot : (cutS LET (some (j0.val : Int)) none ++ cutS LET none (some (j0.val : Int))) = ROT at rnd rlow rlen
        have eW := (ee.trans e10).trans (e11.trans e12)
        have hrotl : ROT.cps.size = 26 := by rw [← rlen, Array.length_toList]
        refine lcG (walk_str (z := ROT)) (by rw [hrotl]; decide) trivial (fun _ _ _ _ => trivial) (fun _ _ _ _ h => ex_eq h.1) (fun i ys _ => ys = (((TL.tl ROT).take i).map fun c => sgn c ++ R).map V.str) (fun _ _ _ _ _ h => h) rfl ?_ ?_
        · rintro j x H13 H14 ys hj e13 ⟨rfl, c, hc, rfl⟩ rfl N N0 kN kN0
          refine ⟨rfl, ?_⟩
          refine ⟨_, rfl, _, rfl, .inr (.inl ⟨sgn c, R, rfl, rfl, ?_, ?_⟩)⟩
          · rw [hR]
            show 1 + cr.toArray.size ≤ sizeLine
            refine sz_of ?_
            rw [List.size_toArray]
            omega
          · refine kN _ _ (Ex.refl _) ?_
            have hc' : (TL.tl ROT)[j]? = some c := by rw [Array.getElem?_toList]; exact hc
            rw [List.take_add_one, hc', List.map_append, List.map_append]
            rfl
        · rintro l15 H15 ys hl15 e15 h15 _ rfl
          rw [hrotl, List.take_of_length_le (by rw [rlen]; decide)] at h15
          have c2l : ((TL.tl ROT).map fun c => sgn c ++ R).length = 26 := by rw [List.length_map]; exact rlen
          refine .inr (.inr (.inl ⟨l12, l15, W0.map V.str, ((TL.tl ROT).map fun c => sgn c ++ R).map V.str, rfl, rfl, e15 _ _ hW0, h15, ?_, fun l16 hl16 => ?_⟩))
          · rw [List.length_map, List.length_map]
            refine sz_of ?_
            omega
          generalize hq16 : upd H15 l16 _ = H16
          obtain ⟨e16, h16⟩ := gen1 hq16 hl16
          rw [← List.map_append] at h16
          have eA := (eW.trans e15).trans e16
          have hf16 := eA _ _ hf
          have hcl2 : (W0 ++ (TL.tl ROT).map fun c => sgn c ++ R).length ≤ 46 := by
            rw [List.length_append, c2l]
            omega
          have hcn2 : ∀ z ∈ (W0 ++ (TL.tl ROT).map fun c => sgn c ++ R), isNm z = true := by
            intro z hz
            rcases List.mem_append.mp hz with hz | hz
            · exact (List.all_eq_true.mp hW2) z hz
            · obtain ⟨c, hc, rfl⟩ := List.mem_map.mp hz
              have lc := (List.all_eq_true.mp rlow) c hc
              have e1 : TL.tl (sgn c ++ R) = c :: cr := by
                rw [TL.tl_append, hR]
                rfl
              unfold isNm
              rw [TL.len_tl, e1, List.all_cons, lc, hcr, List.length_cons]
              simp
              omega
          have hmore : ∃ z ∈ (W0 ++ (TL.tl ROT).map fun c => sgn c ++ R), z ∉ ns := by
            obtain ⟨z, hz, hz2⟩ := more_left ((TL.tl ROT).map fun c => sgn c ++ R) ns (by
              rw [List.Nodup, List.pairwise_map]
              refine List.Pairwise.imp (fun {a b} hab e => hab ?_) rnd
              have q := congrArg TL.tl e
              rw [TL.tl_append, TL.tl_append] at q
              exact (List.cons.inj q).1) (by rw [c2l]; omega)
            exact ⟨z, List.mem_append_right _ hz, hz2⟩
          generalize (W0 ++ (TL.tl ROT).map fun c => sgn c ++ R) = C at h16 hcl2 hcn2 hmore
          refine ⟨_, rfl, .inl ⟨rfl, _, sq_of hf16⟩, .inl ⟨_, rfl, l16, rfl, ⟨_, sq_of h16⟩, ?_⟩⟩
          refine lcG (walk_list (xs := C.map V.str)) (by rw [List.length_map]; omega) (sq_of h16) (fun _ _ e h => ex_l e h) yAt_ex (fun i ys _ => ys = ((C.take i).filter fun z => !decide (z ∈ ns)).map V.str) (fun _ _ _ _ _ h => h) rfl ?_ ?_
          · rintro j x H17 H18 ys hj e17 ⟨rfl, hx⟩ rfl N N0 kN kN0
            obtain ⟨z, hz, rfl⟩ := str_at hx
            refine ⟨rfl, ?_⟩
            refine ⟨_, rfl, _, rfl, .inl ⟨fp, _, rfl, .inl (sq_of (e17 _ _ hf16)), rfl, flat_strs ns, _, rfl, ?_⟩⟩
            have hin : (if true = true then !inV (V.str z) (ns.map V.str) else inV (V.str z) (ns.map V.str)) = !decide (z ∈ ns) := by
              rw [if_pos rfl, in_strs]
            rw [hin]
            by_cases hm : (!decide (z ∈ ns)) = true
            · rw [hm]
              refine iteT ⟨_, rfl, kN _ _ (Ex.refl _) ?_⟩
              rw [List.take_add_one, hz, List.filter_append, Option.toList, List.filter_cons, if_pos hm, List.map_append]
              rfl
            · rw [show (!decide (z ∈ ns)) = false by simpa using hm]
              refine iteF (kN0 _ (Ex.refl _) ?_)
              rw [List.take_add_one, hz, List.filter_append, Option.toList, List.filter_cons, if_neg hm, List.map_append]
              simp
          · rintro l17 H17 ys hl17 e17 h17 _ rfl
            rw [List.take_of_length_le (by rw [List.length_map]; exact Nat.le_refl _)] at h17
            obtain ⟨z0, zr, hz0⟩ : ∃ z0 zr, (C.filter fun z => !decide (z ∈ ns)) = z0 :: zr := by
              cases hc : (C.filter fun z => !decide (z ∈ ns)) with
              | nil =>
                obtain ⟨z, hz, hz2⟩ := hmore
                have q : z ∈ C.filter fun z => !decide (z ∈ ns) := List.mem_filter.mpr ⟨hz, by simpa using hz2⟩
                rw [hc] at q
                cases q
              | cons z0 zr => exact ⟨z0, zr, rfl⟩
            rw [hz0] at h17
            have hm0 : z0 ∈ C.filter fun z => !decide (z ∈ ns) := by rw [hz0]; exact List.mem_cons_self
            obtain ⟨hz1, hz2⟩ := List.mem_filter.mp hm0
            have hz2 : z0 ∉ ns := by simpa using hz2
            refine .inl ⟨l17, _, 0, .str z0, rfl, rfl, sq_of h17, atI_nat (j := 0) rfl, ?_⟩
            have hf17 := e17 _ _ hf16
            refine ⟨fp, _, .str z0, rfl, rfl, hf17, ?_, ?_⟩
            · rw [List.length_map]
              refine sz_lt ?_
              omega
            · have fe := (e3.trans eA).trans e17
              have nfw : wp ≠ fp := fun z => by
                have q := fe wp
                rw [z] at hwp
                rw [h1] at hwp
                cases hwp
              refine ⟨ns ++ [z0], _, _, _, _, _, rfl, Ex.mut fe hfp, ?_, ?_, ?_, ?_, ?_⟩
              · rw [upd_same, List.map_append]
                rfl
              · rw [upd_ne nfw]
                exact e17 _ _ (eA _ _ hw)
              · rw [List.length_append, hl]
                rfl
              · rw [List.nodup_append]
                refine ⟨hnd, by simp, fun a ha b hb e => hz2 ?_⟩
                rw [List.mem_singleton] at hb
                rw [← hb, ← e]
                exact ha
              · intro z hz
                rcases List.mem_append.mp hz with hz | hz
                · exact hnm z hz
                · rw [List.mem_singleton] at hz
                  rw [hz]
                  exact hcn2 z0 hz1
    · rintro σ H3 ⟨ns, x5, x6, x8, x9, x10, rfl, e3, hf, hw, hl, hnd, hnm⟩
      exact ⟨_, rfl, q _ fp ns e3 hfp hf (by omega) hnd hnm⟩
end
/-! ### atoms and facts as data -/
abbrev A3 := Str × Str × Str
def sl3 (a : A3) : List Str := [a.1, a.2.1, a.2.2]
def AtomAt (H : Hp) (v : V) (a : A3) : Prop := ∃ p, v = .ref p ∧ H p = some (.tup ((sl3 a).map V.str))
theorem AtomAt.tex {H H' : Hp} {v : V} {a : A3} (e : TEx H H') (h : AtomAt H v a) : AtomAt H' v a := by
  obtain ⟨p, h1, h2⟩ := h
  exact ⟨p, h1, e _ _ h2⟩
theorem AtomAt.ex {H H' : Hp} {v : V} {a : A3} (e : Ex H H') (h : AtomAt H v a) : AtomAt H' v a := h.tex (TEx.of e)
def AllAt (H : Hp) : List V → List A3 → Prop
  | [], [] => True
  | v :: vs, a :: as => AtomAt H v a ∧ AllAt H vs as
  | _, _ => False
theorem AllAt.tex {H H' : Hp} (e : TEx H H') : ∀ {vs : List V} {as : List A3}, AllAt H vs as → AllAt H' vs as
  | [], [], _ => trivial
  | _ :: _, _ :: _, h => ⟨h.1.tex e, AllAt.tex e h.2⟩
  | [], _ :: _, h => h.elim
  | _ :: _, [], h => h.elim
theorem AllAt.len {H : Hp} : ∀ {vs : List V} {as : List A3}, AllAt H vs as → vs.length = as.length
  | [], [], _ => rfl
  | _ :: vs, _ :: as, h => by rw [List.length_cons, List.length_cons, AllAt.len h.2]
  | [], _ :: _, h => h.elim
  | _ :: _, [], h => h.elim
theorem AllAt.at {H : Hp} : ∀ {vs : List V} {as : List A3} {i : Nat} {v : V}, AllAt H vs as → vs[i]? = some v → ∃ a, as[i]? = some a ∧ AtomAt H v a
  | _ :: _, a :: _, 0, _, h, e => ⟨a, rfl, by cases e; exact h.1⟩
  | _ :: vs, _ :: as, i + 1, v, h, e => AllAt.at (vs := vs) (as := as) (i := i) h.2 e
  | [], [], _, _, _, e => by simp at e
  | [], _ :: _, _, _, h, _ => h.elim
  | _ :: _, [], _, _, h, _ => h.elim
theorem AllAt.snoc {H : Hp} {v : V} {a : A3} (hv : AtomAt H v a) : ∀ {vs : List V} {as : List A3}, AllAt H vs as → AllAt H (vs ++ [v]) (as ++ [a])
  | [], [], _ => ⟨hv, trivial⟩
  | _ :: vs, _ :: as, h => ⟨h.1, AllAt.snoc hv h.2⟩
  | [], _ :: _, h => h.elim
  | _ :: _, [], h => h.elim
def FactAt (H : Hp) (v : V) (as : List A3) : Prop := ∃ p xs, v = .ref p ∧ H p = some (.tup xs) ∧ AllAt H xs as
theorem FactAt.ex {H H' : Hp} {v : V} {as : List A3} (e : Ex H H') (h : FactAt H v as) : FactAt H' v as := by
  obtain ⟨p, xs, h1, h2, h3⟩ := h
  exact ⟨p, xs, h1, e _ _ h2, h3.tex (TEx.of e)⟩
def atD (a : A3) : PyData := .tuple ((sl3 a).map PyData.str)
theorem dp_strs {K : PySem.W.Frag} {H : Hp} : ∀ ns : List Str, DpAll K H (ns.map V.str) (ns.map PyData.str)
  | [] => .nil
  | n :: ns => .cons (.str n) (dp_strs ns)
theorem AtomAt.dp {K : PySem.W.Frag} {H : Hp} {v : V} {a : A3} (h : AtomAt H v a) : Dp K H v (atD a) := by
  obtain ⟨p, rfl, h2⟩ := h
  exact .tup (st_of h2) (dp_strs _)
theorem AllAt.dp {K : PySem.W.Frag} {H : Hp} : ∀ {vs : List V} {as : List A3}, AllAt H vs as → DpAll K H vs (as.map atD)
  | [], [], _ => .nil
  | _ :: vs, _ :: as, h => .cons h.1.dp (AllAt.dp h.2)
  | [], _ :: _, h => h.elim
  | _ :: _, [], h => h.elim
def faD (as : List A3) : PyData := .tuple (as.map atD)
theorem FactAt.dp {K : PySem.W.Frag} {H : Hp} {v : V} {as : List A3} (h : FactAt H v as) : Dp K H v (faD as) := by
  obtain ⟨p, xs, rfl, h2, h3⟩ := h
  exact .tup (st_of h2) h3.dp
/-! ### the mathematics -/
def isR (r : Str) : Bool := r == "eq" || r == "lt" || r == "gt" || r == ""
def trR (r : Str) : Str := if r = "lt" then "gt" else if r = "gt" then "lt" else r
def trA (a : A3) : A3 := (trR a.1, a.2.2, a.2.1)
def okp (p a : Str) : Bool := (("" : Str) == p) || (a == p)
def fitL (p a : A3) : List Bool := List.zipWith okp (sl3 p) (sl3 a)
def fitB (p a : A3) : Bool := (fitL p a).all id
theorem isR_cases {r : Str} (h : isR r = true) : r = "eq" ∨ r = "lt" ∨ r = "gt" ∨ r = "" := by
  simp only [isR, Bool.or_eq_true, beq_iff_eq] at h
  rcases h with ((h | h) | h) | h
  · exact .inl h
  · exact .inr (.inl h)
  · exact .inr (.inr (.inl h))
  · exact .inr (.inr (.inr h))
theorem trR_trR {r : Str} (h : isR r = true) : trR (trR r) = r := by
  rcases isR_cases h with rfl | rfl | rfl | rfl <;> decide +kernel
theorem trR_isR {r : Str} (h : isR r = true) : isR (trR r) = true := by
  rcases isR_cases h with rfl | rfl | rfl | rfl <;> decide +kernel
theorem trA_trA {a : A3} (h : isR a.1 = true) : trA (trA a) = a := by
  obtain ⟨r, l, t⟩ := a
  show (trR (trR r), l, t) = (r, l, t)
  rw [trR_trR h]
theorem okp_trR {p a : Str} (hp : isR p = true) (ha : isR a = true) : okp (trR p) a = okp p (trR a) := by
  rcases isR_cases hp with rfl | rfl | rfl | rfl <;> rcases isR_cases ha with rfl | rfl | rfl | rfl <;> decide +kernel
theorem fitB_eq (p a : A3) : fitB p a = (okp p.1 a.1 && (okp p.2.1 a.2.1 && okp p.2.2 a.2.2)) := by
  show (okp p.1 a.1 && (okp p.2.1 a.2.1 && (okp p.2.2 a.2.2 && true))) = _
  rw [Bool.and_true]
theorem fitB_tr {p a : A3} (hp : isR p.1 = true) (ha : isR a.1 = true) : fitB (trA p) a = fitB p (trA a) := by
  rw [fitB_eq, fitB_eq]
  show (okp (trR p.1) a.1 && (okp p.2.2 a.2.1 && okp p.2.1 a.2.2)) = (okp p.1 (trR a.1) && (okp p.2.1 a.2.2 && okp p.2.2 a.2.1))
  rw [okp_trR hp ha, Bool.and_comm (okp p.2.2 a.2.1)]
theorem okp_self (a : Str) : okp a a = true := by simp [okp]
theorem fitB_self (a : A3) : fitB a a = true := by
  rw [fitB_eq, okp_self, okp_self, okp_self]
  rfl
def spFits : Sp := fun vs H Q _ => ∃ (v u : V) (p a : A3), vs = [v, u] ∧ AtomAt H v p ∧ AtomAt H u a ∧ ∀ (H' : Hp), Ex H H' → Q (.bl (fitB p a)) H'
def lay (z : Str) : Bool := (PyData.str z).canLay0
def sOk (a : A3) : Bool := lay a.1 && (lay a.2.1 && lay a.2.2)
theorem shp_at {a : A3} (h : sOk a = true) : SeqAt.shaped (atD a) = true := by
  show ((lay a.1 && (lay a.2.1 && (lay a.2.2 && true))) && true) = true
  rw [Bool.and_true, Bool.and_true]
  exact h
theorem nm_ok {z : Str} (h : isNm z = true) : lay z = true := by
  unfold isNm at h
  rw [Bool.and_eq_true] at h
  show z.cps.all (· < 0x110000) = true
  rw [← Array.all_toList, List.all_eq_true]
  intro c hc
  have q := (List.all_eq_true.mp h.2) c hc
  simp only [lowc, Bool.and_eq_true, decide_eq_true_eq] at q
  exact decide_eq_true (by omega)
theorem rel_ok {r : Str} (h : isR r = true) : lay r = true := by
  rcases isR_cases h with rfl | rfl | rfl | rfl <;> decide +kernel
theorem eqv_at (a b : A3) : PyData.eqv (atD a) (atD b) = decide (a = b) := by
  obtain ⟨a1, a2, a3⟩ := a
  obtain ⟨b1, b2, b3⟩ := b
  show (a1 == b1 && (a2 == b2 && (a3 == b3 && true))) = decide ((a1, a2, a3) = (b1, b2, b3))
  rw [Bool.and_true]
  by_cases h1 : a1 = b1 <;> by_cases h2 : a2 = b2 <;> by_cases h3 : a3 = b3 <;> simp [h1, h2, h3]
theorem eqv_ats : ∀ as bs : List A3, PyData.eqvAll (as.map atD) (bs.map atD) = decide (as = bs)
  | [], [] => rfl
  | [], _ :: _ => rfl
  | _ :: _, [] => rfl
  | a :: as, b :: bs => by
    show (PyData.eqv (atD a) (atD b) && PyData.eqvAll (as.map atD) (bs.map atD)) = decide (a :: as = b :: bs)
    rw [eqv_at, eqv_ats as bs]
    by_cases h1 : a = b <;> by_cases h2 : as = bs <;> simp [h1, h2]
theorem shp_fa {as : List A3} (h : as.length ≤ 2) (hs : ∀ a ∈ as, sOk a = true) : SeqAt.shaped (faD as) = true := by
  have hk : ∀ a ∈ as, (atD a).canLay0 = true := fun a ha => (Bool.and_eq_true_iff.mp (shp_at (hs a ha))).1
  match as, h, hk with
  | [], _, _ => rfl
  | [a], _, hk =>
    show (((atD a).canLay0 && true) && true) = true
    rw [hk a (by simp)]
    rfl
  | [a, b], _, hk =>
    show (((atD a).canLay0 && ((atD b).canLay0 && true)) && true) = true
    rw [hk a (by simp), hk b (by simp)]
    rfl
  | _ :: _ :: _ :: _, h, _ => simp at h
theorem eqv_fa (as bs : List A3) : PyData.eqv (faD as) (faD bs) = decide (as = bs) := eqv_ats as bs
def isR3 (r : Str) : Bool := r == "eq" || r == "lt" || r == "gt"
theorem isR_of {r : Str} (h : isR3 r = true) : isR r = true := by
  unfold isR
  unfold isR3 at h
  rw [h]
  rfl
theorem rel_at {r : Int} (h0 : 0 ≤ r) (h1 : r < 4) : ∃ z : Str, isR3 z = true ∧ atI [V.str "eq", V.str "lt", V.str "gt", V.str "lt"] r = some (.str z) := by
  have q : r = 0 ∨ r = 1 ∨ r = 2 ∨ r = 3 := by omega
  rcases q with rfl | rfl | rfl | rfl
  · exact ⟨"eq", by decide +kernel, rfl⟩
  · exact ⟨"lt", by decide +kernel, rfl⟩
  · exact ⟨"gt", by decide +kernel, rfl⟩
  · exact ⟨"lt", by decide +kernel, rfl⟩
abbrev s_l_atom : Stmt := top 14
theorem sc_l_atom : FnScope ["_law_bag_here", "_law_things"] ["_law_bag_here", "_law_things"] (defScope s_l_atom) := ⟨rfl, rfl, rfl, by decide +kernel, rfl, by decide +kernel, by decide +kernel⟩
section
variable {P : Program} {w : World} {K : PySem.W.Frag} {mg : Str → Option Value} {base : Heap}
def spAtom : Sp := fun vs H Q _ => ∃ (b p : Addr) (ns : List Str), vs = [.ref b, .ref p] ∧ BagAt H b ∧ H p = some (.lst (ns.map V.str)) ∧ ns ≠ [] ∧ ns.length ≤ 30 ∧
  ∀ (H' : Hp) (v : V) (a : A3), Ex H H' → AtomAt H' v a → isR3 a.1 = true → a.2.1 ∈ ns → a.2.2 ∈ ns → Q v H'
theorem ok_atom (T : Txt0 mg) (D : Df K mg "_law_atom" s_l_atom) (c_l_take : CalG P w K mg base 1 "_law_take" spTake) (c_l_some : CalG P w K mg base 2 "_law_some" (spSome K)) : CalG P w K mg base 3 "_law_atom" spAtom := by
  refine cal_mk D sc_l_atom (fun _ _ _ _ _ _ us hl => match us, hl with | [_, _], _ => rfl) (fun vs H Q E h => ?_) (fun f cdv A outer s H vs Q E hr hG h => ?_)
  · obtain ⟨b, p, ns, rfl, _⟩ := h
    rfl
  · obtain ⟨b, p, ns, rfl, hb, hp, hne, hl, q⟩ := h
    refine ⟨_, (pss_one (ps_ret (pe_tup (pa_cons (pe_ix ixAny (pe_lst (pa_cons pe_str (pa_cons pe_str (pa_cons pe_str (pa_cons pe_str pa_nil))))) (pe_cG c_l_take hr hG (by decide) rfl (pa_cons (pv 0) (pa_cons pe_int pa_nil))) (fun _ _ => rfl)) (pa_cons (pe_cG c_l_some hr hG (by decide) rfl (pa_cons (pv 0) (pa_cons (pv 1) pa_nil))) (pa_cons (pe_cG c_l_some hr hG (by decide) rfl (pa_cons (pv 0) (pa_cons (pv 1) pa_nil))) pa_nil)))))), ?_⟩
    refine ⟨by show 4 ≤ sizeLine; decide, fun l hl1 => ?_⟩
    generalize hq1 : upd H l _ = H1
    obtain ⟨e1, h1⟩ := gen1 hq1 hl1
    refine ⟨_, rfl, b, 4, rfl, hb.ex e1, by decide, by decide, fun H2 r r0 r1 e2 => ?_⟩
    obtain ⟨z, hz, hat⟩ := rel_at r0 r1
    refine .inl ⟨l, _, r, _, rfl, rfl, sq_of (e2 _ _ h1), hat, ?_⟩
    have e12 := e1.trans e2
    have hne' : ns.map V.str ≠ [] := fun e => hne (List.map_eq_nil_iff.mp e)
    refine ⟨_, rfl, _, rfl, b, p, _, rfl, hb.ex e12, .inl (sq_of (e12 _ _ hp)), hne', by rw [List.length_map]; omega, fun H3 i x e3 hx => ?_⟩
    obtain ⟨x1, hx1, rfl⟩ := str_at hx
    refine ⟨_, rfl, _, rfl, b, p, _, rfl, hb.ex (e12.trans e3), .inl (sq_of (e3 _ _ (e12 _ _ hp))), hne', by rw [List.length_map]; omega, fun H4 j y e4 hy => ?_⟩
    obtain ⟨y1, hy1, rfl⟩ := str_at hy
    refine ⟨by show 3 ≤ sizeLine; decide, fun t ht => ?_⟩
    exact q _ _ (z, x1, y1) (((e12.trans e3).trans e4).trans (Ex.new ht)) ⟨t, rfl, upd_same⟩ hz (List.mem_of_getElem? hx1) (List.mem_of_getElem? hy1)
end
abbrev s_l_fact : Stmt := top 15
theorem sc_l_fact : FnScope ["_law_bag_here", "_law_things", "_law_k"] ["_law_bag_here", "_law_things"] (defScope s_l_fact) := ⟨rfl, rfl, rfl, by decide +kernel, rfl, by decide +kernel, by decide +kernel⟩
section
variable {P : Program} {w : World} {K : PySem.W.Frag} {mg : Str → Option Value} {base : Heap}
def spFact : Sp := fun vs H Q _ => ∃ (b p : Addr) (ns : List Str), vs = [.ref b, .ref p] ∧ BagAt H b ∧ H p = some (.lst (ns.map V.str)) ∧ ns ≠ [] ∧ ns.length ≤ 30 ∧
  ∀ (H' : Hp) (v : V) (as : List A3), Ex H H' → FactAt H' v as → 1 ≤ as.length → as.length ≤ 2 → (∀ a ∈ as, isR3 a.1 = true ∧ a.2.1 ∈ ns ∧ a.2.2 ∈ ns) → Q v H'
theorem ok_fact (T : Txt0 mg) (D : Df K mg "_law_fact" s_l_fact) (c_l_take : CalG P w K mg base 1 "_law_take" spTake) (c_l_atom : CalG P w K mg base 3 "_law_atom" spAtom) : CalG P w K mg base 4 "_law_fact" spFact := by
  refine cal_mk D sc_l_fact (fun _ _ _ _ _ _ us hl => match us, hl with | [_, _], _ => rfl) (fun vs H Q E h => ?_) (fun f cdv A outer s H vs Q E hr hG h => ?_)
  · obtain ⟨b, p, ns, rfl, _⟩ := h
    rfl
  · obtain ⟨b, p, ns, rfl, hb, hp, hne, hl, q⟩ := h
    refine ⟨_, (pss_one (ps_ret (pe_callTy call_tuple_of (by rfl) T.tuple (by decide +kernel) (pa_cons (pe_lcO (pe_lc (own := [("_law_k", 2)]) rfl sc_l_fact.nd (pi_range1 rfl T.range (pa_cons (pe_op opAdd pe_int (pe_op op_fdivW (pe_cG c_l_take hr hG (by decide) rfl (pa_cons (pv 0) (pa_cons pe_int pa_nil))) pe_int)) pa_nil)) (blkOk_by (own := [("_law_k", 2)]) (N := ["_law_bag_here", "_law_things", "_law_k"]) (sc := defScope s_l_fact) (by first | decide +kernel | kernel_rfl)) (fun _ _ _ _ _ => pg_name (i := 2) sc_l_fact.nd rfl (Or.inl rfl)) (fun _ _ _ _ _ => pts_nil) (fun _ _ _ _ _ => pe_cG c_l_atom hr hG (by decide) rfl (pa_cons (pv 0) (pa_cons (pv 1) pa_nil))))) pa_nil)))), ?_⟩
    refine ⟨_, rfl, b, 3, rfl, hb, by decide, by decide, fun H1 r r0 r1 e1 => ?_⟩
    refine ⟨_, _, rfl, rfl, wide_div (b := 30) (by decide) (by decide) (by decide) (by decide), .inl ⟨1, _, rfl, rfl, ?_⟩⟩
    obtain ⟨n, hn, hn1, hn2⟩ : ∃ n : Nat, 1 + r / 2 = (n : Int) ∧ 1 ≤ n ∧ n ≤ 2 := ⟨(1 + r / 2).toNat, by omega, by omega, by omega⟩
    refine ⟨(n : Int), by show [V.int (1 + r / 2)] = _; rw [hn], by omega, by omega, ?_⟩
    refine lcG (walk_range (lo := 0) (n := (n : Int).toNat)) (by omega) trivial (fun _ _ _ _ => trivial) yFn_ex (fun i ys H' => ∃ as : List A3, AllAt H' ys as ∧ as.length = i ∧ ∀ a ∈ as, isR3 a.1 = true ∧ a.2.1 ∈ ns ∧ a.2.2 ∈ ns)
      (fun _ _ _ _ e ⟨as, h1, h2⟩ => ⟨as, h1.tex e, h2⟩) ⟨[], trivial, rfl, fun a ha => by cases ha⟩ ?_ ?_
    · rintro i x H2 H3 ys hi e2 ⟨rfl, rfl⟩ ⟨as, hA, hal, hR⟩ N N0 kN kN0
      refine ⟨rfl, ?_⟩
      have e12 := e1.trans e2
      refine ⟨_, rfl, _, rfl, b, p, ns, rfl, hb.ex e12, e12 _ _ hp, hne, hl, fun H4 v a e4 ha h1 h2 h3 => ?_⟩
      refine kN _ _ e4 ⟨as ++ [a], AllAt.snoc ha (hA.tex (TEx.of e4)), by rw [List.length_append, hal]; rfl, fun x hx => ?_⟩
      rcases List.mem_append.mp hx with hx | hx
      · exact hR x hx
      · rw [List.mem_singleton] at hx
        rw [hx]
        exact ⟨h1, h2, h3⟩
    · rintro l H2 ys hl2 e2 h2 _ ⟨as, hA, hal, hR⟩
      refine ⟨l, _, rfl, .inl ⟨sq_of h2, fun x hx => ?_⟩⟩
      have hal : as.length = n := by rw [hal]; rfl
      exact q _ _ as ((e1.trans e2).trans (Ex.new hx)) ⟨x, ys, rfl, upd_same, hA.tex (TEx.of (Ex.new hx))⟩ (by omega) (by omega) hR
end
abbrev s_l_pattern : Stmt := top 18
theorem sc_l_pattern : FnScope ["_law_bag_here", "_law_things", "_law_atom_here", "_law_manner", "_law_k"] ["_law_bag_here", "_law_things"] (defScope s_l_pattern) := ⟨rfl, rfl, rfl, by decide +kernel, rfl, by decide +kernel, by decide +kernel⟩
section
variable {P : Program} {w : World} {K : PySem.W.Frag} {mg : Str → Option Value} {base : Heap}
def spPattern : Sp := fun vs H Q _ => ∃ (b p : Addr) (ns : List Str), vs = [.ref b, .ref p] ∧ BagAt H b ∧ H p = some (.lst (ns.map V.str)) ∧ ns ≠ [] ∧ ns.length ≤ 30 ∧
  ∀ (H' : Hp) (v : V) (a : A3), Ex H H' → AtomAt H' v a → isR a.1 = true → (a.2.1 = "" ∨ a.2.1 ∈ ns) → (a.2.2 = "" ∨ a.2.2 ∈ ns) → Q v H'
theorem two_at (i : Nat) (h : i < 3) : ∃ d : Int, 0 < d ∧ d < 8 ∧ atI [V.int 1, V.int 2, V.int 4] (i : Int) = some (.int d) := by
  have q : i = 0 ∨ i = 1 ∨ i = 2 := by omega
  rcases q with rfl | rfl | rfl
  · exact ⟨1, by decide, by decide, rfl⟩
  · exact ⟨2, by decide, by decide, rfl⟩
  · exact ⟨4, by decide, by decide, rfl⟩
theorem ok_pattern (T : Txt0 mg) (D : Df K mg "_law_pattern" s_l_pattern) (c_l_take : CalG P w K mg base 1 "_law_take" spTake) (c_l_atom : CalG P w K mg base 3 "_law_atom" spAtom) : CalG P w K mg base 4 "_law_pattern" spPattern := by
  refine cal_mk D sc_l_pattern (fun _ _ _ _ _ _ us hl => match us, hl with | [_, _], _ => rfl) (fun vs H Q E h => ?_) (fun f cdv A outer s H vs Q E hr hG h => ?_)
  · obtain ⟨b, p, ns, rfl, _⟩ := h
    rfl
  · obtain ⟨b, p, ns, rfl, hb, hp, hne, hl, q⟩ := h
    refine ⟨_, (pss_cons (ps_asg (pe_tup (pa_cons (pe_cG c_l_atom hr hG (by decide) rfl (pa_cons (pv 0) (pa_cons (pv 1) pa_nil))) (pa_cons (pe_cG c_l_take hr hG (by decide) rfl (pa_cons (pv 0) (pa_cons pe_int pa_nil))) pa_nil))) (pg_tup rfl (pgs_cons (pg_name (i := 2) sc_l_pattern.nd rfl (Or.inr rfl)) (pgs_cons (pg_name (i := 3) sc_l_pattern.nd rfl (Or.inr rfl)) pgs_nil))))
      (pss_one (ps_ret (pe_callTy call_tuple_of (by rfl) T.tuple (by decide +kernel) (pa_cons (pe_lcO (pe_lc (own := [("_law_k", 4)]) rfl sc_l_pattern.nd (pi_range1 rfl T.range (pa_cons pe_int pa_nil)) (blkOk_by (own := [("_law_k", 4)]) (N := ["_law_bag_here", "_law_things", "_law_atom_here", "_law_manner", "_law_k"]) (sc := defScope s_l_pattern) (by first | decide +kernel | kernel_rfl)) (fun _ _ _ _ _ => pg_name (i := 4) sc_l_pattern.nd rfl (Or.inl rfl)) (fun _ _ _ _ _ => pts_nil) (fun _ _ _ _ _ => pe_ifExp (pt_cmpR (opEqB hr) (pe_op op_mod (pe_callTy call_int1 (by rfl) T.int (by decide +kernel) (pa_cons (pe_op op_fdivW (pv 3) (pe_ix ixAnyB (pe_lst (pa_cons pe_int (pa_cons pe_int (pa_cons pe_int pa_nil)))) (pv 4) (fun _ _ => rfl))) pa_nil)) pe_int) pe_int (nomark _)) (pe_ix ixAnyB (pv 2) (pv 4) (fun _ _ => rfl)) pe_str))) pa_nil))))), ?_⟩
    refine ⟨_, rfl, _, rfl, b, p, ns, rfl, hb, hp, hne, hl, fun H1 va a e1 ha hR h1 h2 => ?_⟩
    refine ⟨_, rfl, b, 8, rfl, hb.ex e1, by decide, by decide, fun H2 r r0 r1 e2 => ?_⟩
    obtain ⟨pa, rfl, hpa⟩ := ha.ex e2
    refine ⟨by show 2 ≤ sizeLine; decide, fun tq htq => ?_⟩
    generalize hqt : upd H2 tq _ = H2' 
    obtain ⟨et, ht⟩ := gen1 hqt htq
    refine ⟨tq, _, rfl, st_of ht, rfl, _, _, rfl, _, _, rfl, rfl, ?_⟩
    have hpa := et _ _ hpa
    have e2 := e2.trans et
    refine ⟨3, rfl, by decide, by decide, ?_⟩
    refine lcG (walk_range (lo := 0) (n := 3)) (by decide) trivial (fun _ _ _ _ => trivial) yFn_ex (fun i ys _ => ∃ zs : List Str, ys = zs.map V.str ∧ zs.length = i ∧ ∀ (j : Nat) z, zs[j]? = some z → z = "" ∨ (sl3 a)[j]? = some z) (fun _ _ _ _ _ h => h) ⟨[], rfl, rfl, fun j z hz => by simp at hz⟩ ?_ ?_
    · rintro i x H3 H4 ys hi e3 ⟨rfl, rfl⟩ ⟨zs, rfl, hzl, hzs⟩ N N0 kN kN0
      have z0 : (0 : Int) + (i : Int) = (i : Int) := Int.zero_add _
      obtain ⟨d, d0, d8, hd⟩ := two_at i hi
      refine ⟨rfl, ?_⟩
      refine ⟨_, rfl, by show 3 ≤ sizeLine; decide, fun l hl1 => ?_⟩
      generalize hq5 : upd H4 l _ = H5
      obtain ⟨e5, h5⟩ := gen1 hq5 hl1
      refine ⟨_, rfl, .inl ⟨l, _, _, _, rfl, rfl, sq_of h5, (by rw [z0]; exact hd), ?_⟩⟩
      refine ⟨_, _, rfl, rfl, wide_div d0 (b := 30) (by omega) (by decide) (by decide), .inl ⟨_, rfl, ?_⟩⟩
      refine ⟨_, _, rfl, rfl, (show (0 : Int) < 2 by decide), .inl ⟨rfl, _, rfl, ?_⟩⟩
      have grow : ∀ z : Str, (z = "" ∨ (sl3 a)[i]? = some z) → ∃ zs' : List Str, zs.map V.str ++ [V.str z] = zs'.map V.str ∧ zs'.length = i + 1 ∧ ∀ (j : Nat) y, zs'[j]? = some y → y = "" ∨ (sl3 a)[j]? = some y := fun z hz =>
        ⟨zs ++ [z], by rw [List.map_append]; rfl, by rw [List.length_append, hzl]; rfl, fun j y hy => by
          rw [List.getElem?_append] at hy
          split at hy
          · exact hzs j y hy
          · rename_i hj
            rw [List.getElem?_singleton] at hy
            split at hy
            · cases hy
              have : j = i := by omega
              rw [this]
              exact hz
            · cases hy⟩
      have hi3 : i < (sl3 a).length := hi
      refine ite2 (fun _ => ?_) (fun _ => ?_)
      · refine ⟨_, rfl, _, rfl, .inr (.inl ⟨pa, _, _, .str (sl3 a)[i], rfl, rfl, st_of (e5 _ _ (e3 _ _ hpa)), ?_, ?_⟩)⟩
        · rw [z0]
          refine atI_nat ?_
          rw [List.getElem?_map, List.getElem?_eq_getElem hi3]
          rfl
        · exact kN _ _ e5 (grow _ (.inr (List.getElem?_eq_getElem hi3)))
      · exact kN _ _ e5 (grow _ (.inl rfl))
    · rintro l H3 ys hl3 e3 h3 _ ⟨zs, rfl, hzl, hzs⟩
      obtain ⟨z1, z2, z3, rfl⟩ : ∃ z1 z2 z3, zs = [z1, z2, z3] := by
        match zs, hzl with
        | [z1, z2, z3], _ => exact ⟨z1, z2, z3, rfl⟩
      refine ⟨l, _, rfl, .inl ⟨sq_of h3, fun x hx => ?_⟩⟩
      refine q _ _ (z1, z2, z3) (((e1.trans e2).trans e3).trans (Ex.new hx)) ⟨x, rfl, upd_same⟩ ?_ ?_ ?_
      · rcases hzs 0 z1 rfl with h | h
        · show isR z1 = true
          rw [h]
          decide +kernel
        · cases h
          exact isR_of hR
      · rcases hzs 1 z2 rfl with h | h
        · exact .inl h
        · cases h
          exact .inr h1
      · rcases hzs 2 z3 rfl with h | h
        · exact .inl h
        · cases h
          exact .inr h2
end
theorem okp_full {p a : Str} (h : p ≠ "") : okp p a = decide (p = a) := by
  unfold okp
  have h1 : (("" : Str) == p) = false := beq_eq_false_iff_ne.mpr fun e => h e.symm
  rw [h1, Bool.false_or]
  by_cases e : p = a
  · subst e
    simp
  · have e2 : ¬ a = p := fun z => e z.symm
    have e3 : (a == p) = false := beq_eq_false_iff_ne.mpr e2
    rw [e3]
    simp [e]
theorem fitB_full {p a : A3} (h1 : p.1 ≠ "") (h2 : p.2.1 ≠ "") (h3 : p.2.2 ≠ "") : fitB p a = decide (p = a) := by
  obtain ⟨p1, p2, p3⟩ := p
  obtain ⟨a1, a2, a3⟩ := a
  rw [fitB_eq]
  show (okp p1 a1 && (okp p2 a2 && okp p3 a3)) = _
  rw [okp_full h1, okp_full h2, okp_full h3]
  by_cases e1 : p1 = a1 <;> by_cases e2 : p2 = a2 <;> by_cases e3 : p3 = a3 <;> simp [e1, e2, e3]
theorem fitB_none (a : A3) : fitB ("", "", "") a = true := by
  rw [fitB_eq]
  show ((("" : Str) == "" || _) && (((("" : Str) == "") || _) && ((("" : Str) == "") || _))) = true
  rw [show (("" : Str) == "") = true from by decide +kernel]
  rfl
theorem isR3_ne {r : Str} (h : isR3 r = true) : r ≠ "" := by
  intro e
  subst e
  revert h
  decide +kernel
theorem nm_ne {z : Str} (h : isNm z = true) : z ≠ "" := by
  intro e
  subst e
  revert h
  decide +kernel
abbrev s_l_alike : Stmt := top 10
theorem sc_l_alike : FnScope ["_law_found", "_law_due"] ["_law_found", "_law_due"] (defScope s_l_alike) := ⟨rfl, rfl, rfl, by decide +kernel, rfl, by decide +kernel, by decide +kernel⟩
section
variable {P : Program} {w : World} {K : PySem.W.Frag} {mg : Str → Option Value} {base : Heap}
theorem ok_alike (T : Txt0 mg) (D : Df K mg "_law_alike" s_l_alike) : CalG P w K mg base 1 "_law_alike" (spAlike K) := by
  refine cal_mk D sc_l_alike (fun _ _ _ _ _ _ us hl => match us, hl with | [_, _], _ => rfl) (fun vs H Q E h => ?_) (fun f cdv A outer s H vs Q E hr hG h => ?_)
  · obtain ⟨a, b, d, rfl, _⟩ := h
    rfl
  · obtain ⟨a, b, d, rfl, ha, hb, hf, q⟩ := h
    refine ⟨_, (pss_one (ps_ret (pe_and (pe_cmpR (opEq hr) (pv 0) (pv 1) (nomark _)) (pe_one (pe_cmpR (opEq hr) (pe_callB (callReprA hG hr) (by rfl) T.repr (by decide +kernel) (pa_cons (pv 0) pa_nil)) (pe_callB (callReprA hG hr) (by rfl) T.repr (by decide +kernel) (pa_cons (pv 1) pa_nil)) (nomark _)))))), ?_⟩
    refine ⟨_, rfl, _, rfl, .inr ⟨d, d, ha, hb, hf.shp, hf.shp, _, rfl, ?_⟩⟩
    rw [PySem.SeqAt.eqv_refl d hf.1]
    refine ⟨_, rfl, a, d, rfl, ha, hf, ?_⟩
    refine ⟨_, rfl, b, d, rfl, hb, hf, ?_⟩
    refine .inl ⟨rfl, ?_⟩
    rw [decide_eq_true rfl]
    exact q
end
theorem fin_at {a : A3} (h : sOk a = true) (h1 : a.1.length ≤ 8) (h2 : a.2.1.length ≤ 8) (h3 : a.2.2.length ≤ 8) : fin 1 300 (atD a) := by
  unfold sOk lay at h
  rw [Bool.and_eq_true, Bool.and_eq_true] at h
  refine (fin_tup (n := 0) (W := 82) (m := 3) (fun d hd => ?_) (Nat.le_refl _)).mono (by decide) (by decide)
  have hd : d ∈ [PyData.str a.1, PyData.str a.2.1, PyData.str a.2.2] := hd
  simp only [List.mem_cons, List.not_mem_nil, or_false] at hd
  rcases hd with rfl | rfl | rfl
  · exact fin_str (L := 8) h.1 h1
  · exact fin_str (L := 8) h.2.1 h2
  · exact fin_str (L := 8) h.2.2 h3
def gA (a : A3) : Prop := sOk a = true ∧ a.1.length ≤ 8 ∧ a.2.1.length ≤ 8 ∧ a.2.2.length ≤ 8
theorem gA.fin {a : A3} (h : gA a) : fin 1 300 (atD a) := fin_at h.1 h.2.1 h.2.2.1 h.2.2.2
theorem fin_fa {as : List A3} (h : ∀ a ∈ as, gA a) (h2 : as.length ≤ 2) : Own.fin 2 700 (faD as) := by
  refine (fin_tup (n := 1) (W := 300) (m := 2) (fun d hd => ?_) (by rw [List.length_map]; exact h2)).mono (by decide) (by decide)
  obtain ⟨a, ha, rfl⟩ := List.mem_map.mp hd
  exact (h a ha).fin
theorem rel_len {r : Str} (h : isR r = true) : r.length ≤ 8 := by
  rcases isR_cases h with rfl | rfl | rfl | rfl <;> decide
theorem nm_len {z : Str} (h : isNm z = true) : z.length ≤ 8 := by
  unfold isNm at h
  simp only [Bool.and_eq_true, decide_eq_true_eq] at h
  exact h.1.2
theorem gA_of {ns : List Str} (hnm : ∀ z ∈ ns, isNm z = true) {a : A3} (h0 : isR a.1 = true) (h1 : a.2.1 = "" ∨ a.2.1 ∈ ns) (h2 : a.2.2 = "" ∨ a.2.2 ∈ ns) : gA a := by
  have ok : ∀ z : Str, (z = "" ∨ z ∈ ns) → lay z = true ∧ z.length ≤ 8 := fun z hz => by
    rcases hz with rfl | hz
    · exact ⟨by decide +kernel, by decide⟩
    · exact ⟨nm_ok (hnm z hz), nm_len (hnm z hz)⟩
  refine ⟨?_, rel_len h0, (ok _ h1).2, (ok _ h2).2⟩
  show (lay a.1 && (lay a.2.1 && lay a.2.2)) = true
  rw [rel_ok h0, (ok _ h1).1, (ok _ h2).1]
  rfl
theorem gA.tr {a : A3} (h : gA a) (hr : isR a.1 = true) : gA (trA a) := by
  obtain ⟨h1, h2, h3, h4⟩ := h
  have hr2 := trR_isR hr
  unfold sOk at h1
  rw [Bool.and_eq_true, Bool.and_eq_true] at h1
  refine ⟨?_, rel_len hr2, h4, h3⟩
  show (lay (trR a.1) && (lay a.2.2 && lay a.2.1)) = true
  rw [rel_ok hr2, h1.2.1, h1.2.2]
  rfl
abbrev s_l_fits : Stmt := top 20
theorem sc_l_fits : FnScope ["_law_pattern_here", "_law_atom_here", "_law_k"] ["_law_pattern_here", "_law_atom_here"] (defScope s_l_fits) := ⟨rfl, rfl, rfl, by decide +kernel, rfl, by decide +kernel, by decide +kernel⟩
section
variable {P : Program} {w : World} {K : PySem.W.Frag} {mg : Str → Option Value} {base : Heap}
def badK (p a : A3) (k : Nat) : Bool := !((fitL p a).getD k true)
theorem bad_none (p a : A3) : ((List.range 3).filter (badK p a)).isEmpty = fitB p a := by
  show (List.filter (badK p a) [0, 1, 2]).isEmpty = _
  rw [fitB_eq]
  have h0 : badK p a 0 = !(okp p.1 a.1) := rfl
  have h1 : badK p a 1 = !(okp p.2.1 a.2.1) := rfl
  have h2 : badK p a 2 = !(okp p.2.2 a.2.2) := rfl
  rw [List.filter_cons, List.filter_cons, List.filter_cons, List.filter_nil, h0, h1, h2]
  cases okp p.1 a.1 <;> cases okp p.2.1 a.2.1 <;> cases okp p.2.2 a.2.2 <;> rfl
theorem eqv_nil (ds : List PyData) : PyData.eqv (.list ds) (.list []) = ds.isEmpty := by
  cases ds with
  | nil => rfl
  | cons _ _ => rfl
theorem dp_ints {K : PySem.W.Frag} {H : Hp} : ∀ ks : List Nat, DpAll K H (ks.map fun (k : Nat) => V.int (k : Int)) (ks.map fun (k : Nat) => PyData.int (k : Int))
  | [] => .nil
  | k :: ks => .cons (.int k) (dp_ints ks)
theorem shp_ints : ∀ ks : List Nat, SeqAt.shaped (.list (ks.map fun (k : Nat) => PyData.int (k : Int))) = true := fun ks => by
  have h : PyData.canLayAll0 (ks.map fun (k : Nat) => PyData.int (k : Int)) = true ∧ PyData.depthAll (ks.map fun (k : Nat) => PyData.int (k : Int)) ≤ 0 := by
    induction ks with
    | nil => exact ⟨rfl, Nat.le_refl _⟩
    | cons k ks ih =>
      refine ⟨?_, ?_⟩
      · show (true && PyData.canLayAll0 _) = true
        rw [ih.1]
        rfl
      · show max 0 (PyData.depthAll _) ≤ 0
        have := ih.2
        omega
  unfold SeqAt.shaped
  rw [show (PyData.list (ks.map fun (k : Nat) => PyData.int (k : Int))).canLay0 = true from h.1, Bool.true_and]
  refine decide_eq_true ?_
  show PyData.depthAll _ + 1 ≤ 64
  omega
theorem ok_lfits (T : Txt0 mg) (D : Df K mg "_law_fits" s_l_fits) : CalG P w K mg base 1 "_law_fits" spFits := by
  refine cal_mk D sc_l_fits (fun _ _ _ _ _ _ us hl => match us, hl with | [_, _], _ => rfl) (fun vs H Q E h => ?_) (fun f cdv A outer s H vs Q E hr hG h => ?_)
  · obtain ⟨v, u, p, a, rfl, _⟩ := h
    rfl
  · obtain ⟨_, _, p, a, rfl, ⟨pp, rfl, hp⟩, ⟨pa, rfl, ha⟩, q⟩ := h
    refine ⟨_, (pss_one (ps_ret (pe_cmpR (opEq hr) (pe_lcO (pe_lc (own := [("_law_k", 2)]) rfl sc_l_fits.nd (pi_range1 rfl T.range (pa_cons pe_int pa_nil)) (blkOk_by (own := [("_law_k", 2)]) (N := ["_law_pattern_here", "_law_atom_here", "_law_k"]) (sc := defScope s_l_fits) (by first | decide +kernel | kernel_rfl)) (fun _ _ _ _ _ => pg_name (i := 2) sc_l_fits.nd rfl (Or.inl rfl)) (fun _ _ _ _ _ => pts_one (PW.pt (pw_and (pt_cmpR (opNeB hr) (pe_ix ixAnyB (pv 0) (pv 2) (fun _ _ => rfl)) pe_str (nomark _)) (pw_and1 (pt_cmpR (opNeB hr) (pe_ix ixAnyB (pv 0) (pv 2) (fun _ _ => rfl)) (pe_ix ixAnyB (pv 1) (pv 2) (fun _ _ => rfl)) (nomark _)))))) (fun _ _ _ _ _ => pv 2))) (pe_lst pa_nil) (nomark _)))), ?_⟩
    refine ⟨3, rfl, by decide, by decide, ?_⟩
    refine lcG (walk_range (lo := 0) (n := 3)) (by decide) trivial (fun _ _ _ _ => trivial) yFn_ex (fun i ys _ => ys = ((List.range i).filter (badK p a)).map fun (k : Nat) => V.int (k : Int)) (fun _ _ _ _ _ h => h) rfl ?_ ?_
    · rintro i x H1 H2 ys hi e1 ⟨rfl, rfl⟩ rfl N N0 kN kN0
      have z0 : (0 : Int) + (i : Int) = (i : Int) := Int.zero_add _
      obtain ⟨z, hz⟩ : ∃ z, (sl3 p)[i]? = some z := ⟨_, List.getElem?_eq_getElem (show i < (sl3 p).length from hi)⟩
      obtain ⟨y, hy⟩ : ∃ y, (sl3 a)[i]? = some y := ⟨_, List.getElem?_eq_getElem (show i < (sl3 a).length from hi)⟩
      have hzi : atI ((sl3 p).map V.str) ((0 : Int) + (i : Int)) = some (.str z) := by
        rw [z0]
        exact atI_nat (by rw [List.getElem?_map, hz]; rfl)
      have hyi : atI ((sl3 a).map V.str) ((0 : Int) + (i : Int)) = some (.str y) := by
        rw [z0]
        exact atI_nat (by rw [List.getElem?_map, hy]; rfl)
      have hp1 := st_of (K := K) (e1 _ _ hp)
      have ha1 := st_of (K := K) (e1 _ _ ha)
      have hbad : badK p a i = !(okp z y) := by
        unfold badK fitL
        rw [List.getD_eq_getElem?_getD, List.getElem?_zipWith, hz, hy]
        rfl
      have yes : badK p a i = true → ∀ H3, Ex H2 H3 → N (.int ((0 : Int) + (i : Int))) H3 := fun h H3 e3 => kN _ _ e3 (by
        rw [List.range_succ, List.filter_append, List.filter_cons, if_pos h, List.map_append, z0]
        rfl)
      have no : badK p a i = false → ∀ H3, Ex H2 H3 → N0 H3 := fun h H3 e3 => kN0 _ e3 (by
        rw [List.range_succ, List.filter_append, List.filter_cons, if_neg (by rw [h]; decide), List.map_append]
        simp)
      refine ⟨rfl, ?_⟩
      refine ⟨_, rfl, _, rfl, .inr (.inl ⟨pp, _, _, .str z, rfl, rfl, hp1, hzi, .inl ⟨rfl, _, rfl, ?_⟩⟩)⟩
      by_cases hz0 : z = ""
      · rw [show decide (V.str z = V.str "") = true by rw [hz0]; exact decide_eq_true rfl]
        refine iteF (no ?_ _ (Ex.refl _))
        rw [hbad, hz0]
        show (!(((("" : Str) == "") || _))) = false
        rw [show (("" : Str) == "") = true from by decide +kernel]
        rfl
      · rw [show decide (V.str z = V.str "") = false by exact decide_eq_false (fun e => hz0 (V.str.inj e))]
        refine iteT ?_
        refine ⟨_, rfl, _, rfl, .inr (.inl ⟨pp, _, _, .str z, rfl, rfl, hp1, hzi, ?_⟩)⟩
        refine ⟨_, rfl, _, rfl, .inr (.inl ⟨pa, _, _, .str y, rfl, rfl, ha1, hyi, .inl ⟨rfl, _, rfl, ?_⟩⟩)⟩
        have hok : okp z y = decide (z = y) := okp_full hz0
        by_cases hzy : z = y
        · rw [show decide (V.str z = V.str y) = true by rw [hzy]; exact decide_eq_true rfl]
          refine iteF (no ?_ _ (Ex.refl _))
          rw [hbad, hok, decide_eq_true hzy]
          rfl
        · rw [show decide (V.str z = V.str y) = false by exact decide_eq_false (fun e => hzy (V.str.inj e))]
          refine iteT ⟨_, rfl, yes ?_ _ (Ex.refl _)⟩
          rw [hbad, hok, decide_eq_false hzy]
          rfl
    · rintro l H1 ys hl e1 h1 _ rfl
      refine ⟨Nat.zero_le _, fun l2 hl2 => ?_⟩
      generalize hq2 : upd H1 l2 _ = H2
      obtain ⟨e2, h2⟩ := gen1 hq2 hl2
      refine .inr ⟨.list _, .list [], .lst (sq_of (e2 _ _ h1)) (dp_ints _), .lst (sq_of h2) .nil, shp_ints _, rfl, ?_⟩
      rw [eqv_nil, show (((List.range 3).filter (badK p a)).map fun (k : Nat) => PyData.int (k : Int)).isEmpty = ((List.range 3).filter (badK p a)).isEmpty by simp, bad_none]
      exact q _ (e1.trans e2)
end
abbrev s_l_fits_fact : Stmt := top 21
theorem sc_l_fits_fact : FnScope ["_law_pattern_here", "_law_fact_here", "_law_atom_here"] ["_law_pattern_here", "_law_fact_here"] (defScope s_l_fits_fact) := ⟨rfl, rfl, rfl, by decide +kernel, rfl, by decide +kernel, by decide +kernel⟩
section
variable {P : Program} {w : World} {K : PySem.W.Frag} {mg : Str → Option Value} {base : Heap}
def spFitsFL : Sp := fun vs H Q _ => ∃ (v u : V) (p : A3) (as : List A3), vs = [v, u] ∧ AtomAt H v p ∧ FactAt H u as ∧ as.length ≤ 2 ∧ (∀ a ∈ as, gA a) ∧ ∀ (H' : Hp), Ex H H' → Q (.bl (as.any (fitB p))) H'
theorem any_filter {α : Type} (f : α → Bool) : ∀ as : List α, (!(as.filter f).isEmpty) = as.any f
  | [] => rfl
  | a :: as => by
    rw [List.filter_cons, List.any_cons]
    cases h : f a with
    | true => rw [if_pos rfl]; rfl
    | false => rw [if_neg (by decide), any_filter f as]; rfl
theorem ok_lfits_fact (T : Txt0 mg) (D : Df K mg "_law_fits_fact" s_l_fits_fact) (c_l_fits : CalG P w K mg base 1 "_law_fits" spFits) : CalG P w K mg base 2 "_law_fits_fact" spFitsFL := by
  refine cal_mk D sc_l_fits_fact (fun _ _ _ _ _ _ us hl => match us, hl with | [_, _], _ => rfl) (fun vs H Q E h => ?_) (fun f cdv A outer s H vs Q E hr hG h => ?_)
  · obtain ⟨v, u, p, as, rfl, _⟩ := h
    rfl
  · obtain ⟨v, _, p, as, rfl, hv, ⟨pf, xs, rfl, hf, hA⟩, h2, hg, q⟩ := h
    refine ⟨_, (pss_one (ps_ret (pe_cmpR (opNe hr) (pe_lcO (pe_lc (own := [("_law_atom_here", 2)]) rfl sc_l_fits_fact.nd (piAny (pv 1)) (blkOk_by (own := [("_law_atom_here", 2)]) (N := ["_law_pattern_here", "_law_fact_here", "_law_atom_here"]) (sc := defScope s_l_fits_fact) (by first | decide +kernel | kernel_rfl)) (fun _ _ _ _ _ => pg_name (i := 2) sc_l_fits_fact.nd rfl (Or.inl rfl)) (fun _ _ _ _ _ => pts_one (pt_val (pe_cG c_l_fits hr hG (by decide) rfl (pa_cons (pv 0) (pa_cons (pv 2) pa_nil))))) (fun _ _ _ _ _ => pv 2))) (pe_lst pa_nil) (nomark _)))), ?_⟩
    have hlx := hA.len
    refine .inr (.inl ⟨_, rfl, pf, rfl, ⟨_, st_of hf⟩, ?_⟩)
    refine lcG (walk_tup (xs := xs)) (by omega) (st_of hf) (fun _ _ e h => ex_t e h) yAt_ex (fun i ys H' => AllAt H' ys ((as.take i).filter (fitB p))) (fun _ _ _ _ e h => h.tex e) trivial ?_ ?_
    · rintro i x H1 H2 ys hi e ⟨rfl, hx⟩ hy N N0 kN kN0
      obtain ⟨a, ha, hat⟩ := (hA.tex (TEx.of e)).at hx
      refine ⟨rfl, ?_⟩
      refine ⟨_, rfl, _, rfl, v, x, p, a, rfl, hv.ex e, hat, fun H3 e3 => ⟨_, rfl, ?_⟩⟩
      cases hfa : fitB p a with
      | true =>
        refine iteT ⟨_, rfl, kN _ _ e3 ?_⟩
        rw [List.take_add_one, ha, List.filter_append, Option.toList, List.filter_cons, if_pos hfa]
        exact AllAt.snoc (hat.ex e3) (hy.tex (TEx.of e3))
      | false =>
        refine iteF (kN0 _ e3 ?_)
        rw [List.take_add_one, ha, List.filter_append, Option.toList, List.filter_cons, if_neg (by rw [hfa]; decide), List.filter_nil, List.append_nil]
        exact hy.tex (TEx.of e3)
    · rintro l H1 ys hl e1 h1 _ hy
      rw [hlx, List.take_length] at hy
      refine ⟨Nat.zero_le _, fun l2 hl2 => ?_⟩
      generalize hq2 : upd H1 l2 _ = H2
      obtain ⟨e2, h2'⟩ := gen1 hq2 hl2
      have hfin : fin 2 700 (.list ((as.filter (fitB p)).map atD)) := by
        refine (fin_list (n := 1) (W := 300) (m := 2) (fun d hd => ?_) ?_).mono (by decide) (by decide)
        · obtain ⟨a, ha, rfl⟩ := List.mem_map.mp hd
          exact (hg a (List.mem_filter.mp ha).1).fin
        · rw [List.length_map]
          exact Nat.le_trans (List.length_filter_le _ _) h2
      refine .inr ⟨.list _, .list [], .lst (sq_of (e2 _ _ h1)) (hy.tex (TEx.of e2)).dp, .lst (sq_of h2') .nil, (hfin.fine (by decide) (by decide)).shp, rfl, ?_⟩
      rw [eqv_nil, show ((as.filter (fitB p)).map atD).isEmpty = (as.filter (fitB p)).isEmpty by simp, any_filter]
      exact q _ (e1.trans e2)
end
end Own

namespace Own
open PySem PySem.Spec PyProof.Rows L2 Evl
abbrev s_l_all_atoms : Stmt := top 24
theorem sc_l_all_atoms : FnScope ["_law_things", "_law_found", "_law_left", "_law_right", "_law_relation"] ["_law_things"] (defScope s_l_all_atoms) := ⟨rfl, rfl, rfl, by decide +kernel, rfl, by decide +kernel, by decide +kernel⟩
def three (l t : Str) : List A3 := [("eq", l, t), ("lt", l, t), ("gt", l, t)]
theorem AllAt.app {H : Hp} : ∀ {vs us : List V} {as bs : List A3}, AllAt H vs as → AllAt H us bs → AllAt H (vs ++ us) (as ++ bs)
  | [], us, [], bs, _, h => h
  | _ :: vs, us, _ :: as, bs, h, h2 => ⟨h.1, AllAt.app h.2 h2⟩
  | [], _, _ :: _, _, h, _ => h.elim
  | _ :: _, _, [], _, h, _ => h.elim
theorem take_flat {α β : Type} {f : α → List β} {xs : List α} {i : Nat} {x : α} (h : xs[i]? = some x) : (xs.take (i + 1)).flatMap f = (xs.take i).flatMap f ++ f x := by
  rw [List.take_add_one, h, List.flatMap_append]
  simp
section
variable {P : Program} {w : World} {K : PySem.W.Frag} {mg : Str → Option Value} {base : Heap}
def allA (ns : List Str) : List A3 := ns.flatMap fun l => ns.flatMap fun t => three l t
def spAllA : Sp := fun vs H Q _ => ∃ (p : Addr) (ns : List Str), vs = [.ref p] ∧ H p = some (.lst (ns.map V.str)) ∧ ns.length ≤ 30 ∧
  ∀ (H' : Hp) (l : Addr) (xs : List V), Ex H H' → H l = none → H' l = some (.lst xs) → AllAt H' xs (allA ns) → xs.length ≤ 3000 → Q (.ref l) H'
theorem ok_all_atoms (T : Txt0 mg) (D : Df K mg "_law_all_atoms" s_l_all_atoms) : CalG P w K mg base 1 "_law_all_atoms" spAllA := by
  refine cal_mk D sc_l_all_atoms (fun _ _ _ _ _ _ us hl => match us, hl with | [_], _ => rfl) (fun vs H Q E h => ?_) (fun f cdv A outer s H vs Q E hr hG h => ?_)
  · obtain ⟨p, ns, rfl, _⟩ := h
    rfl
  · obtain ⟨p, ns, rfl, hp, hl, q⟩ := h
    refine ⟨_, (pss_cons (ps_set (i := 1) sc_l_all_atoms.nd rfl (Or.inl rfl) (pe_lst pa_nil))
      (pss_cons (ps_forO (ps_for PassesOwn.never rfl (piAny (pv 0)) (pg_name (i := 2) sc_l_all_atoms.nd rfl (Or.inr rfl))
        (pss_one (ps_forO (ps_for PassesOwn.never rfl (piAny (pv 0)) (pg_name (i := 3) sc_l_all_atoms.nd rfl (Or.inr rfl))
        (pss_one (ps_expr (pe_bm PySem.F.plainAttrs_list PySem.F.slot_list_extend PySem.F.type_list_extend mt_extend (pv 1) (pa_cons (pe_lcO (pe_lc (own := [("_law_relation", 4)]) rfl sc_l_all_atoms.nd (piAny (pe_tup (pa_cons pe_str (pa_cons pe_str (pa_cons pe_str pa_nil))))) (blkOk_by (own := [("_law_relation", 4)]) (N := ["_law_things", "_law_found", "_law_left", "_law_right", "_law_relation"]) (sc := defScope s_l_all_atoms) (by first | decide +kernel | kernel_rfl)) (fun _ _ _ _ _ => pg_name (i := 4) sc_l_all_atoms.nd rfl (Or.inl rfl)) (fun _ _ _ _ _ => pts_nil) (fun _ _ _ _ _ => pe_tup (pa_cons (pv 4) (pa_cons (pv 2) (pa_cons (pv 3) pa_nil)))))) pa_nil)))))))))
      (pss_one (ps_ret (pv 1))))), ?_⟩
    refine ⟨Nat.zero_le _, fun fp hfp => ?_⟩
    generalize hq1 : upd H fp _ = H1
    obtain ⟨e1, h1⟩ := gen1 hq1 hfp
    refine .inl ⟨_, rfl, p, rfl, ⟨_, sq_of (e1 _ _ hp)⟩, ?_⟩
    refine frG (walk_list (xs := ns.map V.str)) (fun i σ H' => ∃ (xs : List V) (x2 x3 : Option V), σ = [some (.ref p), some (.ref fp), x2, x3, none] ∧ Ex H H' ∧ H' fp = some (.lst xs) ∧ AllAt H' xs ((ns.take i).flatMap fun l => ns.flatMap fun t => three l t) ∧ xs.length ≤ 100 * i)
      ⟨[], none, none, rfl, e1, h1, trivial, Nat.zero_le _⟩ (fun i σ H' _ ⟨_, _, _, _, e, _⟩ => sq_of (e _ _ hp)) ?_ ?_
    · rintro i x σ H2 H3 hi ⟨xs, x2, x3, rfl, e2, hf, hA, hxl⟩ ⟨rfl, hx⟩
      obtain ⟨l, hl1, rfl⟩ := str_at hx
      refine .inl ⟨_, rfl, p, rfl, ⟨_, sq_of (e2 _ _ hp)⟩, ?_⟩
      refine frG (walk_list (xs := ns.map V.str)) (fun j σ H' => ∃ (xs : List V) (x3 : Option V), σ = [some (.ref p), some (.ref fp), some (.str l), x3, none] ∧ Ex H H' ∧ H' fp = some (.lst xs) ∧
          AllAt H' xs (((ns.take i).flatMap fun l => ns.flatMap fun t => three l t) ++ (ns.take j).flatMap fun t => three l t) ∧ xs.length ≤ 100 * i + 3 * j)
        ⟨xs, x3, rfl, e2, hf, by rw [show (ns.take 0).flatMap (fun t => three l t) = [] from rfl, List.append_nil]; exact hA, by omega⟩ (fun i σ H' _ ⟨_, _, _, e, _⟩ => sq_of (e _ _ hp)) ?_ ?_
      · rintro j x σ H4 H5 hj ⟨xs, x3, rfl, e4, hf, hA, hxl⟩ ⟨rfl, hx⟩
        obtain ⟨t, ht1, rfl⟩ := str_at hx
        rw [List.length_map] at hi hj
        refine ⟨_, rfl, .inl ⟨rfl, _, sq_of hf⟩, .inr (.inl ⟨by show 3 ≤ sizeLine; decide, fun tp htp => ?_⟩)⟩
        generalize hq6 : upd H5 tp _ = H6
        obtain ⟨e6, h6⟩ := gen1 hq6 htp
        refine ⟨tp, rfl, ⟨_, st_of h6⟩, ?_⟩
        refine lcG (walk_tup (xs := [V.str "eq", V.str "lt", V.str "gt"])) (by decide) (st_of h6) (fun _ _ e h => ex_t e h) yAt_ex (fun i ys H' => AllAt H' ys ((three l t).take i)) (fun _ _ _ _ e h => h.tex e) trivial ?_ ?_
        · rintro k x H7 H8 ys hk e7 ⟨rfl, hx⟩ hy N N0 kN kN0
          refine ⟨rfl, ?_⟩
          refine ⟨_, rfl, _, rfl, _, rfl, by show 3 ≤ sizeLine; decide, fun z hz => ?_⟩
          refine kN _ _ (Ex.new hz) ?_
          have hk3 : k < 3 := hk
          obtain ⟨r, hr1, rfl⟩ : ∃ r : Str, (three l t)[k]? = some (r, l, t) ∧ x = .str r := by
            have q : k = 0 ∨ k = 1 ∨ k = 2 := by omega
            rcases q with rfl | rfl | rfl
            · cases hx
              exact ⟨"eq", rfl, rfl⟩
            · cases hx
              exact ⟨"lt", rfl, rfl⟩
            · cases hx
              exact ⟨"gt", rfl, rfl⟩
          rw [List.take_add_one, hr1]
          exact AllAt.snoc (a := (r, l, t)) ⟨z, rfl, upd_same⟩ (hy.tex (TEx.of (Ex.new hz)))
        · rintro D H7 ys hD e7 h7 hys hy
          have hf7 := e7 _ _ (e6 _ _ hf)
          have hys3 : ys.length ≤ 3 := hys
          refine ⟨fp, D, xs, ys, rfl, rfl, hf7, h7, sz_of (by omega), ?_⟩
          refine ⟨xs ++ ys, _, rfl, Ex.mut ((e4.trans e6).trans e7) hfp, upd_same, ?_, ?_⟩
          · rw [take_flat ht1, ← List.append_assoc]
            have te := TEx.lst (o := .lst (xs ++ ys)) hf7
            exact AllAt.app (hA.tex ((TEx.of (e6.trans e7)).trans te)) (hy.tex te)
          · rw [List.length_append]
            omega
      · rintro σ H4 ⟨xs, x3, rfl, e4, hf, hA, hxl⟩
        rw [List.length_map] at hA hxl
        refine ⟨xs, _, _, rfl, e4, hf, ?_, by omega⟩
        rw [take_flat hl1]
        rw [List.take_length] at hA
        exact hA
    · rintro σ H2 ⟨xs, x2, x3, rfl, e2, hf, hA, hxl⟩
      rw [List.length_map] at hA hxl
      rw [List.take_length] at hA
      exact ⟨_, rfl, q _ fp xs e2 hfp hf hA (by omega)⟩
end
abbrev s_narrower : Stmt := top 1
theorem sc_narrower : FnScope ["one", "other", "narrow", "wide"] ["one", "other"] (defScope s_narrower) := ⟨rfl, rfl, rfl, by decide +kernel, rfl, by decide +kernel, by decide +kernel⟩
def cfl (x y : Str) : Bool := !decide (x = "") && (!decide (y = "") && !decide (x = y))
def mg1 (x y : Str) : Str := if x = "" then y else x
def bothA (a b : A3) : Option A3 := if (cfl a.1 b.1 || (cfl a.2.1 b.2.1 || cfl a.2.2 b.2.2)) = true then none else some (mg1 a.1 b.1, mg1 a.2.1 b.2.1, mg1 a.2.2 b.2.2)
def OptAt (H : Hp) (v : V) : Option A3 → Prop
  | none => v = .non
  | some a => AtomAt H v a
theorem OptAt.ex {H H' : Hp} {v : V} {o : Option A3} (e : Ex H H') (h : OptAt H v o) : OptAt H' v o := by
  cases o with
  | none => exact h
  | some a => exact AtomAt.ex e h
def opD : Option A3 → PyData
  | none => .none
  | some a => atD a
theorem OptAt.dp {K : PySem.W.Frag} {H : Hp} {v : V} {o : Option A3} (h : OptAt H v o) : Dp K H v (opD o) := by
  cases o with
  | none =>
    have h : v = .non := h
    rw [h]
    exact .non
  | some a => exact AtomAt.dp h
theorem str_dec (a b : Str) : decide (V.str a = V.str b) = decide (a = b) := by
  by_cases h : a = b
  · rw [h]
    simp
  · rw [decide_eq_false h, decide_eq_false (fun e => h (V.str.inj e))]
def cflL (a b : A3) : List Bool := List.zipWith cfl (sl3 a) (sl3 b)
def mgL (a b : A3) : List Str := List.zipWith mg1 (sl3 a) (sl3 b)
theorem mem_allA {ns : List Str} {a : A3} (h : a ∈ allA ns) : isR3 a.1 = true ∧ a.2.1 ∈ ns ∧ a.2.2 ∈ ns := by
  obtain ⟨l, hl, h⟩ := List.mem_flatMap.mp h
  obtain ⟨t, ht, h⟩ := List.mem_flatMap.mp h
  simp only [three, List.mem_cons, List.not_mem_nil, or_false] at h
  rcases h with rfl | rfl | rfl
  · exact ⟨by show isR3 "eq" = true; decide +kernel, hl, ht⟩
  · exact ⟨by show isR3 "lt" = true; decide +kernel, hl, ht⟩
  · exact ⟨by show isR3 "gt" = true; decide +kernel, hl, ht⟩
/-! ### the mathematics of patterns -/
def dfl (x d : Str) : Str := if x = "" then d else x
theorem okp_dfl (p d : Str) : okp p (dfl p d) = true := by
  unfold dfl okp
  by_cases h : p = ""
  · rw [h]
    simp
  · rw [if_neg h]
    simp
theorem okp_none (a : Str) : okp "" a = true := by
  unfold okp
  simp
theorem okp_blank (o : Str) : okp o "" = decide (o = "") := by
  by_cases h : o = ""
  · rw [h, okp_none]
    simp
  · rw [okp_full h]
theorem okp_wit {o p d : Str} (h : o = d → o = "") : okp o (dfl p d) = okp o p := by
  unfold dfl
  by_cases hp : p = ""
  · rw [if_pos hp, hp, okp_blank]
    by_cases ho : o = ""
    · rw [ho, okp_none]
      simp
    · rw [okp_full ho, decide_eq_false ho, decide_eq_false (fun e => ho (h e))]
  · rw [if_neg hp]
theorem okp_trans {o p a : Str} (h1 : okp o p = true) (h2 : okp p a = true) : okp o a = true := by
  by_cases ho : o = ""
  · rw [ho, okp_none]
  · rw [okp_full ho] at h1 ⊢
    have e := of_decide_eq_true h1
    subst e
    rw [okp_full ho] at h2
    exact h2
theorem fitB_trans {o p a : A3} (h1 : fitB o p = true) (h2 : fitB p a = true) : fitB o a = true := by
  rw [fitB_eq] at h1 h2 ⊢
  simp only [Bool.and_eq_true] at h1 h2 ⊢
  exact ⟨okp_trans h1.1 h2.1, okp_trans h1.2.1 h2.2.1, okp_trans h1.2.2 h2.2.2⟩
/-- an atom of p with other parts where p is blank -/
def wit (p : A3) (r n : Str) : A3 := (dfl p.1 r, dfl p.2.1 n, dfl p.2.2 n)
theorem fitB_wit (p : A3) (r n : Str) : fitB p (wit p r n) = true := by
  rw [fitB_eq]
  show (okp p.1 (dfl p.1 r) && (okp p.2.1 (dfl p.2.1 n) && okp p.2.2 (dfl p.2.2 n))) = true
  rw [okp_dfl, okp_dfl, okp_dfl]
  rfl
theorem mem_allA' {ns : List Str} {a : A3} (h1 : isR3 a.1 = true) (h2 : a.2.1 ∈ ns) (h3 : a.2.2 ∈ ns) : a ∈ allA ns := by
  refine List.mem_flatMap.mpr ⟨a.2.1, h2, List.mem_flatMap.mpr ⟨a.2.2, h3, ?_⟩⟩
  obtain ⟨r, l, t⟩ := a
  show (r, l, t) ∈ [(("eq" : Str), l, t), ("lt", l, t), ("gt", l, t)]
  rcases isR_cases (isR_of h1) with rfl | rfl | rfl | rfl
  · simp
  · simp
  · simp
  · exact absurd rfl (isR3_ne h1)
theorem isR3_of {r : Str} (h : isR r = true) (h2 : r ≠ "") : isR3 r = true := by
  rcases isR_cases h with rfl | rfl | rfl | rfl
  · decide +kernel
  · decide +kernel
  · decide +kernel
  · exact absurd rfl h2
def good (l0 : Str) (rest : List Str) (p : A3) : Prop := isR p.1 = true ∧ (p.2.1 = "" ∨ p.2.1 ∈ rest) ∧ (p.2.2 = "" ∨ p.2.2 ∈ rest)
theorem wit_mem {l0 : Str} {rest : List Str} {p : A3} {r : Str} (h : good l0 rest p) (hr : isR3 r = true) : wit p r l0 ∈ allA (l0 :: rest) := by
  obtain ⟨h1, h2, h3⟩ := h
  have part : ∀ z : Str, (z = "" ∨ z ∈ rest) → dfl z l0 ∈ l0 :: rest := fun z hz => by
    unfold dfl
    by_cases e : z = ""
    · rw [if_pos e]
      exact List.mem_cons_self
    · rw [if_neg e]
      exact List.mem_cons_of_mem _ (hz.resolve_left e)
  refine mem_allA' ?_ (part _ h2) (part _ h3)
  show isR3 (dfl p.1 r) = true
  unfold dfl
  by_cases e : p.1 = ""
  · rw [if_pos e]
    exact hr
  · rw [if_neg e]
    exact isR3_of h1 e
theorem narrow_iff {l0 : Str} {rest : List Str} {p o : A3} (hn : (l0 :: rest).Nodup) (hne : ∀ z ∈ l0 :: rest, z ≠ "") (hp : good l0 rest p) (ho : good l0 rest o) :
    (((allA (l0 :: rest)).filter (fitB p)).filter fun a => !fitB o a).isEmpty = fitB o p := by
  have nl : ∀ z : Str, (z = "" ∨ z ∈ rest) → z = l0 → z = "" := fun z hz e => by
    rcases hz with h | h
    · exact h
    · exact absurd (e ▸ h) (List.nodup_cons.mp hn).1
  obtain ⟨r, hr, hro⟩ : ∃ r : Str, isR3 r = true ∧ o.1 ≠ r := by
    by_cases e : o.1 = "eq"
    · exact ⟨"lt", by decide +kernel, by rw [e]; decide +kernel⟩
    · exact ⟨"eq", by decide +kernel, e⟩
  have hw : fitB o (wit p r l0) = fitB o p := by
    rw [fitB_eq, fitB_eq]
    show (okp o.1 (dfl p.1 r) && (okp o.2.1 (dfl p.2.1 l0) && okp o.2.2 (dfl p.2.2 l0))) = _
    rw [okp_wit (fun e => absurd e hro), okp_wit (nl _ ho.2.1), okp_wit (nl _ ho.2.2)]
  cases hf : fitB o p with
  | true =>
    rw [List.isEmpty_iff]
    apply List.filter_eq_nil_iff.mpr
    intro a ha
    rw [fitB_trans hf (List.mem_filter.mp ha).2]
    decide
  | false =>
    rw [← Bool.not_eq_true, List.isEmpty_iff]
    intro e
    have m : wit p r l0 ∈ ((allA (l0 :: rest)).filter (fitB p)).filter fun a => !fitB o a := List.mem_filter.mpr ⟨List.mem_filter.mpr ⟨wit_mem hp hr, fitB_wit _ _ _⟩, by rw [hw, hf]; rfl⟩
    rw [e] at m
    cases m
abbrev s_l_world : Stmt := top 13
theorem sc_l_world : FnScope ["_law_bag_here"] ["_law_bag_here"] (defScope s_l_world) := ⟨rfl, rfl, rfl, by decide +kernel, rfl, by decide +kernel, by decide +kernel⟩
abbrev s_l_row : Stmt := top 16
theorem sc_l_row : FnScope ["_law_bag_here", "_law_world_here"] ["_law_bag_here", "_law_world_here"] (defScope s_l_row) := ⟨rfl, rfl, rfl, by decide +kernel, rfl, by decide +kernel, by decide +kernel⟩
structure WOk (ns ts : List Str) : Prop where
  n : ns.length = 3
  t2 : 2 ≤ ts.length
  t4 : ts.length ≤ 4
  nn : ∀ z ∈ ns, isNm z = true
  nt : ∀ z ∈ ts, isNm z = true
  dt : ts.Nodup
def WorldAt (H : Hp) (v : V) (ns ts : List Str) : Prop := ∃ (d pn pt : Addr) (kvs : List (Key × V)), v = .ref d ∧ H d = some (.dK kvs) ∧ valV kvs (Sum.inr "names") = some (.ref pn) ∧ valV kvs (Sum.inr "things") = some (.ref pt) ∧ H pn = some (.lst (ns.map V.str)) ∧ H pt = some (.lst (ts.map V.str))
theorem WorldAt.ex {H H' : Hp} {v : V} {ns ts : List Str} (e : Ex H H') (h : WorldAt H v ns ts) : WorldAt H' v ns ts := by
  obtain ⟨d, pn, pt, kvs, h1, h2, h3, h4, h5, h6⟩ := h
  exact ⟨d, pn, pt, kvs, h1, e _ _ h2, h3, h4, e _ _ h5, e _ _ h6⟩
/-- a row: its name and its fact -/
abbrev Rw := Str × List A3
def RowAt (H : Hp) (v : V) (r : Rw) : Prop := ∃ p vf, v = .ref p ∧ H p = some (.tup [.str r.1, vf]) ∧ FactAt H vf r.2
theorem RowAt.tex {H H' : Hp} {v : V} {r : Rw} (e : TEx H H') (h : RowAt H v r) : RowAt H' v r := by
  obtain ⟨p, vf, h1, h2, p2, xs, h3, h4, h5⟩ := h
  exact ⟨p, vf, h1, e _ _ h2, p2, xs, h3, e _ _ h4, h5.tex e⟩
def AllRw (H : Hp) : List V → List Rw → Prop
  | [], [] => True
  | v :: vs, r :: rs => RowAt H v r ∧ AllRw H vs rs
  | _, _ => False
theorem AllRw.tex {H H' : Hp} (e : TEx H H') : ∀ {vs : List V} {rs : List Rw}, AllRw H vs rs → AllRw H' vs rs
  | [], [], _ => trivial
  | _ :: _, _ :: _, h => ⟨h.1.tex e, AllRw.tex e h.2⟩
  | [], _ :: _, h => h.elim
  | _ :: _, [], h => h.elim
theorem AllRw.len {H : Hp} : ∀ {vs : List V} {rs : List Rw}, AllRw H vs rs → vs.length = rs.length
  | [], [], _ => rfl
  | _ :: _, _ :: _, h => by rw [List.length_cons, List.length_cons, AllRw.len h.2]
  | [], _ :: _, h => h.elim
  | _ :: _, [], h => h.elim
theorem AllRw.at {H : Hp} : ∀ {vs : List V} {rs : List Rw} {i : Nat} {v : V}, AllRw H vs rs → vs[i]? = some v → ∃ r, rs[i]? = some r ∧ RowAt H v r
  | [], [], _, _, _, h => by simp at h
  | _ :: _, r :: _, 0, _, h, e => by
    cases e
    exact ⟨r, rfl, h.1⟩
  | _ :: _, _ :: _, i + 1, _, h, e => AllRw.at (i := i) h.2 e
  | [], _ :: _, _, _, h, _ => h.elim
  | _ :: _, [], _, _, h, _ => h.elim
theorem AllRw.snoc {H : Hp} {v : V} {r : Rw} (hv : RowAt H v r) : ∀ {vs : List V} {rs : List Rw}, AllRw H vs rs → AllRw H (vs ++ [v]) (rs ++ [r])
  | [], [], _ => ⟨hv, trivial⟩
  | _ :: _, _ :: _, h => ⟨h.1, AllRw.snoc hv h.2⟩
  | [], _ :: _, h => h.elim
  | _ :: _, [], h => h.elim
theorem AllRw.take {H : Hp} : ∀ {vs : List V} {rs : List Rw} (n : Nat), AllRw H vs rs → AllRw H (vs.take n) (rs.take n)
  | _, _, 0, _ => trivial
  | [], [], _ + 1, _ => trivial
  | _ :: _, _ :: _, n + 1, h => ⟨h.1, AllRw.take n h.2⟩
  | [], _ :: _, _ + 1, h => h.elim
  | _ :: _, [], _ + 1, h => h.elim
def rwD (r : Rw) : PyData := .tuple [.str r.1, faD r.2]
theorem RowAt.dp {K : PySem.W.Frag} {H : Hp} {v : V} {r : Rw} (h : RowAt H v r) : Dp K H v (rwD r) := by
  obtain ⟨p, vf, rfl, h2, h3⟩ := h
  exact .tup (st_of h2) (.cons (.str _) (.cons h3.dp .nil))
theorem AllRw.dp {K : PySem.W.Frag} {H : Hp} : ∀ {vs : List V} {rs : List Rw}, AllRw H vs rs → DpAll K H vs (rs.map rwD)
  | [], [], _ => .nil
  | _ :: _, _ :: _, h => .cons h.1.dp (AllRw.dp h.2)
  | [], _ :: _, h => h.elim
  | _ :: _, [], h => h.elim
/-- a row over the names ns and ts -/
def tR (ns ts : List Str) (r : Rw) : Prop := r.1 ∈ ns ∧ 1 ≤ r.2.length ∧ ∀ a ∈ r.2, isR3 a.1 = true ∧ a.2.1 ∈ ts ∧ a.2.2 ∈ ts
def gR (r : Rw) : Prop := isNm r.1 = true ∧ r.2.length ≤ 2 ∧ ∀ a ∈ r.2, gA a
theorem gR.fin {r : Rw} (h : gR r) : Own.fin 3 2000 (rwD r) := by
  refine (fin_tup (n := 2) (W := 700) (m := 2) (fun d hd => ?_) (Nat.le_refl _)).mono (by decide) (by decide)
  have hd : d ∈ [PyData.str r.1, faD r.2] := hd
  simp only [List.mem_cons, List.not_mem_nil, or_false] at hd
  rcases hd with rfl | rfl
  · exact (fin_str (L := 8) (nm_ok h.1) (nm_len h.1)).mono (by decide) (by decide)
  · exact fin_fa h.2.2 h.2.1
theorem gR.list {rs : List Rw} (h : ∀ r ∈ rs, gR r) (hl : rs.length ≤ 100) : fine (.list (rs.map rwD)) := by
  refine (fin_list (n := 3) (W := 2000) (m := 100) (fun d hd => ?_) (by rw [List.length_map]; exact hl)).fine (by decide) (by decide)
  obtain ⟨r, hr, rfl⟩ := List.mem_map.mp hd
  exact (h r hr).fin
theorem w_names (x y : V) : valV (mergeK [] [((Sum.inr "names" : Key), x), ((Sum.inr "things" : Key), y)]) (Sum.inr "names") = some x := by rfl
theorem w_things (x y : V) : valV (mergeK [] [((Sum.inr "names" : Key), x), ((Sum.inr "things" : Key), y)]) (Sum.inr "things") = some y := by rfl
section
variable {P : Program} {w : World} {K : PySem.W.Frag} {mg : Str → Option Value} {base : Heap}
def spWorld : Sp := fun vs H Q _ => ∃ (b : Addr), vs = [.ref b] ∧ BagAt H b ∧ ∀ (H' : Hp) (v : V) (ns ts : List Str), Ex H H' → WorldAt H' v ns ts → WOk ns ts → Q v H'
theorem ok_world (T : Txt0 mg) (D : Df K mg "_law_world" s_l_world) (c_l_take : CalG P w K mg base 1 "_law_take" spTake) (c_l_names : CalG P w K mg base 2 "_law_names" spNames) : CalG P w K mg base 3 "_law_world" spWorld := by
  refine cal_mk D sc_l_world (fun _ _ _ _ _ _ us hl => match us, hl with | [_], _ => rfl) (fun vs H Q E h => ?_) (fun f cdv A outer s H vs Q E hr hG h => ?_)
  · obtain ⟨b, rfl, _⟩ := h
    rfl
  · obtain ⟨b, rfl, hb, q⟩ := h
    refine ⟨_, (pss_one (ps_ret (pe_disp (pps_cons pe_str (pe_cG c_l_names hr hG (by decide) rfl (pa_cons (pv 0) (pa_cons pe_int pa_nil))) (pps_cons pe_str (pe_cG c_l_names hr hG (by decide) rfl (pa_cons (pv 0) (pa_cons (pe_op opAdd pe_int (pe_cG c_l_take hr hG (by decide) rfl (pa_cons (pv 0) (pa_cons pe_int pa_nil)))) pa_nil))) pps_nil)) (by rfl) (by rfl) (fun z => by cases z) (by decide)))), fun d hd => ?_⟩
    generalize hq1 : upd H d _ = H1
    obtain ⟨e1, h1⟩ := gen1 hq1 hd
    refine ⟨_, rfl, b, 3, rfl, hb.ex e1, by decide, by decide, fun H2 pn ns e2 _ hpn hnl _ hnn => ?_⟩
    refine ⟨_, rfl, _, rfl, b, 3, rfl, hb.ex (e1.trans e2), by decide, by decide, fun H3 r r0 r1 e3 => .inl ⟨2, r, rfl, rfl, ?_⟩⟩
    refine ⟨b, _, rfl, hb.ex ((e1.trans e2).trans e3), by omega, by omega, fun H4 pt ts e4 _ hpt htl hdt hnt => ?_⟩
    have e14 := (e2.trans e3).trans e4
    refine ⟨e14 _ _ h1, [(Sum.inr "names", .ref pn), (Sum.inr "things", .ref pt)], rfl, by show 2 ≤ 15; decide, ?_⟩
    have e34 := e3.trans e4
    have hpn4 := e34 _ _ hpn
    have n1 : pn ≠ d := fun e => by
      rw [e] at hpn4
      rw [e14 _ _ h1] at hpn4
      cases hpn4
    have n2 : pt ≠ d := fun e => by
      rw [e] at hpt
      rw [e14 _ _ h1] at hpt
      cases hpt
    refine q _ _ ns ts (Ex.mut (e1.trans e14) hd) ⟨d, pn, pt, _, rfl, upd_same, w_names _ _, w_things _ _, by rw [upd_ne n1]; exact hpn4, by rw [upd_ne n2]; exact hpt⟩ ⟨by omega, by omega, by omega, hnn, hnt, hdt⟩
def spRow : Sp := fun vs H Q _ => ∃ (b : Addr) (v : V) (ns ts : List Str), vs = [.ref b, v] ∧ BagAt H b ∧ WorldAt H v ns ts ∧ WOk ns ts ∧ ∀ (H' : Hp) (u : V) (r : Rw), Ex H H' → RowAt H' u r → gR r → tR ns ts r → Q u H'
theorem ok_row (T : Txt0 mg) (D : Df K mg "_law_row" s_l_row) (c_l_some : CalG P w K mg base 2 "_law_some" (spSome K)) (c_l_fact : CalG P w K mg base 4 "_law_fact" spFact) : CalG P w K mg base 5 "_law_row" spRow := by
  refine cal_mk D sc_l_row (fun _ _ _ _ _ _ us hl => match us, hl with | [_, _], _ => rfl) (fun vs H Q E h => ?_) (fun f cdv A outer s H vs Q E hr hG h => ?_)
  · obtain ⟨b, v, ns, ts, rfl, _⟩ := h
    rfl
  · obtain ⟨b, _, ns, ts, rfl, hb, ⟨d, pn, pt, kvs, rfl, hd, hkn, hkt, hpn, hpt⟩, hw, q⟩ := h
    refine ⟨_, (pss_one (ps_ret (pe_tup (pa_cons (pe_cG c_l_some hr hG (by decide) rfl (pa_cons (pv 0) (pa_cons (pe_dget (hu_of hr) (pv 1) pe_str (fun _ _ => rfl)) pa_nil))) (pa_cons (pe_cG c_l_fact hr hG (by decide) rfl (pa_cons (pv 0) (pa_cons (pe_dget (hu_of hr) (pv 1) pe_str (fun _ _ => rfl)) pa_nil))) pa_nil))))), ?_⟩
    have hn3 := hw.n
    have ht2 := hw.t2
    have ht4 := hw.t4
    refine ⟨_, rfl, _, rfl, d, .ref pn, rfl, .inl ⟨kvs, Sum.inr "names", .inl hd, rfl, hkn.symm⟩, ?_⟩
    refine ⟨b, pn, _, rfl, hb, .inl (sq_of hpn), (fun e => by have z := congrArg List.length e; rw [List.length_map] at z; rw [hn3] at z; cases z), by rw [List.length_map]; omega, fun H1 i x e1 hx => ?_⟩
    obtain ⟨nm, hnm, rfl⟩ := str_at hx
    refine ⟨_, rfl, _, rfl, d, .ref pt, rfl, .inl ⟨kvs, Sum.inr "things", .inl (e1 _ _ hd), rfl, hkt.symm⟩, ?_⟩
    refine ⟨b, pt, ts, rfl, hb.ex e1, e1 _ _ hpt, (fun e => by rw [e] at ht2; exact absurd ht2 (by decide)), by omega, fun H2 vf as e2 hf h1 h2 hall => ?_⟩
    refine ⟨by show 2 ≤ sizeLine; decide, fun t ht => ?_⟩
    refine q _ _ (nm, as) ((e1.trans e2).trans (Ex.new ht)) ⟨t, vf, rfl, upd_same, hf.ex (Ex.new ht)⟩ ⟨hw.nn _ (List.mem_of_getElem? hnm), h2, fun a ha => ?_⟩ ⟨List.mem_of_getElem? hnm, h1, hall⟩
    obtain ⟨k1, k2, k3⟩ := hall a ha
    exact gA_of hw.nt (isR_of k1) (.inr k2) (.inr k3)
end
abbrev s_l_rows : Stmt := top 17
theorem sc_l_rows : FnScope ["_law_bag_here", "_law_world_here", "_law_top", "_law_k"] ["_law_bag_here", "_law_world_here", "_law_top"] (defScope s_l_rows) := ⟨rfl, rfl, rfl, by decide +kernel, rfl, by decide +kernel, by decide +kernel⟩
section
variable {P : Program} {w : World} {K : PySem.W.Frag} {mg : Str → Option Value} {base : Heap}
def spRows : Sp := fun vs H Q _ => ∃ (b : Addr) (v : V) (ns ts : List Str) (m : Int), vs = [.ref b, v, .int m] ∧ BagAt H b ∧ WorldAt H v ns ts ∧ WOk ns ts ∧ 0 ≤ m ∧ m ≤ 20 ∧ ∀ (H' : Hp) (p : Addr) (us : List V) (rs : List Rw), Ex H H' → H p = none → H' p = some (.lst us) → AllRw H' us rs → (∀ r ∈ rs, gR r) → (rs.length : Int) ≤ m → (∀ r ∈ rs, tR ns ts r) → Q (.ref p) H'
theorem ok_rows (T : Txt0 mg) (D : Df K mg "_law_rows" s_l_rows) (c_l_take : CalG P w K mg base 1 "_law_take" spTake) (c_l_row : CalG P w K mg base 5 "_law_row" spRow) : CalG P w K mg base 6 "_law_rows" spRows := by
  refine cal_mk D sc_l_rows (fun _ _ _ _ _ _ us hl => match us, hl with | [_, _, _], _ => rfl) (fun vs H Q E h => ?_) (fun f cdv A outer s H vs Q E hr hG h => ?_)
  · obtain ⟨b, v, ns, ts, m, rfl, _⟩ := h
    rfl
  · obtain ⟨b, v, ns, ts, m, rfl, hb, hv, hw, m0, m1, q⟩ := h
    refine ⟨_, (pss_one (ps_ret (pe_lcO (pe_lc (own := [("_law_k", 3)]) rfl sc_l_rows.nd (pi_range1 rfl T.range (pa_cons (pe_cG c_l_take hr hG (by decide) rfl (pa_cons (pv 0) (pa_cons (pe_op opAdd (pv 2) pe_int) pa_nil))) pa_nil)) (blkOk_by (own := [("_law_k", 3)]) (N := ["_law_bag_here", "_law_world_here", "_law_top", "_law_k"]) (sc := defScope s_l_rows) (by first | decide +kernel | kernel_rfl)) (fun _ _ _ _ _ => pg_name (i := 3) sc_l_rows.nd rfl (Or.inl rfl)) (fun _ _ _ _ _ => pts_nil) (fun _ _ _ _ _ => pe_cG c_l_row hr hG (by decide) rfl (pa_cons (pv 0) (pa_cons (pv 1) pa_nil))))))), ?_⟩
    refine ⟨_, rfl, _, rfl, .inl ⟨m, 1, rfl, rfl, ?_⟩⟩
    refine ⟨b, _, rfl, hb, by omega, by omega, fun H1 r r0 r1 e1 => ?_⟩
    obtain ⟨n, rfl⟩ : ∃ n : Nat, r = (n : Int) := ⟨r.toNat, by omega⟩
    refine ⟨(n : Int), rfl, by omega, by omega, ?_⟩
    refine lcG (walk_range (lo := 0) (n := (n : Int).toNat)) (by omega) trivial (fun _ _ _ _ => trivial) yFn_ex (fun i ys H' => ∃ rs : List Rw, AllRw H' ys rs ∧ rs.length = i ∧ ∀ r ∈ rs, gR r ∧ tR ns ts r)
      (fun _ _ _ _ e ⟨rs, h1, h2⟩ => ⟨rs, h1.tex e, h2⟩) ⟨[], trivial, rfl, fun a ha => by cases ha⟩ ?_ ?_
    · rintro i x H2 H3 ys hi e2 ⟨rfl, rfl⟩ ⟨rs, hA, hal, hR⟩ N N0 kN kN0
      refine ⟨rfl, ?_⟩
      have e12 := e1.trans e2
      refine ⟨_, rfl, _, rfl, b, v, ns, ts, rfl, hb.ex e12, hv.ex e12, hw, fun H4 u r e4 hu hg ht => ?_⟩
      refine kN _ _ e4 ⟨rs ++ [r], AllRw.snoc hu (hA.tex (TEx.of e4)), by rw [List.length_append, hal]; rfl, fun x hx => ?_⟩
      rcases List.mem_append.mp hx with hx | hx
      · exact hR x hx
      · rw [List.mem_singleton] at hx
        rw [hx]
        exact ⟨hg, ht⟩
    · rintro l H2 ys hl e2 h2 _ ⟨rs, hA, hal, hR⟩
      have hln : H l = none := by
        cases hx : H l with
        | none => rfl
        | some o => rw [e1 _ _ hx] at hl; cases hl
      exact q _ l ys rs (e1.trans e2) hln h2 hA (fun r hr => (hR r hr).1) (by rw [hal]; omega) fun r hr => (hR r hr).2
end
inductive Pk
  | nm (z : Str) | pl (i : Int) | last | like (p : A3) | all (p : A3)
def PkAt (H : Hp) (v : V) : Pk → Prop
  | .nm z => ∃ p, v = .ref p ∧ H p = some (.tup [.str "name", .str z])
  | .pl i => ∃ p, v = .ref p ∧ H p = some (.tup [.str "at", .int i])
  | .last => ∃ p, v = .ref p ∧ H p = some (.tup [.str "last"])
  | .like a => ∃ p u, v = .ref p ∧ H p = some (.tup [.str "like", u]) ∧ AtomAt H u a
  | .all a => ∃ p u, v = .ref p ∧ H p = some (.tup [.str "all", u]) ∧ AtomAt H u a
theorem PkAt.ex {H H' : Hp} {v : V} {k : Pk} (e : Ex H H') (h : PkAt H v k) : PkAt H' v k := by
  cases k with
  | nm z => obtain ⟨p, h1, h2⟩ := h; exact ⟨p, h1, e _ _ h2⟩
  | pl i => obtain ⟨p, h1, h2⟩ := h; exact ⟨p, h1, e _ _ h2⟩
  | last => obtain ⟨p, h1, h2⟩ := h; exact ⟨p, h1, e _ _ h2⟩
  | like a => obtain ⟨p, u, h1, h2, h3⟩ := h; exact ⟨p, u, h1, e _ _ h2, h3.ex e⟩
  | all a => obtain ⟨p, u, h1, h2, h3⟩ := h; exact ⟨p, u, h1, e _ _ h2, h3.ex e⟩
def suitB (k : Pk) (j : Int) (r : Rw) : Bool :=
  match k with
  | .nm z => decide (r.1 = z)
  | .pl i => decide (j = i)
  | .last => true
  | .like a => r.2.any (fitB a)
  | .all a => r.2.any (fitB a)
def suAt (k : Pk) (rs : List Rw) (j : Nat) : Bool := match rs[j]? with | some r => suitB k (j : Int) r | none => false
def Pk.isAll : Pk → Bool | .all _ => true | _ => false
def pkL (k : Pk) (rs : List Rw) : List Nat :=
  let L := (List.range rs.length).filter (suAt k rs)
  if k.isAll = true then L else L.drop (L.length - 1)
def PkOk (k : Pk) : Prop := match k with | .pl i => 0 ≤ i | .nm _ => True | .last => True | .like _ => True | .all _ => True
def nV (k : Nat) : V := .int (k : Int)
theorem int_dec (a b : Int) : decide (V.int a = V.int b) = decide (a = b) := by
  by_cases h : a = b
  · rw [h]
    simp
  · rw [decide_eq_false h, decide_eq_false (fun e => h (V.int.inj e))]
theorem s_ne {a b : Str} (h : a ≠ b) : decide (V.str a = V.str b) = false := decide_eq_false fun e => h (V.str.inj e)
theorem s_eq (a : Str) : decide (V.str a = V.str a) = true := decide_eq_true rfl
theorem cut_last (xs : List V) : cutV xs (some (-1)) none = xs.drop (xs.length - 1) := by
  unfold cutV
  rw [HT.sIx_none]
  have z : HT.sIx xs.length 0 (some (-1)) = xs.length - 1 := by
    unfold HT.sIx
    simp
    omega
  rw [z]
  apply List.take_of_length_le
  rw [List.length_drop]
  exact Nat.le_refl _
theorem PkAt.word {H : Hp} {v : V} {k : Pk} (h : PkAt H v k) : ∃ p z xs, v = .ref p ∧ H p = some (.tup (V.str z :: xs)) ∧ decide (V.str z = V.str "all") = k.isAll ∧ z ≠ "book" := by
  cases k with
  | nm z => obtain ⟨p, rfl, hp⟩ := h; exact ⟨p, _, _, rfl, hp, s_ne (by decide +kernel), by decide +kernel⟩
  | pl i => obtain ⟨p, rfl, hp⟩ := h; exact ⟨p, _, _, rfl, hp, s_ne (by decide +kernel), by decide +kernel⟩
  | last => obtain ⟨p, rfl, hp⟩ := h; exact ⟨p, _, _, rfl, hp, s_ne (by decide +kernel), by decide +kernel⟩
  | like a => obtain ⟨p, u, rfl, hp, hu⟩ := h; exact ⟨p, _, _, rfl, hp, s_ne (by decide +kernel), by decide +kernel⟩
  | all a => obtain ⟨p, u, rfl, hp, hu⟩ := h; exact ⟨p, _, _, rfl, hp, s_eq _, by decide +kernel⟩
end Own

namespace Own
open PySem PySem.Spec PyProof.Rows L2 Evl
abbrev s_l_pick : Stmt := top 19
theorem sc_l_pick : FnScope ["_law_bag_here", "_law_world_here", "_law_many", "_law_is_lone", "_law_manner"] ["_law_bag_here", "_law_world_here", "_law_many", "_law_is_lone"] (defScope s_l_pick) := ⟨rfl, rfl, rfl, by decide +kernel, rfl, by decide +kernel, by decide +kernel⟩
abbrev s_l_bare : Stmt := top 22
theorem sc_l_bare : FnScope ["_law_pick_here"] ["_law_pick_here"] (defScope s_l_bare) := ⟨rfl, rfl, rfl, by decide +kernel, rfl, by decide +kernel, by decide +kernel⟩
abbrev s_l_picked : Stmt := top 23
theorem sc_l_picked : FnScope ["_law_pick_here", "_law_rows_here", "_law_word", "_law_thing", "_law_found", "_law_k"] ["_law_pick_here", "_law_rows_here"] (defScope s_l_picked) := ⟨rfl, rfl, rfl, by decide +kernel, rfl, by decide +kernel, by decide +kernel⟩
def gK : Pk → Prop
  | .nm z => isNm z = true
  | .pl i => 0 ≤ i
  | .last => True
  | .like a => gA a
  | .all a => gA a
theorem ite_on {b : Bool} {p q : Prop} (h : b = true) (x : p) : if b = true then p else q := by
  rw [h]
  exact iteT x
theorem ite_off {b : Bool} {p q : Prop} (h : b = false) (x : q) : if b = true then p else q := by
  rw [h]
  exact iteF x
theorem rg_nV (n : Nat) : rgV 0 (n : Int) = (List.range n).map nV := by
  unfold rgV
  rw [Int.sub_zero, Int.toNat_natCast]
  congr 1
  funext i
  exact congrArg V.int (Int.zero_add _)
theorem three_w {r : Int} (h0 : 2 ≤ r) (h1 : r < 5) : ∃ z : Str, (z = "like" ∨ z = "all") ∧ atI [V.str "like", V.str "like", V.str "all"] (r - 2) = some (.str z) := by
  have q : r = 2 ∨ r = 3 ∨ r = 4 := by omega
  rcases q with rfl | rfl | rfl
  · exact ⟨_, .inl rfl, rfl⟩
  · exact ⟨_, .inl rfl, rfl⟩
  · exact ⟨_, .inr rfl, rfl⟩
theorem filter_eq (m : Nat) : ∀ n : Nat, (List.range n).filter (fun j => decide (j = m)) = if m < n then [m] else []
  | 0 => rfl
  | n + 1 => by
    rw [List.range_succ, List.filter_append, filter_eq m n, List.filter_cons, List.filter_nil]
    by_cases h : m < n
    · rw [if_pos h, if_pos (Nat.lt_succ_of_lt h), decide_eq_false (show ¬ n = m by omega)]
      rfl
    · rw [if_neg h]
      by_cases h2 : n = m
      · rw [decide_eq_true h2, if_pos (show m < n + 1 by omega), h2]
        rfl
      · rw [decide_eq_false h2, if_neg (show ¬ m < n + 1 by omega)]
        rfl
theorem pkL_pl {i : Int} (h : 0 ≤ i) (rs : List Rw) : pkL (.pl i) rs = if i < (rs.length : Int) then [i.toNat] else [] := by
  obtain ⟨m, rfl⟩ : ∃ m : Nat, i = (m : Int) := ⟨i.toNat, by omega⟩
  have hf : (List.range rs.length).filter (suAt (.pl (m : Int)) rs) = (List.range rs.length).filter (fun j => decide (j = m)) := by
    apply List.filter_congr
    intro j hj
    have hj := List.mem_range.mp hj
    unfold suAt
    rw [List.getElem?_eq_getElem hj]
    show decide ((j : Int) = (m : Int)) = _
    by_cases h2 : j = m
    · rw [decide_eq_true h2, decide_eq_true (show (j : Int) = (m : Int) by omega)]
    · rw [decide_eq_false h2, decide_eq_false (show ¬ (j : Int) = (m : Int) by omega)]
  unfold pkL
  rw [hf, filter_eq]
  by_cases h3 : m < rs.length
  · rw [if_pos h3, if_pos (show (m : Int) < (rs.length : Int) by omega)]
    rfl
  · rw [if_neg h3, if_neg (show ¬ (m : Int) < (rs.length : Int) by omega)]
    rfl
theorem pkL_last (rs : List Rw) : pkL .last rs = (List.range rs.length).drop (rs.length - 1) := by
  have hf : (List.range rs.length).filter (suAt .last rs) = List.range rs.length := by
    apply List.filter_eq_self.mpr
    intro j hj
    have hj := List.mem_range.mp hj
    unfold suAt
    rw [List.getElem?_eq_getElem hj]
    rfl
  unfold pkL
  rw [hf]
  show List.drop ((List.range rs.length).length - 1) _ = _
  rw [List.length_range]
section
variable {P : Program} {w : World} {K : PySem.W.Frag} {mg : Str → Option Value} {base : Heap}
def tK (ts : List Str) : Pk → Prop
  | .like a => isR a.1 = true ∧ (a.2.1 = "" ∨ a.2.1 ∈ ts) ∧ (a.2.2 = "" ∨ a.2.2 ∈ ts)
  | .all a => isR a.1 = true ∧ (a.2.1 = "" ∨ a.2.1 ∈ ts) ∧ (a.2.2 = "" ∨ a.2.2 ∈ ts)
  | _ => True
def spPick : Sp := fun vs H Q _ => ∃ (b : Addr) (v : V) (ns ts : List Str) (m : Int), vs = [.ref b, v, .int m, .bl false] ∧ BagAt H b ∧ WorldAt H v ns ts ∧ WOk ns ts ∧ 0 ≤ m ∧ m ≤ 100 ∧ ∀ (H' : Hp) (u : V) (k : Pk), Ex H H' → PkAt H' u k → gK k → tK ts k → Q u H'
theorem ok_pick (T : Txt0 mg) (D : Df K mg "_law_pick" s_l_pick) (c_l_take : CalG P w K mg base 1 "_law_take" spTake) (c_l_some : CalG P w K mg base 2 "_law_some" (spSome K)) (c_l_pattern : CalG P w K mg base 4 "_law_pattern" spPattern) : CalG P w K mg base 5 "_law_pick" spPick := by
  refine cal_mk D sc_l_pick (fun _ _ _ _ _ _ us hl => match us, hl with | [_, _, _, _], _ => rfl) (fun vs H Q E h => ?_) (fun f cdv A outer s H vs Q E hr hG h => ?_)
  · obtain ⟨b, v, ns, ts, m, rfl, _⟩ := h
    rfl
  · obtain ⟨b, _, ns, ts, m, rfl, hb, ⟨d, pn, pt, kvs, rfl, hd, hkn, hkt, hpn, hpt⟩, hw, m0, m1, q⟩ := h
    refine ⟨_, (pss_cons (ps_set (i := 4) sc_l_pick.nd rfl (Or.inl rfl) (pe_cG c_l_take hr hG (by decide) rfl (pa_cons (pv 0) (pa_cons (pe_op op_sub pe_int (pe_callTy call_int1 (by rfl) T.int (by decide +kernel) (pa_cons (pv 3) pa_nil))) pa_nil))))
      (pss_cons (ps_if (pt_cmpR (opEq hr) (pv 4) pe_int (nomark _)) (pss_one (ps_ret (pe_tup (pa_cons pe_str (pa_cons (pe_cG c_l_some hr hG (by decide) rfl (pa_cons (pv 0) (pa_cons (pe_dget (hu_of hr) (pv 1) pe_str (fun _ _ => rfl)) pa_nil))) pa_nil))))) pss_nil)
      (pss_cons (ps_if (pt_cmpR (opEq hr) (pv 4) pe_int (nomark _)) (pss_one (ps_ret (pe_ifExp (pt_cmpR (opEq hr) (pe_cG c_l_take hr hG (by decide) rfl (pa_cons (pv 0) (pa_cons pe_int pa_nil))) pe_int (nomark _)) (pe_tup (pa_cons pe_str (pa_cons (pe_cG c_l_take hr hG (by decide) rfl (pa_cons (pv 0) (pa_cons (pe_op opAdd (pv 2) pe_int) pa_nil))) pa_nil))) (pe_tup (pa_cons pe_str pa_nil))))) pss_nil)
      (pss_one (ps_ret (pe_tup (pa_cons (pe_ix ixAny (pe_lst (pa_cons pe_str (pa_cons pe_str (pa_cons pe_str pa_nil)))) (pe_op op_sub (pv 4) pe_int) (fun _ _ => rfl)) (pa_cons (pe_cG c_l_pattern hr hG (by decide) rfl (pa_cons (pv 0) (pa_cons (pe_dget (hu_of hr) (pv 1) pe_str (fun _ _ => rfl)) pa_nil))) pa_nil)))))))), ?_⟩
    have hn3 := hw.n
    have ht2 := hw.t2
    have ht4 := hw.t4
    refine ⟨_, rfl, _, rfl, .inr ⟨false, rfl, ?_⟩⟩
    refine ⟨_, _, rfl, rfl, ?_⟩
    refine ⟨b, 5, rfl, hb, by decide, by decide, fun H1 r r0 r1 e1 => ?_⟩
    refine ⟨_, rfl, .inl ⟨rfl, _, rfl, ?_⟩⟩
    rw [int_dec]
    by_cases z0 : r = 0
    · rw [decide_eq_true z0]
      refine iteT ?_
      refine ⟨_, rfl, _, rfl, d, .ref pn, rfl, .inl ⟨kvs, Sum.inr "names", .inl (e1 _ _ hd), rfl, hkn.symm⟩, ?_⟩
      refine ⟨b, pn, _, rfl, hb.ex e1, .inl (sq_of (e1 _ _ hpn)), (fun e => by have z := congrArg List.length e; rw [List.length_map] at z; rw [hn3] at z; cases z), by rw [List.length_map]; omega, fun H2 i x e2 hx => ?_⟩
      obtain ⟨nm, hnm, rfl⟩ := str_at hx
      refine ⟨by show 2 ≤ sizeLine; decide, fun t ht => ?_⟩
      exact q _ _ (.nm nm) ((e1.trans e2).trans (Ex.new ht)) ⟨t, rfl, upd_same⟩ (hw.nn _ (List.mem_of_getElem? hnm)) trivial
    · rw [decide_eq_false z0]
      refine iteF ?_
      refine ⟨_, rfl, .inl ⟨rfl, _, rfl, ?_⟩⟩
      rw [int_dec]
      by_cases z1 : r = 1
      · rw [decide_eq_true z1]
        refine iteT ?_
        refine ⟨_, rfl, b, 2, rfl, hb.ex e1, by decide, by decide, fun H2 r2 _ _ e2 => .inl ⟨rfl, _, rfl, ?_⟩⟩
        refine ite2 (fun _ => ?_) (fun _ => ?_)
        · refine ⟨_, rfl, _, rfl, .inl ⟨m, 1, rfl, rfl, ?_⟩⟩
          refine ⟨b, _, rfl, hb.ex (e1.trans e2), by omega, by omega, fun H3 r3 q0 q1 e3 => ?_⟩
          refine ⟨by show 2 ≤ sizeLine; decide, fun t ht => ?_⟩
          exact q _ _ (.pl r3) (((e1.trans e2).trans e3).trans (Ex.new ht)) ⟨t, rfl, upd_same⟩ q0 trivial
        · refine ⟨by show 1 ≤ sizeLine; decide, fun t ht => ?_⟩
          exact q _ _ .last ((e1.trans e2).trans (Ex.new ht)) ⟨t, rfl, upd_same⟩ trivial trivial
      · rw [decide_eq_false z1]
        refine iteF ?_
        obtain ⟨z, hz, hat⟩ := three_w (r := r) (by omega) (by omega)
        refine ⟨by show 3 ≤ sizeLine; decide, fun l hl => ?_⟩
        generalize hq2 : upd H1 l _ = H2
        obtain ⟨e2, h2⟩ := gen1 hq2 hl
        refine ⟨_, rfl, _, _, rfl, rfl, .inl ⟨l, _, _, _, rfl, rfl, sq_of h2, hat, ?_⟩⟩
        have e12 := e1.trans e2
        refine ⟨_, rfl, _, rfl, d, .ref pt, rfl, .inl ⟨kvs, Sum.inr "things", .inl (e12 _ _ hd), rfl, hkt.symm⟩, ?_⟩
        refine ⟨b, pt, ts, rfl, hb.ex e12, e12 _ _ hpt, (fun e => by rw [e] at ht2; exact absurd ht2 (by decide)), by omega, fun H3 va a e3 ha hR h1 h2 => ?_⟩
        refine ⟨by show 2 ≤ sizeLine; decide, fun t ht => ?_⟩
        have ga : gA a := gA_of hw.nt hR h1 h2
        rcases hz with rfl | rfl
        · exact q _ _ (.like a) ((e12.trans e3).trans (Ex.new ht)) ⟨t, va, rfl, upd_same, ha.ex (Ex.new ht)⟩ ga ⟨hR, h1, h2⟩
        · exact q _ _ (.all a) ((e12.trans e3).trans (Ex.new ht)) ⟨t, va, rfl, upd_same, ha.ex (Ex.new ht)⟩ ga ⟨hR, h1, h2⟩
def spBare : Sp := fun vs H Q _ => ∃ (v : V) (k : Pk), vs = [v] ∧ PkAt H v k ∧ Q v H
theorem ok_bare (T : Txt0 mg) (D : Df K mg "_law_bare" s_l_bare) : CalG P w K mg base 1 "_law_bare" spBare := by
  refine cal_mk D sc_l_bare (fun _ _ _ _ _ _ us hl => match us, hl with | [_], _ => rfl) (fun vs H Q E h => ?_) (fun f cdv A outer s H vs Q E hr hG h => ?_)
  · obtain ⟨v, k, rfl, _⟩ := h
    rfl
  · obtain ⟨v, k, rfl, hv, q⟩ := h
    refine ⟨_, (pss_one (ps_ret (pe_ifExp (pt_cmpR (opEq hr) (pe_ix ixAny (pv 0) pe_int (fun _ _ => rfl)) pe_str (nomark _)) (pe_ix ixAny (pv 0) pe_int (fun _ _ => rfl)) (pv 0)))), ?_⟩
    obtain ⟨p, z, xs, rfl, hp, _, hz⟩ := hv.word
    refine ⟨_, rfl, .inr (.inl ⟨p, _, 0, _, rfl, rfl, st_of hp, atI_nat (j := 0) rfl, ?_⟩)⟩
    refine .inl ⟨rfl, _, rfl, ?_⟩
    rw [s_ne hz]
    exact iteF ⟨_, rfl, q⟩
def spLPicked : Sp := fun vs H Q _ => ∃ (v : V) (p : Addr) (us : List V) (k : Pk) (rs : List Rw), vs = [v, .ref p] ∧ PkAt H v k ∧ gK k ∧ H p = some (.lst us) ∧ AllRw H us rs ∧ (∀ r ∈ rs, gR r) ∧ rs.length ≤ 100 ∧
  ∀ (H' : Hp) (l : Addr), Ex H H' → H' l = some (.lst ((pkL k rs).map nV)) → Q (.ref l) H'
theorem ok_lpicked (T : Txt0 mg) (D : Df K mg "_law_picked" s_l_picked) (c_l_bare : CalG P w K mg base 1 "_law_bare" spBare) (c_l_fits_fact : CalG P w K mg base 2 "_law_fits_fact" spFitsFL) : CalG P w K mg base 3 "_law_picked" spLPicked := by
  refine cal_mk D sc_l_picked (fun _ _ _ _ _ _ us hl => match us, hl with | [_, _], _ => rfl) (fun vs H Q E h => ?_) (fun f cdv A outer s H vs Q E hr hG h => ?_)
  · obtain ⟨v, p, us, k, rs, rfl, _⟩ := h
    rfl
  · obtain ⟨v, p, us, k, rs, rfl, hv, gk, hp, hrs, hg, hl, q⟩ := h
    refine ⟨_, (pss_cons (ps_set (i := 2) sc_l_picked.nd rfl (Or.inl rfl) (pe_ix ixAny (pe_cG c_l_bare hr hG (by decide) rfl (pa_cons (pv 0) pa_nil)) pe_int (fun _ _ => rfl)))
      (pss_cons (ps_set (i := 3) sc_l_picked.nd rfl (Or.inr rfl) (pe_ix ixAny (pe_op opAdd (pe_cG c_l_bare hr hG (by decide) rfl (pa_cons (pv 0) pa_nil)) (pe_tup (pa_cons pe_str pa_nil))) pe_int (fun _ _ => rfl)))
      (pss_cons (ps_set (i := 4) sc_l_picked.nd rfl (Or.inl rfl) (pe_listRg rfl (by rfl) T.list (prg_1 (by rfl) T.range (pe_callB callLen (by rfl) T.len PySem.boot_len (pa_cons (pv 1) pa_nil)))))
      (Evl.pss_cut (ps_if (pt_cmpR (opEq hr) (pv 2) pe_str (nomark _)) (pss_one (ps_setLcO (ps_setLc (i := 4) (own := [("_law_k", 5)]) rfl sc_l_picked.nd rfl rfl (sw_true rfl rfl rfl (by decide +kernel)) (piAny (pv 4)) (blkOk_by (own := [("_law_k", 5)]) (N := ["_law_pick_here", "_law_rows_here", "_law_word", "_law_thing", "_law_found", "_law_k"]) (sc := defScope s_l_picked) (by first | decide +kernel | kernel_rfl)) (fun _ _ _ _ _ => pg_name (i := 5) sc_l_picked.nd rfl (Or.inl rfl)) (fun _ _ _ _ _ => pts_one (pt_cmpR (opEqB hr) (pe_ix ixAnyB (pe_ix ixAnyB (pv 1) (pv 5) (fun _ _ => rfl)) pe_int (fun _ _ => rfl)) (pv 3) (nomark _))) (fun _ _ _ _ _ => pv 5)))) pss_nil)
      (Evl.pss_cut (ps_if (pt_cmpR opIn (pv 2) (pe_tup (pa_cons pe_str (pa_cons pe_str pa_nil))) rfl) (pss_one (ps_setLcO (ps_setLc (i := 4) (own := [("_law_k", 5)]) rfl sc_l_picked.nd rfl rfl (sw_true rfl rfl rfl (by decide +kernel)) (piAny (pv 4)) (blkOk_by (own := [("_law_k", 5)]) (N := ["_law_pick_here", "_law_rows_here", "_law_word", "_law_thing", "_law_found", "_law_k"]) (sc := defScope s_l_picked) (by first | decide +kernel | kernel_rfl)) (fun _ _ _ _ _ => pg_name (i := 5) sc_l_picked.nd rfl (Or.inl rfl)) (fun _ _ _ _ _ => pts_one (pt_val (pe_cG c_l_fits_fact hr hG (by decide) rfl (pa_cons (pv 3) (pa_cons (pe_ix ixAnyB (pe_ix ixAnyB (pv 1) (pv 5) (fun _ _ => rfl)) pe_int (fun _ _ => rfl)) pa_nil))))) (fun _ _ _ _ _ => pv 5)))) pss_nil)
      (pss_cons (ps_if (pt_cmpR (opEq hr) (pv 2) pe_str (nomark _)) (pss_one (ps_ret (pe_op opMul (pe_lst (pa_cons (pv 3) pa_nil)) (pe_callTy call_int1 (by rfl) T.int (by decide +kernel) (pa_cons (pe_cmpR opLt (pv 3) (pe_callB callLen (by rfl) T.len PySem.boot_len (pa_cons (pv 1) pa_nil)) (nomark _)) pa_nil))))) pss_nil)
      (pss_one (ps_ret (pe_ifExp (pt_cmpR (opEq hr) (pv 2) pe_str (nomark _)) (pv 4) (pe_slice slAny (pv 4) (po_some (pe_un un_neg pe_int)) po_none)))))))))), ?_⟩
    have hul := hrs.len
    have hv0 := hv
    cases k with
    | nm z =>
      obtain ⟨pp, rfl, hpp⟩ := hv
      refine ⟨_, rfl, _, _, rfl, hv0, .inr (.inl ⟨pp, _, 0, _, rfl, rfl, st_of hpp, atI_nat (j := 0) rfl, ?_⟩)⟩
      refine ⟨_, rfl, _, _, rfl, hv0, by show 1 ≤ sizeLine; decide, fun t1 ht1 => ?_⟩
      generalize hq1 : upd H t1 _ = H1
      obtain ⟨e1, h1⟩ := gen1 hq1 ht1
      refine .inr (.inr (.inr ⟨pp, t1, _, _, rfl, rfl, st_of (e1 _ _ hpp), st_of h1, by show 2 + 1 ≤ sizeLine; decide, (fun z => by cases z), (fun _ z => by cases z), fun _ _ t2 ht2 => ?_⟩))
      generalize hq2 : upd H1 t2 _ = H2
      obtain ⟨e2, h2⟩ := gen1 hq2 ht2
      refine .inr (.inl ⟨t2, _, 1, _, rfl, rfl, st_of h2, atI_nat (j := 1) rfl, ?_⟩)
      have e12 := e1.trans e2
      refine ⟨_, rfl, .inl ⟨p, us, rfl, .inl (sq_of (e12 _ _ hp)), ?_⟩⟩
      refine ⟨_, rfl, RgOk.of_le (by decide) (by omega) (by decide) (by omega), fun l1 hl1 => ?_⟩
      generalize hq3 : upd H2 l1 _ = H3
      obtain ⟨e3, h3⟩ := gen1 hq3 hl1
      rw [rg_nV, hul] at h3
      have e13 := e12.trans e3
      refine ⟨fun σ' H' => ∃ l2, σ' = [some (.ref pp), some (.ref p), some (.str "name"), some (.str z), some (.ref l2), none] ∧ Ex H H' ∧ H' l2 = some (.lst (((List.range rs.length).filter (suAt (.nm z) rs)).map nV)), ?_, ?_⟩
      · refine ⟨_, rfl, .inl ⟨rfl, _, rfl, ?_⟩⟩
        rw [s_eq]
        refine iteT ?_
        refine .inl ⟨_, rfl, l1, rfl, ⟨_, sq_of h3⟩, ?_⟩
        refine lcG (walk_list (xs := (List.range rs.length).map nV)) (by rw [List.length_map, List.length_range]; omega) (sq_of h3) (fun _ _ e h => ex_l e h) yAt_ex (fun i ys _ => ys = (((List.range rs.length).take i).filter (suAt (.nm z) rs)).map nV) (fun _ _ _ _ _ h => h) rfl ?_ ?_
        · rintro j x H4 H5 ys hj e4 ⟨rfl, hx⟩ rfl N N0 kN kN0
          have hjn : j < rs.length := by rw [List.length_map, List.length_range] at hj; exact hj
          rw [List.getElem?_map, List.getElem?_range hjn] at hx
          cases hx
          have hju : j < us.length := by omega
          obtain ⟨r, hr1, hr2⟩ := hrs.at (List.getElem?_eq_getElem hju)
          have e14 := e13.trans e4
          obtain ⟨pr, vf, hvr, hpr, hf⟩ := hr2.tex (TEx.of e14)
          have hsu : (suAt (.nm z) rs) j = suitB (.nm z) (j : Int) r := by
            show suAt _ rs j = _
            unfold suAt
            rw [hr1]
          have hgo : ∀ b, (suAt (.nm z) rs) j = b → (((List.range rs.length).take (j + 1)).filter (suAt (.nm z) rs)).map nV = (((List.range rs.length).take j).filter (suAt (.nm z) rs)).map nV ++ (if b = true then [nV j] else []) := fun b hb => by
            rw [List.take_add_one, List.getElem?_range hjn, Option.toList, List.filter_append, List.map_append, List.filter_cons, hb]
            cases b <;> rfl
          have hxj : atI us (j : Int) = some (.ref pr) := atI_nat (j := j) (by rw [List.getElem?_eq_getElem hju, hvr])
          refine ⟨rfl, ?_⟩
          refine ⟨_, rfl, _, rfl, .inl ⟨p, us, (j : Int), _, rfl, rfl, sq_of (e14 _ _ hp), hxj, .inr (.inl ⟨pr, _, 0, _, rfl, rfl, st_of hpr, atI_nat (j := 0) rfl, ⟨_, rfl, .inl ⟨rfl, _, rfl, ?_⟩⟩⟩)⟩⟩
          rw [show decide (V.str r.1 = V.str z) = (suAt (.nm z) rs) j from by rw [str_dec, hsu]; rfl]
          cases hs : (suAt (.nm z) rs) j with
          | true => exact iteT ⟨_, rfl, kN _ _ (Ex.refl _) (hgo _ hs).symm⟩
          | false => exact iteF (kN0 _ (Ex.refl _) (by rw [hgo _ hs]; simp))
        · rintro l2 H4 ys hl2 e4 h4 _ rfl
          rw [List.length_map, List.length_range, show (List.range rs.length).take rs.length = List.range rs.length from List.take_of_length_le (by rw [List.length_range]; exact Nat.le_refl _)] at h4
          exact ⟨l2, rfl, e13.trans e4, h4⟩
      · clear hq1 hq2 hq3 h3 e3 hl1 e13
        rintro σ' H3 ⟨l1, rfl, e13, h3⟩
        refine ⟨fun σ' H' => ∃ l2, σ' = [some (.ref pp), some (.ref p), some (.str "name"), some (.str z), some (.ref l2), none] ∧ Ex H H' ∧ H' l2 = some (.lst (((List.range rs.length).filter (suAt (.nm z) rs)).map nV)), ?_, ?_⟩
        · refine ⟨_, rfl, by show 2 ≤ sizeLine; decide, fun t3 ht3 => ?_⟩
          generalize hq4 : upd H3 t3 _ = H4
          obtain ⟨e4, h4⟩ := gen1 hq4 ht3
          refine .inl ⟨t3, _, rfl, .inr (st_of h4), rfl, rfl, _, rfl, ?_⟩
          exact ite_off (by decide +kernel) ⟨l1, rfl, e13.trans e4, e4 _ _ h3⟩
        · rintro σ' H4 ⟨l2, rfl, e4, h4⟩
          refine ⟨_, rfl, .inl ⟨rfl, _, rfl, ?_⟩⟩
          rw [s_ne (by decide +kernel)]
          refine iteF ?_
          refine ⟨_, rfl, .inl ⟨rfl, _, rfl, ?_⟩⟩
          rw [s_ne (by decide +kernel)]
          refine iteF ⟨_, rfl, _, rfl, _, rfl, .inl ⟨l2, _, rfl, sq_of h4, fun l3 hl3 => ?_⟩⟩
          refine q _ _ (e4.trans (Ex.new hl3)) ?_
          rw [upd_same, show (-1 : Int) = -1 from rfl, cut_last, List.length_map, ← List.map_drop]
          rfl
    | pl i =>
      obtain ⟨pp, rfl, hpp⟩ := hv
      refine ⟨_, rfl, _, _, rfl, hv0, .inr (.inl ⟨pp, _, 0, _, rfl, rfl, st_of hpp, atI_nat (j := 0) rfl, ?_⟩)⟩
      refine ⟨_, rfl, _, _, rfl, hv0, by show 1 ≤ sizeLine; decide, fun t1 ht1 => ?_⟩
      generalize hq1 : upd H t1 _ = H1
      obtain ⟨e1, h1⟩ := gen1 hq1 ht1
      refine .inr (.inr (.inr ⟨pp, t1, _, _, rfl, rfl, st_of (e1 _ _ hpp), st_of h1, by show 2 + 1 ≤ sizeLine; decide, (fun z => by cases z), (fun _ z => by cases z), fun _ _ t2 ht2 => ?_⟩))
      generalize hq2 : upd H1 t2 _ = H2
      obtain ⟨e2, h2⟩ := gen1 hq2 ht2
      refine .inr (.inl ⟨t2, _, 1, _, rfl, rfl, st_of h2, atI_nat (j := 1) rfl, ?_⟩)
      have e12 := e1.trans e2
      refine ⟨_, rfl, .inl ⟨p, us, rfl, .inl (sq_of (e12 _ _ hp)), ?_⟩⟩
      refine ⟨_, rfl, RgOk.of_le (by decide) (by omega) (by decide) (by omega), fun l1 hl1 => ?_⟩
      generalize hq3 : upd H2 l1 _ = H3
      obtain ⟨e3, h3⟩ := gen1 hq3 hl1
      rw [rg_nV, hul] at h3
      have e13 := e12.trans e3
      refine ⟨fun σ' H' => ∃ l2, σ' = [some (.ref pp), some (.ref p), some (.str "at"), some (.int i), some (.ref l2), none] ∧ Ex H H' ∧ H' l2 = some (.lst ((List.range rs.length).map nV)), ?_, ?_⟩
      · refine ⟨_, rfl, .inl ⟨rfl, _, rfl, ?_⟩⟩
        rw [s_ne (by decide +kernel)]
        exact iteF ⟨l1, rfl, e13, h3⟩
      · clear hq1 hq2 hq3 h3 e3 hl1 e13
        rintro σ' H3 ⟨l1, rfl, e13, h3⟩
        refine ⟨fun σ' H' => ∃ l2, σ' = [some (.ref pp), some (.ref p), some (.str "at"), some (.int i), some (.ref l2), none] ∧ Ex H H' ∧ H' l2 = some (.lst ((List.range rs.length).map nV)), ?_, ?_⟩
        · refine ⟨_, rfl, by show 2 ≤ sizeLine; decide, fun t3 ht3 => ?_⟩
          generalize hq4 : upd H3 t3 _ = H4
          obtain ⟨e4, h4⟩ := gen1 hq4 ht3
          refine .inl ⟨t3, _, rfl, .inr (st_of h4), rfl, rfl, _, rfl, ?_⟩
          exact ite_off (by decide +kernel) ⟨l1, rfl, e13.trans e4, e4 _ _ h3⟩
        · rintro σ' H4 ⟨l2, rfl, e4, h4⟩
          refine ⟨_, rfl, .inl ⟨rfl, _, rfl, ?_⟩⟩
          rw [s_eq]
          refine iteT ?_
          refine ⟨_, rfl, by show 1 ≤ sizeLine; decide, fun l5 hl5 => ?_⟩
          generalize hq5 : upd H4 l5 _ = H5
          obtain ⟨e5, h5⟩ := gen1 hq5 hl5
          refine ⟨_, rfl, _, rfl, .inl ⟨p, us, rfl, .inl (sq_of (e5 _ _ (e4 _ _ hp))), ?_⟩⟩
          refine ⟨_, _, rfl, rfl, .inr ⟨_, rfl, ?_⟩⟩
          obtain ⟨kk, hkk, hk1, hk2⟩ : ∃ kk : Nat, (if decide (i < (us.length : Int)) = true then (1 : Int) else 0) = (kk : Int) ∧ kk ≤ 1 ∧ (List.replicate kk [V.int i]).flatten = (pkL (.pl i) rs).map nV := by
            rw [pkL_pl gk, ← hul]
            by_cases hz : i < (us.length : Int)
            · have gk : 0 ≤ i := gk
              refine ⟨1, by rw [decide_eq_true hz]; rfl, Nat.le_refl _, ?_⟩
              rw [if_pos hz]
              show [V.int i] = [V.int ((i.toNat : Nat) : Int)]
              rw [Int.toNat_of_nonneg gk]
            · refine ⟨0, by rw [decide_eq_false hz]; rfl, Nat.zero_le _, ?_⟩
              rw [if_neg hz]
              rfl
          refine .inr ⟨l5, (kk : Int), [.int i], rfl, by rw [hkk], h5, by omega, by omega, ?_, fun l6 hl6 => ?_⟩
          · refine sz_of ?_
            rw [Int.toNat_natCast]
            show 1 * kk ≤ _
            omega
          · refine q _ _ ((e4.trans e5).trans (Ex.new hl6)) ?_
            rw [upd_same, Int.toNat_natCast, hk2]
    | last =>
      obtain ⟨pp, rfl, hpp⟩ := hv
      refine ⟨_, rfl, _, _, rfl, hv0, .inr (.inl ⟨pp, _, 0, _, rfl, rfl, st_of hpp, atI_nat (j := 0) rfl, ?_⟩)⟩
      refine ⟨_, rfl, _, _, rfl, hv0, by show 1 ≤ sizeLine; decide, fun t1 ht1 => ?_⟩
      generalize hq1 : upd H t1 _ = H1
      obtain ⟨e1, h1⟩ := gen1 hq1 ht1
      refine .inr (.inr (.inr ⟨pp, t1, _, _, rfl, rfl, st_of (e1 _ _ hpp), st_of h1, by show 1 + 1 ≤ sizeLine; decide, (fun z => by cases z), (fun _ z => by cases z), fun _ _ t2 ht2 => ?_⟩))
      generalize hq2 : upd H1 t2 _ = H2
      obtain ⟨e2, h2⟩ := gen1 hq2 ht2
      refine .inr (.inl ⟨t2, _, 1, _, rfl, rfl, st_of h2, atI_nat (j := 1) rfl, ?_⟩)
      have e12 := e1.trans e2
      refine ⟨_, rfl, .inl ⟨p, us, rfl, .inl (sq_of (e12 _ _ hp)), ?_⟩⟩
      refine ⟨_, rfl, RgOk.of_le (by decide) (by omega) (by decide) (by omega), fun l1 hl1 => ?_⟩
      generalize hq3 : upd H2 l1 _ = H3
      obtain ⟨e3, h3⟩ := gen1 hq3 hl1
      rw [rg_nV, hul] at h3
      have e13 := e12.trans e3
      refine ⟨fun σ' H' => ∃ l2, σ' = [some (.ref pp), some (.ref p), some (.str "last"), some (.str ""), some (.ref l2), none] ∧ Ex H H' ∧ H' l2 = some (.lst ((List.range rs.length).map nV)), ?_, ?_⟩
      · refine ⟨_, rfl, .inl ⟨rfl, _, rfl, ?_⟩⟩
        rw [s_ne (by decide +kernel)]
        exact iteF ⟨l1, rfl, e13, h3⟩
      · clear hq1 hq2 hq3 h3 e3 hl1 e13
        rintro σ' H3 ⟨l1, rfl, e13, h3⟩
        refine ⟨fun σ' H' => ∃ l2, σ' = [some (.ref pp), some (.ref p), some (.str "last"), some (.str ""), some (.ref l2), none] ∧ Ex H H' ∧ H' l2 = some (.lst ((List.range rs.length).map nV)), ?_, ?_⟩
        · refine ⟨_, rfl, by show 2 ≤ sizeLine; decide, fun t3 ht3 => ?_⟩
          generalize hq4 : upd H3 t3 _ = H4
          obtain ⟨e4, h4⟩ := gen1 hq4 ht3
          refine .inl ⟨t3, _, rfl, .inr (st_of h4), rfl, rfl, _, rfl, ?_⟩
          exact ite_off (by decide +kernel) ⟨l1, rfl, e13.trans e4, e4 _ _ h3⟩
        · rintro σ' H4 ⟨l2, rfl, e4, h4⟩
          refine ⟨_, rfl, .inl ⟨rfl, _, rfl, ?_⟩⟩
          rw [s_ne (by decide +kernel)]
          refine iteF ?_
          refine ⟨_, rfl, .inl ⟨rfl, _, rfl, ?_⟩⟩
          rw [s_ne (by decide +kernel)]
          refine iteF ⟨_, rfl, _, rfl, _, rfl, .inl ⟨l2, _, rfl, sq_of h4, fun l3 hl3 => ?_⟩⟩
          refine q _ _ (e4.trans (Ex.new hl3)) ?_
          rw [upd_same, show (-1 : Int) = -1 from rfl, cut_last, List.length_map, ← List.map_drop]
          rw [pkL_last, List.length_range]
    | like a =>
      obtain ⟨pp, u, rfl, hpp, hu⟩ := hv
      refine ⟨_, rfl, _, _, rfl, hv0, .inr (.inl ⟨pp, _, 0, _, rfl, rfl, st_of hpp, atI_nat (j := 0) rfl, ?_⟩)⟩
      refine ⟨_, rfl, _, _, rfl, hv0, by show 1 ≤ sizeLine; decide, fun t1 ht1 => ?_⟩
      generalize hq1 : upd H t1 _ = H1
      obtain ⟨e1, h1⟩ := gen1 hq1 ht1
      refine .inr (.inr (.inr ⟨pp, t1, _, _, rfl, rfl, st_of (e1 _ _ hpp), st_of h1, by show 2 + 1 ≤ sizeLine; decide, (fun z => by cases z), (fun _ z => by cases z), fun _ _ t2 ht2 => ?_⟩))
      generalize hq2 : upd H1 t2 _ = H2
      obtain ⟨e2, h2⟩ := gen1 hq2 ht2
      refine .inr (.inl ⟨t2, _, 1, _, rfl, rfl, st_of h2, atI_nat (j := 1) rfl, ?_⟩)
      have e12 := e1.trans e2
      refine ⟨_, rfl, .inl ⟨p, us, rfl, .inl (sq_of (e12 _ _ hp)), ?_⟩⟩
      refine ⟨_, rfl, RgOk.of_le (by decide) (by omega) (by decide) (by omega), fun l1 hl1 => ?_⟩
      generalize hq3 : upd H2 l1 _ = H3
      obtain ⟨e3, h3⟩ := gen1 hq3 hl1
      rw [rg_nV, hul] at h3
      have e13 := e12.trans e3
      refine ⟨fun σ' H' => ∃ l2, σ' = [some (.ref pp), some (.ref p), some (.str "like"), some (u), some (.ref l2), none] ∧ Ex H H' ∧ H' l2 = some (.lst ((List.range rs.length).map nV)), ?_, ?_⟩
      · refine ⟨_, rfl, .inl ⟨rfl, _, rfl, ?_⟩⟩
        rw [s_ne (by decide +kernel)]
        exact iteF ⟨l1, rfl, e13, h3⟩
      · clear hq1 hq2 hq3 h3 e3 hl1 e13
        rintro σ' H3 ⟨l1, rfl, e13, h3⟩
        refine ⟨fun σ' H' => ∃ l2, σ' = [some (.ref pp), some (.ref p), some (.str "like"), some (u), some (.ref l2), none] ∧ Ex H H' ∧ H' l2 = some (.lst (((List.range rs.length).filter (suAt (.like a) rs)).map nV)), ?_, ?_⟩
        · refine ⟨_, rfl, by show 2 ≤ sizeLine; decide, fun t3 ht3 => ?_⟩
          generalize hq4 : upd H3 t3 _ = H4
          obtain ⟨e4, h4⟩ := gen1 hq4 ht3
          refine .inl ⟨t3, _, rfl, .inr (st_of h4), rfl, rfl, _, rfl, ?_⟩
          have h3 := e4 _ _ h3
          have e13 := e13.trans e4
          clear hq4
          refine ite_on (by decide +kernel) ?_
          refine .inl ⟨_, rfl, l1, rfl, ⟨_, sq_of h3⟩, ?_⟩
          refine lcG (walk_list (xs := (List.range rs.length).map nV)) (by rw [List.length_map, List.length_range]; omega) (sq_of h3) (fun _ _ e h => ex_l e h) yAt_ex (fun i ys _ => ys = (((List.range rs.length).take i).filter (suAt (.like a) rs)).map nV) (fun _ _ _ _ _ h => h) rfl ?_ ?_
          · rintro j x H4 H5 ys hj e4 ⟨rfl, hx⟩ rfl N N0 kN kN0
            have hjn : j < rs.length := by rw [List.length_map, List.length_range] at hj; exact hj
            rw [List.getElem?_map, List.getElem?_range hjn] at hx
            cases hx
            have hju : j < us.length := by omega
            obtain ⟨r, hr1, hr2⟩ := hrs.at (List.getElem?_eq_getElem hju)
            have e14 := e13.trans e4
            obtain ⟨pr, vf, hvr, hpr, hf⟩ := hr2.tex (TEx.of e14)
            have hsu : (suAt (.like a) rs) j = suitB (.like a) (j : Int) r := by
              show suAt _ rs j = _
              unfold suAt
              rw [hr1]
            have hgo : ∀ b, (suAt (.like a) rs) j = b → (((List.range rs.length).take (j + 1)).filter (suAt (.like a) rs)).map nV = (((List.range rs.length).take j).filter (suAt (.like a) rs)).map nV ++ (if b = true then [nV j] else []) := fun b hb => by
              rw [List.take_add_one, List.getElem?_range hjn, Option.toList, List.filter_append, List.map_append, List.filter_cons, hb]
              cases b <;> rfl
            have hxj : atI us (j : Int) = some (.ref pr) := atI_nat (j := j) (by rw [List.getElem?_eq_getElem hju, hvr])
            refine ⟨rfl, ?_⟩
            refine ⟨_, rfl, _, rfl, _, rfl, .inl ⟨p, us, (j : Int), _, rfl, rfl, sq_of (e14 _ _ hp), hxj, .inr (.inl ⟨pr, _, 1, _, rfl, rfl, st_of hpr, atI_nat (j := 1) rfl, ?_⟩)⟩⟩
            have hgr := hg r (List.mem_of_getElem? hr1)
            refine ⟨u, vf, a, r.2, rfl, hu.ex e14, hf, hgr.2.1, hgr.2.2, fun H6 e6 => ⟨_, rfl, ?_⟩⟩
            rw [show r.2.any (fitB a) = (suAt (.like a) rs) j from hsu.symm]
            cases hs : (suAt (.like a) rs) j with
            | true => exact iteT ⟨_, rfl, kN _ _ e6 (hgo _ hs).symm⟩
            | false => exact iteF (kN0 _ e6 (by rw [hgo _ hs]; simp))
          · rintro l2 H4 ys hl2 e4 h4 _ rfl
            rw [List.length_map, List.length_range, show (List.range rs.length).take rs.length = List.range rs.length from List.take_of_length_le (by rw [List.length_range]; exact Nat.le_refl _)] at h4
            exact ⟨l2, rfl, e13.trans e4, h4⟩
        · rintro σ' H4 ⟨l2, rfl, e4, h4⟩
          refine ⟨_, rfl, .inl ⟨rfl, _, rfl, ?_⟩⟩
          rw [s_ne (by decide +kernel)]
          refine iteF ?_
          refine ⟨_, rfl, .inl ⟨rfl, _, rfl, ?_⟩⟩
          rw [s_ne (by decide +kernel)]
          refine iteF ⟨_, rfl, _, rfl, _, rfl, .inl ⟨l2, _, rfl, sq_of h4, fun l3 hl3 => ?_⟩⟩
          refine q _ _ (e4.trans (Ex.new hl3)) ?_
          rw [upd_same, show (-1 : Int) = -1 from rfl, cut_last, List.length_map, ← List.map_drop]
          rfl
    | all a =>
      obtain ⟨pp, u, rfl, hpp, hu⟩ := hv
      refine ⟨_, rfl, _, _, rfl, hv0, .inr (.inl ⟨pp, _, 0, _, rfl, rfl, st_of hpp, atI_nat (j := 0) rfl, ?_⟩)⟩
      refine ⟨_, rfl, _, _, rfl, hv0, by show 1 ≤ sizeLine; decide, fun t1 ht1 => ?_⟩
      generalize hq1 : upd H t1 _ = H1
      obtain ⟨e1, h1⟩ := gen1 hq1 ht1
      refine .inr (.inr (.inr ⟨pp, t1, _, _, rfl, rfl, st_of (e1 _ _ hpp), st_of h1, by show 2 + 1 ≤ sizeLine; decide, (fun z => by cases z), (fun _ z => by cases z), fun _ _ t2 ht2 => ?_⟩))
      generalize hq2 : upd H1 t2 _ = H2
      obtain ⟨e2, h2⟩ := gen1 hq2 ht2
      refine .inr (.inl ⟨t2, _, 1, _, rfl, rfl, st_of h2, atI_nat (j := 1) rfl, ?_⟩)
      have e12 := e1.trans e2
      refine ⟨_, rfl, .inl ⟨p, us, rfl, .inl (sq_of (e12 _ _ hp)), ?_⟩⟩
      refine ⟨_, rfl, RgOk.of_le (by decide) (by omega) (by decide) (by omega), fun l1 hl1 => ?_⟩
      generalize hq3 : upd H2 l1 _ = H3
      obtain ⟨e3, h3⟩ := gen1 hq3 hl1
      rw [rg_nV, hul] at h3
      have e13 := e12.trans e3
      refine ⟨fun σ' H' => ∃ l2, σ' = [some (.ref pp), some (.ref p), some (.str "all"), some (u), some (.ref l2), none] ∧ Ex H H' ∧ H' l2 = some (.lst ((List.range rs.length).map nV)), ?_, ?_⟩
      · refine ⟨_, rfl, .inl ⟨rfl, _, rfl, ?_⟩⟩
        rw [s_ne (by decide +kernel)]
        exact iteF ⟨l1, rfl, e13, h3⟩
      · clear hq1 hq2 hq3 h3 e3 hl1 e13
        rintro σ' H3 ⟨l1, rfl, e13, h3⟩
        refine ⟨fun σ' H' => ∃ l2, σ' = [some (.ref pp), some (.ref p), some (.str "all"), some (u), some (.ref l2), none] ∧ Ex H H' ∧ H' l2 = some (.lst (((List.range rs.length).filter (suAt (.all a) rs)).map nV)), ?_, ?_⟩
        · refine ⟨_, rfl, by show 2 ≤ sizeLine; decide, fun t3 ht3 => ?_⟩
          generalize hq4 : upd H3 t3 _ = H4
          obtain ⟨e4, h4⟩ := gen1 hq4 ht3
          refine .inl ⟨t3, _, rfl, .inr (st_of h4), rfl, rfl, _, rfl, ?_⟩
          have h3 := e4 _ _ h3
          have e13 := e13.trans e4
          clear hq4
          refine ite_on (by decide +kernel) ?_
          refine .inl ⟨_, rfl, l1, rfl, ⟨_, sq_of h3⟩, ?_⟩
          refine lcG (walk_list (xs := (List.range rs.length).map nV)) (by rw [List.length_map, List.length_range]; omega) (sq_of h3) (fun _ _ e h => ex_l e h) yAt_ex (fun i ys _ => ys = (((List.range rs.length).take i).filter (suAt (.all a) rs)).map nV) (fun _ _ _ _ _ h => h) rfl ?_ ?_
          · rintro j x H4 H5 ys hj e4 ⟨rfl, hx⟩ rfl N N0 kN kN0
            have hjn : j < rs.length := by rw [List.length_map, List.length_range] at hj; exact hj
            rw [List.getElem?_map, List.getElem?_range hjn] at hx
            cases hx
            have hju : j < us.length := by omega
            obtain ⟨r, hr1, hr2⟩ := hrs.at (List.getElem?_eq_getElem hju)
            have e14 := e13.trans e4
            obtain ⟨pr, vf, hvr, hpr, hf⟩ := hr2.tex (TEx.of e14)
            have hsu : (suAt (.all a) rs) j = suitB (.all a) (j : Int) r := by
              show suAt _ rs j = _
              unfold suAt
              rw [hr1]
            have hgo : ∀ b, (suAt (.all a) rs) j = b → (((List.range rs.length).take (j + 1)).filter (suAt (.all a) rs)).map nV = (((List.range rs.length).take j).filter (suAt (.all a) rs)).map nV ++ (if b = true then [nV j] else []) := fun b hb => by
              rw [List.take_add_one, List.getElem?_range hjn, Option.toList, List.filter_append, List.map_append, List.filter_cons, hb]
              cases b <;> rfl
            have hxj : atI us (j : Int) = some (.ref pr) := atI_nat (j := j) (by rw [List.getElem?_eq_getElem hju, hvr])
            refine ⟨rfl, ?_⟩
            refine ⟨_, rfl, _, rfl, _, rfl, .inl ⟨p, us, (j : Int), _, rfl, rfl, sq_of (e14 _ _ hp), hxj, .inr (.inl ⟨pr, _, 1, _, rfl, rfl, st_of hpr, atI_nat (j := 1) rfl, ?_⟩)⟩⟩
            have hgr := hg r (List.mem_of_getElem? hr1)
            refine ⟨u, vf, a, r.2, rfl, hu.ex e14, hf, hgr.2.1, hgr.2.2, fun H6 e6 => ⟨_, rfl, ?_⟩⟩
            rw [show r.2.any (fitB a) = (suAt (.all a) rs) j from hsu.symm]
            cases hs : (suAt (.all a) rs) j with
            | true => exact iteT ⟨_, rfl, kN _ _ e6 (hgo _ hs).symm⟩
            | false => exact iteF (kN0 _ e6 (by rw [hgo _ hs]; simp))
          · rintro l2 H4 ys hl2 e4 h4 _ rfl
            rw [List.length_map, List.length_range, show (List.range rs.length).take rs.length = List.range rs.length from List.take_of_length_le (by rw [List.length_range]; exact Nat.le_refl _)] at h4
            exact ⟨l2, rfl, e13.trans e4, h4⟩
        · rintro σ' H4 ⟨l2, rfl, e4, h4⟩
          refine ⟨_, rfl, .inl ⟨rfl, _, rfl, ?_⟩⟩
          rw [s_ne (by decide +kernel)]
          refine iteF ?_
          refine ⟨_, rfl, .inl ⟨rfl, _, rfl, ?_⟩⟩
          rw [s_eq]
          exact iteT ⟨_, rfl, q _ _ e4 h4⟩
end
end Own

namespace Own
open PySem PySem.Spec PyProof.Rows L2 Evl
abbrev s_last_as_like : Stmt := top 4
theorem sc_last_as_like : FnScope ["pick"] ["pick"] (defScope s_last_as_like) := ⟨rfl, rfl, rfl, by decide +kernel, rfl, by decide +kernel, by decide +kernel⟩
abbrev s_asked_of : Stmt := top 5
theorem sc_asked_of : FnScope ["pick"] ["pick"] (defScope s_asked_of) := ⟨rfl, rfl, rfl, by decide +kernel, rfl, by decide +kernel, by decide +kernel⟩
abbrev s_surely : Stmt := top 6
theorem sc_surely : FnScope ["one", "other"] ["one", "other"] (defScope s_surely) := ⟨rfl, rfl, rfl, by decide +kernel, rfl, by decide +kernel, by decide +kernel⟩
def AtS (K : PySem.W.Frag) (H : Hp) (v : V) (a : A3) : Prop := ∃ p, v = .ref p ∧ SqT K H p ((sl3 a).map V.str)
def nul : A3 := ("", "", "")
def lal : Pk → Pk | .last => .like nul | k => k
def asked : Pk → A3 | .like a => a | .all a => a | _ => nul
def pkD : Pk → PyData
  | .nm z => .tuple [.str "name", .str z]
  | .pl i => .tuple [.str "at", .int i]
  | .last => .tuple [.str "last"]
  | .like a => .tuple [.str "like", atD a]
  | .all a => .tuple [.str "all", atD a]
theorem PkAt.dp {K : PySem.W.Frag} {H : Hp} {v : V} {k : Pk} (h : PkAt H v k) : Dp K H v (pkD k) := by
  cases k with
  | nm z => obtain ⟨p, rfl, hp⟩ := h; exact .tup (st_of hp) (.cons (.str _) (.cons (.str _) .nil))
  | pl i => obtain ⟨p, rfl, hp⟩ := h; exact .tup (st_of hp) (.cons (.str _) (.cons (.int _) .nil))
  | last => obtain ⟨p, rfl, hp⟩ := h; exact .tup (st_of hp) (.cons (.str _) .nil)
  | like a => obtain ⟨p, u, rfl, hp, hu⟩ := h; exact .tup (st_of hp) (.cons (.str _) (.cons hu.dp .nil))
  | all a => obtain ⟨p, u, rfl, hp, hu⟩ := h; exact .tup (st_of hp) (.cons (.str _) (.cons hu.dp .nil))
theorem shp_k {k : Pk} (h : gK k) : SeqAt.shaped (pkD k) = true := by
  have two : ∀ {z : Str} {d : PyData}, (PyData.str z).canLay0 = true → d.canLay0 = true → d.depth ≤ 1 → SeqAt.shaped (.tuple [.str z, d]) = true := by
    intro z d h1 h2 h3
    unfold SeqAt.shaped
    rw [show (PyData.tuple [.str z, d]).canLay0 = true from by
      show ((PyData.str z).canLay0 && (d.canLay0 && true)) = true
      rw [h1, h2]
      rfl, Bool.true_and]
    refine decide_eq_true ?_
    show max (PyData.depth (.str z)) (max d.depth 0) + 1 ≤ _
    rw [show PyData.depth (.str z) = 0 from rfl]
    exact Nat.le_trans (show max 0 (max d.depth 0) + 1 ≤ 2 by omega) (by decide)
  cases k with
  | nm z => exact two (by decide +kernel) (nm_ok h) (Nat.zero_le _)
  | pl i => exact two (by decide +kernel) rfl (Nat.zero_le _)
  | last => decide +kernel
  | like a =>
    have q := (gA.fin h)
    exact two (by decide +kernel) q.1 q.2.2.1
  | all a =>
    have q := (gA.fin h)
    exact two (by decide +kernel) q.1 q.2.2.1
theorem gK_lal {k : Pk} (h : gK k) : gK (lal k) := by
  cases k with
  | last => exact ⟨by decide +kernel, by decide, by decide, by decide⟩
  | nm z => exact h
  | pl i => exact h
  | like a => exact h
  | all a => exact h
theorem eqv_refl_k (k : Pk) : PyData.eqv (pkD k) (pkD k) = true := by
  cases k with
  | nm z => show (("name" : Str) == "name" && ((z == z) && true)) = true; simp
  | pl i => show (("at" : Str) == "at" && ((i == i) && true)) = true; simp
  | last => decide +kernel
  | like a =>
    show (("like" : Str) == "like" && (PyData.eqv (atD a) (atD a) && true)) = true
    rw [eqv_at, decide_eq_true rfl]
    simp
  | all a =>
    show (("all" : Str) == "all" && (PyData.eqv (atD a) (atD a) && true)) = true
    rw [eqv_at, decide_eq_true rfl]
    simp
theorem eqv_k {k j : Pk} (h : PyData.eqv (pkD k) (pkD j) = true) : k = j := by
  cases k <;> cases j
  case nm.nm z y =>
    have h : (("name" : Str) == "name" && ((z == y) && true)) = true := h
    simp only [Bool.and_eq_true, Bool.and_true, beq_iff_eq] at h
    rw [h.2]
  case pl.pl z y =>
    have h : (("at" : Str) == "at" && ((z == y) && true)) = true := h
    simp only [Bool.and_eq_true, Bool.and_true, beq_iff_eq] at h
    rw [h.2]
  case last.last => rfl
  case like.like a b =>
    have h : (("like" : Str) == "like" && (PyData.eqv (atD a) (atD b) && true)) = true := h
    rw [eqv_at, Bool.and_true, Bool.and_eq_true] at h
    rw [of_decide_eq_true h.2]
  case all.all a b =>
    have h : (("all" : Str) == "all" && (PyData.eqv (atD a) (atD b) && true)) = true := h
    rw [eqv_at, Bool.and_true, Bool.and_eq_true] at h
    rw [of_decide_eq_true h.2]
  all_goals
    exfalso
    first
    | (revert h; exact (fun h => absurd (show (false : Bool) = true from h) (by decide)))
    | (cases h)
def allB (j : Pk) (x : A3) : Bool := match j with | .all q => fitB q x | _ => false
def sureB (k j : Pk) : Bool := PyData.eqv (pkD (lal k)) (pkD (lal j)) || allB j (asked k)
theorem PkAt.ask {H : Hp} {v : V} {k : Pk} (h : PkAt H v k) : ∃ p z xs, v = .ref p ∧ H p = some (.tup (V.str z :: xs)) ∧ ((inV (.str z) [.str "like", .str "all"] = true ∧ ∃ u a, xs = [u] ∧ AtomAt H u a ∧ asked k = a) ∨ (inV (.str z) [.str "like", .str "all"] = false ∧ asked k = nul)) := by
  cases k with
  | nm z => obtain ⟨p, rfl, hp⟩ := h; exact ⟨p, _, _, rfl, hp, .inr ⟨by decide +kernel, rfl⟩⟩
  | pl i => obtain ⟨p, rfl, hp⟩ := h; exact ⟨p, _, _, rfl, hp, .inr ⟨by decide +kernel, rfl⟩⟩
  | last => obtain ⟨p, rfl, hp⟩ := h; exact ⟨p, _, _, rfl, hp, .inr ⟨by decide +kernel, rfl⟩⟩
  | like a => obtain ⟨p, u, rfl, hp, hu⟩ := h; exact ⟨p, _, _, rfl, hp, .inl ⟨by decide +kernel, u, a, rfl, hu, rfl⟩⟩
  | all a => obtain ⟨p, u, rfl, hp, hu⟩ := h; exact ⟨p, _, _, rfl, hp, .inl ⟨by decide +kernel, u, a, rfl, hu, rfl⟩⟩
theorem PkAt.isAllw {H : Hp} {v : V} {k : Pk} {x : A3} (h : PkAt H v k) : ∃ p z xs, v = .ref p ∧ H p = some (.tup (V.str z :: xs)) ∧ ((z = "all" ∧ ∃ u a, xs = [u] ∧ AtomAt H u a ∧ k = .all a) ∨ (z ≠ "all" ∧ allB k x = false)) := by
  cases k with
  | nm z => obtain ⟨p, rfl, hp⟩ := h; exact ⟨p, _, _, rfl, hp, .inr ⟨by decide, rfl⟩⟩
  | pl i => obtain ⟨p, rfl, hp⟩ := h; exact ⟨p, _, _, rfl, hp, .inr ⟨by decide, rfl⟩⟩
  | last => obtain ⟨p, rfl, hp⟩ := h; exact ⟨p, _, _, rfl, hp, .inr ⟨by decide, rfl⟩⟩
  | like a => obtain ⟨p, u, rfl, hp, hu⟩ := h; exact ⟨p, _, _, rfl, hp, .inr ⟨by decide, rfl⟩⟩
  | all a => obtain ⟨p, u, rfl, hp, hu⟩ := h; exact ⟨p, _, _, rfl, hp, .inl ⟨rfl, u, a, rfl, hu, rfl⟩⟩
structure TxtA (K : PySem.W.Frag) (mg : Str → Option Value) (an : Addr) : Prop where
  g_ANYTHING : mg "ANYTHING" = some (.ref an)
  any : ∀ H, SqT K H an ((sl3 nul).map V.str)
  isinstance : mg "isinstance" = none
  bool : mg "bool" = none
section
variable {P : Program} {w : World} {K : PySem.W.Frag} {mg : Str → Option Value} {base : Heap} {an : Addr}
def spNarrowS (K : PySem.W.Frag) : Sp := fun vs H Q _ => ∃ (v u : V) (a b : A3), vs = [v, u] ∧ AtS K H v a ∧ AtS K H u b ∧ ∀ (H' : Hp), Ex H H' → Q (.bl (fitB b a)) H'
theorem ok_narrowerS (T : Txt0 mg) (D : Df K mg "narrower" s_narrower) : CalG P w K mg base 1 "narrower" (spNarrowS K) := by
  refine cal_mk D sc_narrower (fun _ _ _ _ _ _ us hl => match us, hl with | [_, _], _ => rfl) (fun vs H Q E h => ?_) (fun f cdv A outer s H vs Q E hr hG h => ?_)
  · obtain ⟨v, u, p, a, rfl, _⟩ := h
    rfl
  · obtain ⟨_, _, a, p, rfl, ⟨pa, rfl, ha⟩, ⟨pp, rfl, hp⟩, q⟩ := h
    refine ⟨_, (pss_one (ps_ret (pe_callB (cr_all rfl) (by rfl) T.all (by decide +kernel) (pa_cons (pe_lcO (pe_lc (own := [("narrow", 2), ("wide", 3)]) rfl sc_narrower.nd (RZ.pi_zipA (by rfl) T.zip (pa_cons (pv 0) (pa_cons (pv 1) pa_nil))) (blkOk_by (own := [("narrow", 2), ("wide", 3)]) (N := ["one", "other", "narrow", "wide"]) (sc := defScope s_narrower) (by first | decide +kernel | kernel_rfl)) (fun _ _ _ _ _ => pg_tupB (n := 2) rfl (pgs_cons (pg_name (i := 2) sc_narrower.nd rfl (Or.inl rfl) (hf := .inr rfl)) (pgs_cons (pg_name (i := 3) sc_narrower.nd rfl (Or.inl rfl) (hf := .inr rfl)) pgs_nil))) (fun _ _ _ _ _ => pts_nil) (fun _ _ _ _ _ => pe_cmpR opInB (pv 3) (pe_tup (pa_cons pe_str (pa_cons (pv 2) pa_nil))) rfl))) pa_nil)))), ?_⟩
    refine ⟨_, rfl, _, rfl, pa, pp, _, _, rfl, .inr ⟨ha, hp, ?_⟩⟩
    refine lcG (walk_zipT (xs := (sl3 a).map V.str) (ys := (sl3 p).map V.str) (n := 3) rfl) (by decide) ⟨ha, hp⟩ (fun _ _ e h => ⟨ex_t e h.1, ex_t e h.2⟩) yPair_ex (fun i ys _ => ys = ((fitL p a).take i).map V.bl) (fun _ _ _ _ _ h => h) rfl ?_ ?_
    · rintro i x H1 H2 ys hi e ⟨t, u, v, rfl, ht, rfl, hu, hv⟩ rfl N N0 kN kN0
      obtain ⟨y, hy, rfl⟩ := str_at hu
      obtain ⟨z, hz, rfl⟩ := str_at hv
      refine ⟨t, _, rfl, st_of upd_same, rfl, _, _, rfl, _, _, rfl, rfl, rfl, ?_⟩
      refine ⟨_, rfl, _, rfl, by show 2 ≤ sizeLine; decide, fun x hx => .inl ⟨x, _, rfl, .inr (st_of upd_same), rfl, rfl, ?_⟩⟩
      refine kN _ _ (Ex.new hx) ?_
      have hg : (fitL p a)[i]? = some (okp z y) := by
        unfold fitL
        rw [List.getElem?_zipWith, hz, hy]
      rw [List.take_add_one, hg, List.map_append]
      show _ = _ ++ [V.bl (okp z y)]
      congr 2
      show V.bl (((("" : Str) == z) || ((y == z) || false))) = V.bl (okp z y)
      rw [Bool.or_false]
      rfl
    · rintro l H1 ys hl e1 h1 _ rfl
      exact ⟨l, (fitL p a), rfl, sq_of h1, q _ e1⟩
def spLal (K : PySem.W.Frag) : Sp := fun vs H Q _ => ∃ (v : V) (k : Pk), vs = [v] ∧ PkAt H v k ∧ gK k ∧ ∀ (H' : Hp) (u : V), Ex H H' → (∀ H2, Ex H' H2 → Dp K H2 u (pkD (lal k))) → Q u H'
theorem ok_lal (T : Txt0 mg) (TI : TxtA K mg an) (D : Df K mg "last_as_like" s_last_as_like) : CalG P w K mg base 1 "last_as_like" (spLal K) := by
  refine cal_mk D sc_last_as_like (fun _ _ _ _ _ _ us hl => match us, hl with | [_], _ => rfl) (fun vs H Q E h => ?_) (fun f cdv A outer s H vs Q E hr hG h => ?_)
  · obtain ⟨v, k, rfl, _⟩ := h
    rfl
  · obtain ⟨v, k, rfl, hv, hk, q⟩ := h
    refine ⟨_, (pss_one (ps_ret (pe_ifExp (pt_cmpR (opEq hr) (pv 0) (pe_tup (pa_cons pe_str pa_nil)) (nomark _)) (pe_tup (pa_cons pe_str (pa_cons (pe_glob (v := .ref _) rfl TI.g_ANYTHING rfl) pa_nil))) (pv 0)))), ?_⟩
    refine ⟨_, rfl, by show 1 ≤ sizeLine; decide, fun t ht => ?_⟩
    generalize hq1 : upd H t _ = H1
    obtain ⟨e1, h1⟩ := gen1 hq1 ht
    refine .inr ⟨pkD k, pkD .last, (hv.ex e1).dp, .tup (st_of h1) (.cons (.str _) .nil), shp_k hk, by decide +kernel, _, rfl, ?_⟩
    cases he : PyData.eqv (pkD k) (pkD .last) with
    | true =>
      have := eqv_k he
      subst this
      refine iteT ⟨by show 2 ≤ sizeLine; decide, fun t2 ht2 => ?_⟩
      generalize hq2 : upd H1 t2 _ = H2
      obtain ⟨e2, h2⟩ := gen1 hq2 ht2
      exact q _ _ (e1.trans e2) fun H3 e3 => .tup (st_of (e3 _ _ h2)) (.cons (.str _) (.cons (.tup (TI.any H3) (dp_strs _)) .nil))
    | false =>
      refine iteF ⟨_, rfl, q _ _ e1 fun H3 e3 => ?_⟩
      have : lal k = k := by
        cases k with
        | last => exact absurd he (by decide +kernel)
        | nm z => rfl
        | pl i => rfl
        | like a => rfl
        | all a => rfl
      rw [this]
      exact (hv.ex (e1.trans e3)).dp
def spAsked (K : PySem.W.Frag) : Sp := fun vs H Q _ => ∃ (v : V) (k : Pk), vs = [v] ∧ PkAt H v k ∧ ∀ (H' : Hp) (u : V), Ex H H' → AtS K H' u (asked k) → Q u H'
theorem ok_asked (T : Txt0 mg) (TI : TxtA K mg an) (D : Df K mg "asked_of" s_asked_of) : CalG P w K mg base 1 "asked_of" (spAsked K) := by
  refine cal_mk D sc_asked_of (fun _ _ _ _ _ _ us hl => match us, hl with | [_], _ => rfl) (fun vs H Q E h => ?_) (fun f cdv A outer s H vs Q E hr hG h => ?_)
  · obtain ⟨v, k, rfl, _⟩ := h
    rfl
  · obtain ⟨v, k, rfl, hv, q⟩ := h
    refine ⟨_, (pss_one (ps_ret (pe_ifExp (pt_cmpR opIn (pe_ix ixAny (pv 0) pe_int (fun _ _ => rfl)) (pe_tup (pa_cons pe_str (pa_cons pe_str pa_nil))) rfl) (pe_ix ixAny (pv 0) pe_int (fun _ _ => rfl)) (pe_glob (v := .ref _) rfl TI.g_ANYTHING rfl)))), ?_⟩
    obtain ⟨p, z, xs, rfl, hp, hz⟩ := hv.ask
    refine ⟨_, rfl, .inr (.inl ⟨p, _, 0, _, rfl, rfl, st_of hp, atI_nat (j := 0) rfl, ?_⟩)⟩
    refine ⟨by show 2 ≤ sizeLine; decide, fun t ht => ?_⟩
    generalize hq1 : upd H t _ = H1
    obtain ⟨e1, h1⟩ := gen1 hq1 ht
    refine .inl ⟨t, _, rfl, .inr (st_of h1), rfl, rfl, _, rfl, ?_⟩
    rcases hz with ⟨hz, u, a, rfl, hu, hk⟩ | ⟨hz, hk⟩
    · refine ifT hz ?_
      refine ⟨_, rfl, .inr (.inl ⟨p, _, 1, _, rfl, rfl, st_of (e1 _ _ hp), atI_nat (j := 1) rfl, ?_⟩)⟩
      refine q _ _ e1 ?_
      rw [hk]
      obtain ⟨pa, rfl, hpa⟩ := hu
      exact ⟨pa, rfl, st_of (e1 _ _ hpa)⟩
    · refine ifF hz ?_
      refine q _ _ e1 ?_
      rw [hk]
      exact ⟨an, rfl, TI.any H1⟩
def spSure : Sp := fun vs H Q _ => ∃ (v u : V) (k j : Pk), vs = [v, u] ∧ PkAt H v k ∧ PkAt H u j ∧ gK k ∧ gK j ∧ ∀ (H' : Hp), Ex H H' → Q (.bl (sureB k j)) H'
theorem ok_surely (T : Txt0 mg) (D : Df K mg "surely" s_surely) (c_last_as_like : CalG P w K mg base 1 "last_as_like" (spLal K)) (c_asked_of : CalG P w K mg base 1 "asked_of" (spAsked K)) (c_narrower : CalG P w K mg base 1 "narrower" (spNarrowS K)) : CalG P w K mg base 2 "surely" spSure := by
  refine cal_mk D sc_surely (fun _ _ _ _ _ _ us hl => match us, hl with | [_, _], _ => rfl) (fun vs H Q E h => ?_) (fun f cdv A outer s H vs Q E hr hG h => ?_)
  · obtain ⟨v, u, k, j, rfl, _⟩ := h
    rfl
  · obtain ⟨v, u, k, j, rfl, hv, hu, hk, hj, q⟩ := h
    refine ⟨_, (pss_cons (ps_if (pt_cmpR (opEq hr) (pe_cG c_last_as_like hr hG (by decide) rfl (pa_cons (pv 0) pa_nil)) (pe_cG c_last_as_like hr hG (by decide) rfl (pa_cons (pv 1) pa_nil)) (nomark _)) (pss_one (ps_ret pe_bl)) pss_nil)
      (pss_one (ps_ret (pe_and (pe_cmpR (opEq hr) (pe_ix ixAny (pv 1) pe_int (fun _ _ => rfl)) pe_str (nomark _)) (pe_one (pe_cG c_narrower hr hG (by decide) rfl (pa_cons (pe_cG c_asked_of hr hG (by decide) rfl (pa_cons (pv 0) pa_nil)) (pa_cons (pe_ix ixAny (pv 1) pe_int (fun _ _ => rfl)) pa_nil)))))))), ?_⟩
    refine ⟨_, rfl, v, k, rfl, hv, hk, fun H1 v1 e1 h1 => ?_⟩
    refine ⟨_, rfl, u, j, rfl, hu.ex e1, hj, fun H2 u1 e2 h2 => ?_⟩
    have e12 := e1.trans e2
    refine .inr ⟨_, _, h1 _ e2, h2 _ (Ex.refl _), shp_k (gK_lal hk), shp_k (gK_lal hj), _, rfl, ?_⟩
    unfold sureB at q
    cases he : PyData.eqv (pkD (lal k)) (pkD (lal j)) with
    | true =>
      rw [he] at q
      exact iteT (q _ e12)
    | false =>
      rw [he, Bool.false_or] at q
      refine iteF ?_
      obtain ⟨p, z, xs, rfl, hp, hz⟩ := (hu.ex e12).isAllw (x := asked k)
      refine ⟨_, rfl, .inr (.inl ⟨p, _, 0, _, rfl, rfl, st_of hp, atI_nat (j := 0) rfl, ?_⟩)⟩
      refine .inl ⟨rfl, ⟨_, rfl, ?_⟩⟩
      rcases hz with ⟨rfl, x, a, rfl, hx, rfl⟩ | ⟨hz, hm⟩
      · rw [str_dec, decide_eq_true rfl]
        refine iteT ⟨_, rfl, v, k, rfl, hv.ex e12, fun H3 y e3 hy => ?_⟩
        refine ⟨_, rfl, .inr (.inl ⟨p, _, 1, _, rfl, rfl, st_of (e3 _ _ hp), atI_nat (j := 1) rfl, ?_⟩)⟩
        obtain ⟨px, rfl, hpx⟩ := hx
        refine ⟨y, .ref px, asked k, a, rfl, hy, ⟨px, rfl, st_of (e3 _ _ hpx)⟩, fun H4 e4 => ?_⟩
        exact q _ ((e12.trans e3).trans e4)
      · rw [str_dec, decide_eq_false hz]
        rw [hm] at q
        exact iteF (q _ e12)
end
end Own

namespace Own
open PySem PySem.Spec PyProof.Rows L2 Evl
/-! ### what parts two picks -/
def ltI (k j : Pk) (rs : List Rw) : List Nat := (pkL k rs).filter fun i => !decide (i ∈ pkL j rs)
def partB (k j : Pk) (rs : List Rw) : Bool := !(ltI k j rs).isEmpty
theorem pk_mem {k : Pk} {rs : List Rw} {i : Nat} (h : i ∈ pkL k rs) : i < rs.length ∧ suAt k rs i = true := by
  have h : i ∈ (List.range rs.length).filter (suAt k rs) := by
    unfold pkL at h
    split at h
    · exact h
    · exact List.mem_of_mem_drop h
  have z := List.mem_filter.mp h
  exact ⟨List.mem_range.mp z.1, z.2⟩
theorem pk_all {q : A3} {rs : List Rw} {i : Nat} (h1 : i < rs.length) (h2 : suAt (.all q) rs i = true) : i ∈ pkL (.all q) rs := by
  unfold pkL
  rw [if_pos (show Pk.isAll (.all q) = true from rfl)]
  exact List.mem_filter.mpr ⟨List.mem_range.mpr h1, h2⟩
theorem fit_nul (a : A3) : fitB nul a = true := fitB_none a
theorem any_nul {r : Rw} (h : 1 ≤ r.2.length) : r.2.any (fitB nul) = true := by
  cases hr : r.2 with
  | nil => rw [hr] at h; exact absurd h (by decide)
  | cons a as => rw [List.any_cons, fit_nul]; rfl
theorem any_mono {p q : A3} (h : fitB q p = true) {as : List A3} (ha : as.any (fitB p) = true) : as.any (fitB q) = true := by
  obtain ⟨a, h1, h2⟩ := List.any_eq_true.mp ha
  exact List.any_eq_true.mpr ⟨a, h1, fitB_trans h h2⟩
theorem pk_lal {k : Pk} {rs : List Rw} (hn : ∀ r ∈ rs, 1 ≤ r.2.length) : pkL (lal k) rs = pkL k rs := by
  cases k with
  | last =>
    have e : (List.range rs.length).filter (suAt (.like nul) rs) = (List.range rs.length).filter (suAt .last rs) := by
      apply List.filter_congr
      intro i hi
      have hi := List.mem_range.mp hi
      unfold suAt
      rw [List.getElem?_eq_getElem hi]
      exact any_nul (hn _ (List.getElem_mem hi))
    show pkL (.like nul) rs = pkL .last rs
    unfold pkL
    rw [e]
    rfl
  | nm z => rfl
  | pl i => rfl
  | like a => rfl
  | all a => rfl
theorem self_none (l : List Nat) : (l.filter fun i => !decide (i ∈ l)).isEmpty = true := by
  rw [List.isEmpty_iff, List.filter_eq_nil_iff]
  intro i hi
  rw [decide_eq_true hi]
  decide
theorem sure_no {k j : Pk} {rs : List Rw} (h : sureB k j = true) (hn : ∀ r ∈ rs, 1 ≤ r.2.length) : partB k j rs = false := by
  unfold sureB at h
  unfold partB ltI
  rcases Bool.or_eq_true _ _ ▸ h with h | h
  · rw [← pk_lal (k := k) hn, ← pk_lal (k := j) hn, eqv_k h, self_none]
    rfl
  · cases j with
    | all q =>
      have h : fitB q (asked k) = true := h
      have e : ((pkL k rs).filter fun i => !decide (i ∈ pkL (.all q) rs)) = [] := by
        rw [List.filter_eq_nil_iff]
        intro i hi
        obtain ⟨h1, h2⟩ := pk_mem hi
        have h3 : suAt (.all q) rs i = true := by
          unfold suAt at h2 ⊢
          rw [List.getElem?_eq_getElem h1] at h2 ⊢
          have hne := hn _ (List.getElem_mem h1)
          have nulq : asked k = nul → (rs[i]).2.any (fitB q) = true := fun e => by
            rw [e] at h
            exact any_mono h (any_nul hne)
          cases k with
          | nm z => exact nulq rfl
          | pl z => exact nulq rfl
          | last => exact nulq rfl
          | like a => exact any_mono h h2
          | all a => exact any_mono h h2
        rw [decide_eq_true (pk_all h1 h3)]
        decide
      rw [e]
      rfl
    | nm z => cases h
    | pl z => cases h
    | last => cases h
    | like a => cases h
def rows2 (l0 l1 : Str) (a b : A3) : List Rw := [(l0, [a]), (l1, [b])]
def fK (k : Pk) (a : A3) : Bool := match k with | .like p => fitB p a | .all p => fitB p a | .last => true | _ => false
def isW : Pk → Bool | .like _ => true | .all _ => true | .last => true | _ => false
theorem su_0 {k : Pk} (h : isW k = true) (l0 l1 : Str) (a b : A3) : suAt k (rows2 l0 l1 a b) 0 = fK k a := by
  cases k with
  | nm z => cases h
  | pl i => cases h
  | last => rfl
  | like p => show (fitB p a || false) = fitB p a; rw [Bool.or_false]
  | all p => show (fitB p a || false) = fitB p a; rw [Bool.or_false]
theorem su_1 {k : Pk} (h : isW k = true) (l0 l1 : Str) (a b : A3) : suAt k (rows2 l0 l1 a b) 1 = fK k b := by
  cases k with
  | nm z => cases h
  | pl i => cases h
  | last => rfl
  | like p => show (fitB p b || false) = fitB p b; rw [Bool.or_false]
  | all p => show (fitB p b || false) = fitB p b; rw [Bool.or_false]
def two2 (al s0 s1 : Bool) : List Nat := match s0, s1 with
  | false, false => []
  | true, false => [0]
  | false, true => [1]
  | true, true => if al = true then [0, 1] else [1]
theorem pk2 {k : Pk} (h : isW k = true) (l0 l1 : Str) (a b : A3) : pkL k (rows2 l0 l1 a b) = two2 k.isAll (fK k a) (fK k b) := by
  have e : (List.range (rows2 l0 l1 a b).length).filter (suAt k (rows2 l0 l1 a b)) = (if fK k a = true then [0] else []) ++ (if fK k b = true then [1] else []) := by
    show [0, 1].filter _ = _
    rw [List.filter_cons, List.filter_cons, List.filter_nil, su_0 h, su_1 h]
    cases fK k a <;> cases fK k b <;> rfl
  unfold pkL
  rw [e]
  cases k.isAll <;> cases fK k a <;> cases fK k b <;> rfl
def goodT (ts : List Str) (p : A3) : Prop := isR p.1 = true ∧ (p.2.1 = "" ∨ p.2.1 ∈ ts) ∧ (p.2.2 = "" ∨ p.2.2 ∈ ts)
theorem goodT_nul (ts : List Str) : goodT ts nul := ⟨by decide +kernel, .inl rfl, .inl rfl⟩
theorem wit_memT {ts : List Str} {p : A3} {r n z : Str} (h : goodT ts p) (hr : isR3 r = true) (hn : n ∈ ts) : wit p r n ∈ allA (ts ++ [z]) := by
  obtain ⟨h1, h2, h3⟩ := h
  have part : ∀ y : Str, (y = "" ∨ y ∈ ts) → dfl y n ∈ ts ++ [z] := fun y hy => by
    unfold dfl
    by_cases e : y = ""
    · rw [if_pos e]
      exact List.mem_append_left _ hn
    · rw [if_neg e]
      exact List.mem_append_left _ (hy.resolve_left e)
  refine mem_allA' ?_ (part _ h2) (part _ h3)
  show isR3 (dfl p.1 r) = true
  unfold dfl
  by_cases e : p.1 = ""
  · rw [if_pos e]
    exact hr
  · rw [if_neg e]
    exact isR3_of h1 e
theorem any_fit {ts : List Str} {p : A3} {x z : Str} (h : goodT ts p) (hx : x ∈ ts) : ∃ a ∈ allA (ts ++ [z]), fitB p a = true :=
  ⟨wit p "eq" x, wit_memT h (by decide +kernel) hx, fitB_wit _ _ _⟩
theorem wit_ex {ts : List Str} {p q : A3} {x y z : Str} (hp : goodT ts p) (hf : fitB q p = false) (hx : x ∈ ts) (hy : y ∈ ts) (hxy : x ≠ y) : ∃ a ∈ allA (ts ++ [z]), fitB p a = true ∧ fitB q a = false := by
  obtain ⟨r, hr, hro⟩ : ∃ r : Str, isR3 r = true ∧ q.1 ≠ r := by
    by_cases e : q.1 = "eq"
    · exact ⟨"lt", by decide +kernel, by rw [e]; decide +kernel⟩
    · exact ⟨"eq", by decide +kernel, e⟩
  have pick : ∀ o : Str, ∃ n ∈ ts, o ≠ n := fun o => by
    by_cases e : o = x
    · exact ⟨y, hy, by rw [e]; exact hxy⟩
    · exact ⟨x, hx, e⟩
  have val : ∀ n, fitB q (wit p r n) = (okp q.1 (dfl p.1 r) && (okp q.2.1 (dfl p.2.1 n) && okp q.2.2 (dfl p.2.2 n))) := fun n => by
    rw [fitB_eq]
    rfl
  rw [fitB_eq] at hf
  cases h1 : okp q.1 p.1 with
  | false =>
    refine ⟨wit p r x, wit_memT hp hr hx, fitB_wit _ _ _, ?_⟩
    rw [val, okp_wit (fun e => absurd e hro), h1]
    rfl
  | true =>
    rw [h1, Bool.true_and] at hf
    cases h2 : okp q.2.1 p.2.1 with
    | false =>
      obtain ⟨n, hn, hne⟩ := pick q.2.1
      refine ⟨wit p r n, wit_memT hp hr hn, fitB_wit _ _ _, ?_⟩
      rw [val, okp_wit (o := q.2.1) (fun e => absurd e hne), h2, Bool.false_and, Bool.and_false]
    | true =>
      rw [h2, Bool.true_and] at hf
      obtain ⟨n, hn, hne⟩ := pick q.2.2
      refine ⟨wit p r n, wit_memT hp hr hn, fitB_wit _ _ _, ?_⟩
      rw [val, okp_wit (o := q.2.2) (fun e => absurd e hne), hf, Bool.and_false, Bool.and_false]
theorem okp_anti {p q : Str} (h1 : okp p q = true) (h2 : okp q p = true) : p = q := by
  by_cases e : p = ""
  · rw [e, okp_blank] at h2
    rw [e, of_decide_eq_true h2]
  · rw [okp_full e] at h1
    exact of_decide_eq_true h1
theorem fit_anti {p q : A3} (h1 : fitB p q = true) (h2 : fitB q p = true) : p = q := by
  rw [fitB_eq] at h1 h2
  simp only [Bool.and_eq_true] at h1 h2
  obtain ⟨p1, p2, p3⟩ := p
  obtain ⟨q1, q2, q3⟩ := q
  rw [show p1 = q1 from okp_anti h1.1 h2.1, show p2 = q2 from okp_anti h1.2.1 h2.2.1, show p3 = q3 from okp_anti h1.2.2 h2.2.2]
/-- what the tries have for a pick -/
def ReqP (wide : List A3) (ls : List (List Rw)) (p : A3) : Prop := (∃ l0 l1, ∀ a ∈ wide, fitB p a = true → rows2 l0 l1 a a ∈ ls) ∧
  ((∃ a ∈ wide, fitB p a = true) → ∃ l0 l1 its, fitB p its = true ∧ ∀ b ∈ wide, rows2 l0 l1 its b ∈ ls)
def Req (wide : List A3) (ls : List (List Rw)) : Pk → Prop
  | .like p => ReqP wide ls p
  | .all p => ReqP wide ls p
  | _ => True
theorem part2 {k j : Pk} (hk : isW k = true) (hj : isW j = true) (l0 l1 : Str) (a b : A3) : partB k j (rows2 l0 l1 a b) = !((two2 k.isAll (fK k a) (fK k b)).filter fun i => !decide (i ∈ two2 j.isAll (fK j a) (fK j b))).isEmpty := by
  unfold partB ltI
  rw [pk2 hk, pk2 hj]
theorem part_ex {ts : List Str} {x y z : Str} {ls : List (List Rw)} {k j : Pk} (hx : x ∈ ts) (hy : y ∈ ts) (hxy : x ≠ y) (hk : isW k = true) (hj : (∃ q, j = .all q) ∨ ∃ q, j = .like q) (tk : tK ts k) (tj : tK ts j)
    (hs : sureB k j = false) (rk : Req (allA (ts ++ [z])) ls k) (rj : Req (allA (ts ++ [z])) ls j) : ∃ rs ∈ ls, partB k j rs = true := by
  obtain ⟨he, ha⟩ := Bool.or_eq_false_iff.mp hs
  have ne : ∀ {a b : Pk}, PyData.eqv (pkD (lal a)) (pkD (lal b)) = false → lal a ≠ lal b := fun h e => by rw [e, eqv_refl_k] at h; cases h
  have hne := ne he
  obtain ⟨q, gq, rq, hjq⟩ : ∃ q, goodT ts q ∧ ReqP (allA (ts ++ [z])) ls q ∧ (j = .all q ∨ j = .like q) := by
    rcases hj with ⟨q, rfl⟩ | ⟨q, rfl⟩
    · exact ⟨q, tj, rj, .inl rfl⟩
    · exact ⟨q, tj, rj, .inr rfl⟩
  have wj : isW j = true := by rcases hjq with rfl | rfl <;> rfl
  have fj : ∀ a, fK j a = fitB q a := fun a => by rcases hjq with rfl | rfl <;> rfl
  -- a pattern p of the one, an atom of it that is none of q
  have with_aa : ∀ p : A3, (∀ a, fK k a = fitB p a) → goodT ts p → ReqP (allA (ts ++ [z])) ls p → fitB q p = false → ∃ rs ∈ ls, partB k j rs = true := fun p hkp gp rp hf => by
    obtain ⟨a, hma, h1, h2⟩ := wit_ex (z := z) gp hf hx hy hxy
    obtain ⟨⟨l0, l1, hm⟩, _⟩ := rp
    refine ⟨_, hm a hma h1, ?_⟩
    rw [part2 hk wj, fj, hkp, h1, h2]
    cases k.isAll <;> cases j.isAll <;> rfl
  have last_ : k = .last → fitB q nul = false → ∃ rs ∈ ls, partB k j rs = true := fun hkl hf => by
    subst hkl
    obtain ⟨b, hmb, _, h2⟩ := wit_ex (z := z) (goodT_nul ts) hf hx hy hxy
    obtain ⟨l0, l1, its, hits, hm⟩ := rq.2 (any_fit gq hx)
    refine ⟨_, hm b hmb, ?_⟩
    rw [part2 hk wj, fj, fj, hits, h2]
    cases j.isAll <;> rfl
  cases k with
  | nm z => cases hk
  | pl i => cases hk
  | last =>
    refine last_ rfl ?_
    rcases hjq with rfl | rfl
    · exact ha
    · cases hf : fitB q nul with
      | false => rfl
      | true => exact absurd (by rw [fit_anti hf (fit_nul q)]; rfl) hne
  | like p =>
    cases hf : fitB q p with
    | false => exact with_aa p (fun _ => rfl) tk rk hf
    | true =>
      rcases hjq with rfl | rfl
      · exact absurd hf (by rw [show fitB q p = allB (.all q) (asked (.like p)) from rfl, ha]; decide)
      · have hpq : fitB p q = false := by
          cases hf2 : fitB p q with
          | false => rfl
          | true => exact absurd (by rw [fit_anti hf2 hf]) hne
        obtain ⟨b, hmb, h1, h2⟩ := wit_ex (z := z) gq hpq hx hy hxy
        obtain ⟨l0, l1, its, hits, hm⟩ := rk.2 (any_fit tk hx)
        refine ⟨_, hm b hmb, ?_⟩
        rw [part2 hk wj, fj, fj, show fK (.like p) its = true from hits, show fK (.like p) b = false from h2, h1]
        cases fitB q its <;> rfl
  | all p =>
    cases hf : fitB q p with
    | false => exact with_aa p (fun _ => rfl) tk rk hf
    | true =>
      rcases hjq with rfl | rfl
      · exact absurd hf (by rw [show fitB q p = allB (.all q) (asked (.all p)) from rfl, ha]; decide)
      · obtain ⟨a, hma, h1⟩ := any_fit (z := z) tk hx
        obtain ⟨⟨l0, l1, hm⟩, _⟩ := rk
        refine ⟨_, hm a hma h1, ?_⟩
        rw [part2 hk wj, fj, show fK (.all p) a = true from h1]
        cases fitB q a <;> rfl
end Own

namespace Own
open PySem PySem.Spec PyProof.Rows L2 Evl
theorem tk {α : Type} {l : List α} {i : Nat} {x : α} (h : l[i]? = some x) : l.take (i + 1) = l.take i ++ [x] := by
  rw [List.take_add_one, h]
  rfl
theorem pe_revLB {X : Cx} {s : Shared} {H : Hp} {sc : Scope} {ce : Env} {fp : List Addr} {e : Expr} {te : TE} {k : Nat} {p1 p2 p3 pos : Pos} (he : PE (X.blk s H sc ce fp) e te) : PE (X.blk s H sc ce fp) (.Subscript e (.Slice none none (some (.UnaryOp .USub (.Constant (.int 1) k p1) p2)) p3) pos) (tRevL X.K te) := pe_revL he
def RlAt (H : Hp) (F : Addr → Prop) (v : V) (rs : List Rw) : Prop := ∃ p us, v = .ref p ∧ F p ∧ H p = some (.lst us) ∧ AllRw H us rs
def RlAll (H : Hp) (F : Addr → Prop) : List V → List (List Rw) → Prop
  | [], [] => True
  | v :: vs, r :: rs => RlAt H F v r ∧ RlAll H F vs rs
  | _, _ => False
theorem RlAt.mv {H H' : Hp} {F : Addr → Prop} {v : V} {rs : List Rw} (e : ∀ a o, F a → H a = some o → H' a = some o) (t : TEx H H') (h : RlAt H F v rs) : RlAt H' F v rs := by
  obtain ⟨p, us, h1, h2, h3, h4⟩ := h
  exact ⟨p, us, h1, h2, e _ _ h2 h3, h4.tex t⟩
theorem RlAll.mv {H H' : Hp} {F : Addr → Prop} (e : ∀ a o, F a → H a = some o → H' a = some o) (t : TEx H H') : ∀ {vs : List V} {ls : List (List Rw)}, RlAll H F vs ls → RlAll H' F vs ls
  | [], [], _ => trivial
  | _ :: _, _ :: _, h => ⟨h.1.mv e t, RlAll.mv e t h.2⟩
  | [], _ :: _, h => h.elim
  | _ :: _, [], h => h.elim
theorem RlAll.len {H : Hp} {F : Addr → Prop} : ∀ {vs : List V} {ls : List (List Rw)}, RlAll H F vs ls → vs.length = ls.length
  | [], [], _ => rfl
  | _ :: _, _ :: _, h => by rw [List.length_cons, List.length_cons, RlAll.len h.2]
  | [], _ :: _, h => h.elim
  | _ :: _, [], h => h.elim
theorem RlAll.at {H : Hp} {F : Addr → Prop} : ∀ {vs : List V} {ls : List (List Rw)} {i : Nat} {v : V}, RlAll H F vs ls → vs[i]? = some v → ∃ rs, ls[i]? = some rs ∧ RlAt H F v rs
  | [], [], _, _, _, h => by simp at h
  | _ :: _, r :: _, 0, _, h, e => by
    cases e
    exact ⟨r, rfl, h.1⟩
  | _ :: _, _ :: _, i + 1, _, h, e => RlAll.at (i := i) h.2 e
  | [], _ :: _, _, _, h, _ => h.elim
  | _ :: _, [], _, _, h, _ => h.elim
theorem RlAll.app {H : Hp} {F : Addr → Prop} : ∀ {vs us : List V} {ls ms : List (List Rw)}, RlAll H F vs ls → RlAll H F us ms → RlAll H F (vs ++ us) (ls ++ ms)
  | [], _, [], _, _, k => k
  | _ :: _, _, _ :: _, _, h, k => ⟨h.1, RlAll.app h.2 k⟩
  | [], _, _ :: _, _, h, _ => h.elim
  | _ :: _, _, [], _, h, _ => h.elim
theorem RlAll.snoc {H : Hp} {F : Addr → Prop} {v : V} {r : List Rw} (hv : RlAt H F v r) {vs : List V} {ls : List (List Rw)} (h : RlAll H F vs ls) : RlAll H F (vs ++ [v]) (ls ++ [r]) := h.app ⟨hv, trivial⟩
theorem RlAll.take {H : Hp} {F : Addr → Prop} : ∀ {vs : List V} {ls : List (List Rw)} (n : Nat), RlAll H F vs ls → RlAll H F (vs.take n) (ls.take n)
  | _, _, 0, _ => trivial
  | [], [], _ + 1, _ => trivial
  | _ :: _, _ :: _, n + 1, h => ⟨h.1, RlAll.take n h.2⟩
  | [], _ :: _, _ + 1, h => h.elim
  | _ :: _, [], _ + 1, h => h.elim
theorem RlAll.wk {H : Hp} {F G : Addr → Prop} (h : ∀ a, F a → G a) : ∀ {vs : List V} {ls : List (List Rw)}, RlAll H F vs ls → RlAll H G vs ls
  | [], [], _ => trivial
  | _ :: _, _ :: _, k => ⟨by obtain ⟨p, us, h1, h2, h3⟩ := k.1; exact ⟨p, us, h1, h p h2, h3⟩, RlAll.wk h k.2⟩
  | [], _ :: _, k => k.elim
  | _ :: _, [], k => k.elim
theorem AllRw.app {H : Hp} : ∀ {vs us : List V} {rs qs : List Rw}, AllRw H vs rs → AllRw H us qs → AllRw H (vs ++ us) (rs ++ qs)
  | [], _, [], _, _, k => k
  | _ :: _, _, _ :: _, _, h, k => ⟨h.1, AllRw.app h.2 k⟩
  | [], _, _ :: _, _, h, _ => h.elim
  | _ :: _, _, [], _, h, _ => h.elim
theorem AllRw.rev {H : Hp} : ∀ {vs : List V} {rs : List Rw}, AllRw H vs rs → AllRw H vs.reverse rs.reverse
  | [], [], _ => trivial
  | _ :: _, _ :: _, h => by
    rw [List.reverse_cons, List.reverse_cons]
    exact AllRw.app (AllRw.rev h.2) ⟨h.1, trivial⟩
  | [], _ :: _, h => h.elim
  | _ :: _, [], h => h.elim
theorem AllAt.drop {H : Hp} : ∀ {vs : List V} {as : List A3} (n : Nat), AllAt H vs as → AllAt H (vs.drop n) (as.drop n)
  | _, _, 0, h => h
  | [], [], _ + 1, _ => trivial
  | _ :: _, _ :: _, n + 1, h => AllAt.drop n h.2
  | [], _ :: _, _ + 1, h => h.elim
  | _ :: _, [], _ + 1, h => h.elim
theorem AllAt.mem {H : Hp} {v : V} : ∀ {vs : List V} {as : List A3}, AllAt H vs as → v ∈ vs → ∃ a ∈ as, AtomAt H v a
  | [], [], _, h => by cases h
  | _ :: _, a :: _, h, m => by
    rcases List.mem_cons.mp m with rfl | m
    · exact ⟨a, List.mem_cons_self, h.1⟩
    · obtain ⟨b, hb, hb2⟩ := AllAt.mem h.2 m
      exact ⟨b, List.mem_cons_of_mem _ hb, hb2⟩
  | [], _ :: _, h, _ => h.elim
  | _ :: _, [], h, _ => h.elim
theorem cut_mem {xs : List V} {lo hi : Option Int} {x : V} (h : x ∈ cutV xs lo hi) : x ∈ xs := by
  unfold cutV at h
  exact List.mem_of_mem_drop (List.mem_of_mem_take h)
theorem cut_few (xs : List V) (a b : Nat) : (cutV xs (some (a : Int)) (some (b : Int))).length ≤ b - a := by
  unfold cutV
  rw [List.length_take, List.length_drop, HT.sIx_nat, HT.sIx_nat]
  omega
theorem cut_3 (xs : List V) : cutV xs (some (-3)) none = xs.drop (xs.length - 3) := by
  unfold cutV
  rw [HT.sIx_none]
  have z : HT.sIx xs.length 0 (some (-3)) = xs.length - 3 := by
    unfold HT.sIx
    simp
    omega
  rw [z]
  apply List.take_of_length_le
  rw [List.length_drop]
  exact Nat.le_refl _
theorem at_last {xs : List V} (h : xs ≠ []) : ∃ v ∈ xs, atI xs (-1) = some v := by
  refine ⟨xs.getLast h, List.getLast_mem h, ?_⟩
  have := atI_last xs.dropLast (xs.getLast h)
  rwa [List.dropLast_concat_getLast h] at this
theorem flat_le {α β : Type} {f : α → List β} {c : Nat} : ∀ {xs : List α}, (∀ x ∈ xs, (f x).length ≤ c) → (xs.flatMap f).length ≤ xs.length * c
  | [], _ => by simp
  | x :: xs, h => by
    rw [List.flatMap_cons, List.length_append, List.length_cons, Nat.add_mul, Nat.one_mul]
    have h1 := h x List.mem_cons_self
    have h2 := flat_le (xs := xs) fun y hy => h y (List.mem_cons_of_mem _ hy)
    omega
theorem allA_len {ns : List Str} (h : ns.length ≤ 5) : (allA ns).length ≤ 75 := by
  have h1 : (allA ns).length ≤ ns.length * 15 := flat_le fun x _ => by
    have h2 : (ns.flatMap fun t => three x t).length ≤ ns.length * 3 := flat_le fun t _ => Nat.le_refl _
    omega
  omega
theorem rg2 (n : Nat) (h : n ≤ 100) : ∃ m : Nat, m ≤ 50 ∧ RgC 0 (n : Int) 2 m := by
  have t : ∀ k : Fin 101, Builtin.Range.small 0 ((k.val : Nat) : Int) 2 = true ∧ 0 ≤ Builtin.Range.rangeSize 0 ((k.val : Nat) : Int) 2 ∧ Builtin.Range.rangeSize 0 ((k.val : Nat) : Int) 2 ≤ 50 := by decide +kernel
  obtain ⟨h1, h2, h3⟩ := t ⟨n, by omega⟩
  exact ⟨(Builtin.Range.rangeSize 0 (n : Int) 2).toNat, by have h3 : Builtin.Range.rangeSize 0 (n : Int) 2 ≤ 50 := h3; omega, by decide, by decide, h1, (Int.toNat_of_nonneg h2).symm⟩
def okR (rs : List Rw) : Prop := rs.length ≤ 20 ∧ ∀ r ∈ rs, gR r ∧ 1 ≤ r.2.length
theorem okR.app {rs qs : List Rw} (h : okR rs) (k : okR qs) (hl : rs.length + qs.length ≤ 20) : okR (rs ++ qs) := ⟨by rw [List.length_append]; exact hl, fun r hr => by
  rcases List.mem_append.mp hr with hr | hr
  · exact h.2 r hr
  · exact k.2 r hr⟩
/-- a comprehension that makes lists: what it says of them may lean on all that is not its own list -/
theorem lcL {J : It} {n : Nat} {G : Hp → Prop} {Y : Nat → Hp → V → Hp → Prop} (w : Walk J n G Y) {g : TG} {tt : TT} {te : TE} {vs : List Nat} {σ : L2.St} {H1 : Hp} {Q : VK} (hG0 : G H1) (hGm : ∀ H H', Ex H H' → G H → G H') (hY : ∀ i H x H', Y i H x H' → Ex H H') (hn : n ≤ 40000)
    (Pa : Addr → Nat → List V → Hp → Prop) (hm : ∀ D i ys H H', TEx H H' → ExB D H H' → Pa D i ys H → Pa D i ys H') (p0 : ∀ D, Pa D 0 [] H1)
    (hs : ∀ D i x H H' ys, i < n → Ex H1 H → Y i H x H' → H1 D = none → H' D = some (.lst ys) → Pa D i ys H' → ∀ (N : V → Hp → Prop) (N0 : Hp → Prop), (∀ y H4, Ex H' H4 → Pa D (i + 1) (ys ++ [y]) H4 → N y H4) → (∀ H3, Ex H' H3 → Pa D (i + 1) ys H3 → N0 H3) →
      g x (wipe σ vs) H' fun σ2 H2 => wipe σ2 vs = wipe σ vs ∧ tt σ2 H2 fun b H3 => if b = true then te σ2 H3 N else N0 H3)
    (k : ∀ D H2 ys, H1 D = none → Ex H1 H2 → H2 D = some (.lst ys) → ys.length ≤ n → Pa D n ys H2 → Q (.ref D) H2) :
    LcRest g tt te vs σ Q J H1 := by
  intro D hD
  refine lc_it w (fun i H => ∃ ys, Ex H1 H ∧ H D = some (.lst ys) ∧ ys.length ≤ i ∧ Pa D i ys H) ⟨[], Ex.new hD, upd_same, Nat.zero_le _, hm _ _ _ _ _ (TEx.of (Ex.new hD)) (fun a o _ h => Ex.new hD a o h) (p0 D)⟩ (fun i H hi ⟨ys, e, _⟩ => hGm _ _ e hG0) ?_ ?_
  · rintro i x H H' hi ⟨ys, e, hd, hl, hp⟩ hy
    have e' := hY _ _ _ _ hy
    refine hs D i x H H' ys hi e hy hD (e' _ _ hd) (hm _ _ _ _ _ (TEx.of e') (fun a o _ h => e' a o h) hp) _ _ (fun y H4 e4 p4 => ?_) (fun H3 e3 p3 => ?_)
    · have d4 := e4 _ _ (e' _ _ hd)
      refine ⟨ys, d4, sz_lt (by omega), ys ++ [y], Ex.mut ((e.trans e').trans e4) hD, upd_same, ?_, hm _ _ _ _ _ (TEx.lst d4) (ExB.set (ExB.refl _ _)) p4⟩
      rw [List.length_append]
      show ys.length + 1 ≤ i + 1
      omega
    · exact ⟨ys, (e.trans e').trans e3, e3 _ _ (e' _ _ hd), by omega, p3⟩
  · rintro H ⟨ys, e, hd, hl, hp⟩
    exact k D H ys hD e hd hl hp
/-- the list of the tries so far -/
structure Fd (H0 H : Hp) (F : Addr) (ys : List V) (ls : List (List Rw)) : Prop where
  nF : H0 F = none
  ex : Ex H0 H
  hF : H F = some (.lst ys)
  rl : RlAll H (fun p => p ≠ F) ys ls
  ok : ∀ rs ∈ ls, okR rs ∧ rs.length ≤ 10
theorem exb {F : Addr} {H H' : Hp} (e : Ex H H') : ExB F H H' := fun a o _ h => e a o h
theorem ExB.tr {F : Addr} {H H1 H2 : Hp} (a : ExB F H H1) (b : ExB F H1 H2) : ExB F H H2 := fun c o n h => b c o n (a c o n h)
theorem Fd.ext {H0 H H2 : Hp} {F : Addr} {ys zs : List V} {ls ms : List (List Rw)} (d : Fd H0 H F ys ls) (e : Ex H H2) (hz : RlAll H2 (fun p => p ≠ F) zs ms) (hm : ∀ rs ∈ ms, okR rs ∧ rs.length ≤ 10) :
    Fd H0 (upd H2 F (.lst (ys ++ zs))) F (ys ++ zs) (ls ++ ms) ∧ ExB F H (upd H2 F (.lst (ys ++ zs))) ∧ TEx H (upd H2 F (.lst (ys ++ zs))) := by
  have x : ExB F H2 (upd H2 F (.lst (ys ++ zs))) := ExB.set (ExB.refl _ _)
  have t : TEx H2 (upd H2 F (.lst (ys ++ zs))) := TEx.lst (e _ _ d.hF)
  refine ⟨⟨d.nF, Ex.mut (d.ex.trans e) d.nF, upd_same, ((d.rl.mv (exb e) (TEx.of e)).app hz).mv x t, fun rs hr => ?_⟩, (exb e).tr x, (TEx.of e).trans t⟩
  rcases List.mem_append.mp hr with hr | hr
  · exact d.ok rs hr
  · exact hm rs hr
theorem ReqP.mono {wide : List A3} {ls ms : List (List Rw)} {p : A3} (h : ReqP wide ls p) (hs : ∀ rs ∈ ls, rs ∈ ms) : ReqP wide ms p := by
  obtain ⟨⟨l0, l1, h1⟩, h2⟩ := h
  refine ⟨⟨l0, l1, fun a ha hf => hs _ (h1 a ha hf)⟩, fun he => ?_⟩
  obtain ⟨m0, m1, its, h3, h4⟩ := h2 he
  exact ⟨m0, m1, its, h3, fun b hb => hs _ (h4 b hb)⟩
theorem Req.mono {wide : List A3} {ls ms : List (List Rw)} {k : Pk} (h : Req wide ls k) (hs : ∀ rs ∈ ls, rs ∈ ms) : Req wide ms k := by
  cases k with
  | like p => exact ReqP.mono h hs
  | all p => exact ReqP.mono h hs
  | nm z => trivial
  | pl i => trivial
  | last => trivial
/-- the patterns that are asked of atoms -/
def gP (k : Pk) (a : A3) : Bool := match k with | .like p => fitB p a | .all p => fitB p a | _ => false
def oneR (z : Str) (a : A3) : Rw := (z, [a])
theorem okR_one {z : Str} {a : A3} (hz : isNm z = true) (ha : gA a) : gR (oneR z a) ∧ 1 ≤ (oneR z a).2.length := ⟨⟨hz, by show 1 ≤ 2; decide, fun b hb => by
  have hb : b ∈ [a] := hb
  rw [List.mem_singleton] at hb
  rw [hb]
  exact ha⟩, Nat.le_refl _⟩
theorem row_one {H : Hp} {t1 t2 : Addr} {z : Str} {v : V} {a : A3} (h1 : H t1 = some (.tup [v])) (h2 : H t2 = some (.tup [.str z, .ref t1])) (hv : AtomAt H v a) : RowAt H (.ref t2) (oneR z a) := ⟨t2, .ref t1, rfl, h2, t1, [v], rfl, h1, ⟨hv, trivial⟩⟩
theorem AllAt.lenE {H : Hp} {vs : List V} {as : List A3} (h : AllAt H vs as) : vs.length = as.length := h.len
theorem req_of {wide : List A3} {ls : List (List Rw)} {kp : Pk} {l0 l1 : Str} (h1 : ∀ a ∈ wide.filter (gP kp), rows2 l0 l1 a a ∈ ls) (h2 : ∀ b ∈ wide, ∀ its ∈ (wide.filter (gP kp)).drop ((wide.filter (gP kp)).length - 3), rows2 l0 l1 its b ∈ ls) : Req wide ls kp := by
  have key : ∀ p : A3, (∀ a, gP kp a = fitB p a) → ReqP wide ls p := fun p hp => by
    refine ⟨⟨l0, l1, fun a ha hf => h1 a (List.mem_filter.mpr ⟨ha, by rw [hp]; exact hf⟩)⟩, fun ⟨a, ha, hf⟩ => ?_⟩
    have hm : a ∈ wide.filter (gP kp) := List.mem_filter.mpr ⟨ha, by rw [hp]; exact hf⟩
    have hlen := List.length_pos_of_mem hm
    obtain ⟨its, hits⟩ : ∃ its, its ∈ (wide.filter (gP kp)).drop ((wide.filter (gP kp)).length - 3) := by
      refine List.exists_mem_of_length_pos ?_
      rw [List.length_drop]
      omega
    refine ⟨l0, l1, its, ?_, fun b hb => h2 b hb its hits⟩
    have := (List.mem_filter.mp (List.mem_of_mem_drop hits)).2
    rw [hp] at this
    exact this
  cases kp with
  | like p => exact key p fun _ => rfl
  | all p => exact key p fun _ => rfl
  | nm z => trivial
  | pl i => trivial
  | last => trivial
theorem PkAt.nmw {H : Hp} {p : Addr} {k : Pk} {xs : List V} (h : PkAt H (.ref p) k) (hg : gK k) (hp : H p = some (.tup (V.str "name" :: xs))) : ∃ nm, xs = [.str nm] ∧ isNm nm = true := by
  cases k with
  | nm z => obtain ⟨p', e, h'⟩ := h; cases e; rw [hp] at h'; cases h'; exact ⟨z, rfl, hg⟩
  | pl i => obtain ⟨p', e, h'⟩ := h; cases e; rw [hp] at h'; exact absurd (Option.some.inj h') (fun e => by have := (List.cons.inj (HO.tup.inj e)).1; exact absurd (V.str.inj this) (by decide))
  | last => obtain ⟨p', e, h'⟩ := h; cases e; rw [hp] at h'; exact absurd (Option.some.inj h') (fun e => by have := (List.cons.inj (HO.tup.inj e)).1; exact absurd (V.str.inj this) (by decide))
  | like a => obtain ⟨p', u, e, h', _⟩ := h; cases e; rw [hp] at h'; exact absurd (Option.some.inj h') (fun e => by have := (List.cons.inj (HO.tup.inj e)).1; exact absurd (V.str.inj this) (by decide))
  | all a => obtain ⟨p', u, e, h', _⟩ := h; cases e; rw [hp] at h'; exact absurd (Option.some.inj h') (fun e => by have := (List.cons.inj (HO.tup.inj e)).1; exact absurd (V.str.inj this) (by decide))
theorem okR_two {z0 z1 : Str} {a b : A3} (h0 : isNm z0 = true) (h1 : isNm z1 = true) (ha : gA a) (hb : gA b) : okR (rows2 z0 z1 a b) ∧ (rows2 z0 z1 a b).length ≤ 10 := by
  refine ⟨⟨by show 2 ≤ 20; decide, fun r hr => ?_⟩, by show 2 ≤ 10; decide⟩
  have hr : r ∈ [oneR z0 a, oneR z1 b] := hr
  simp only [List.mem_cons, List.not_mem_nil, or_false] at hr
  rcases hr with rfl | rfl
  · exact okR_one h0 ha
  · exact okR_one h1 hb
theorem okR.rev {rs : List Rw} (h : okR rs) : okR rs.reverse := ⟨by rw [List.length_reverse]; exact h.1, fun r hr => h.2 r (List.mem_reverse.mp hr)⟩
end Own

namespace Own
open PySem PySem.Spec PyProof.Rows L2 Evl
abbrev s_l_tries : Stmt := top 25
theorem sc_l_tries : FnScope ["_law_bag_here", "_law_world_here", "_law_one", "_law_other", "_law_labels", "_law_wide", "_law_found", "_law_name", "_law_k", "_law_atom_here", "_law_pick_here", "_law_fit", "_law_its", "_law_rows_here"] ["_law_bag_here", "_law_world_here", "_law_one", "_law_other"] (defScope s_l_tries) := ⟨rfl, rfl, rfl, by decide +kernel, rfl, by decide +kernel, by decide +kernel⟩
section
variable {P : Program} {w : World} {K : PySem.W.Frag} {mg : Str → Option Value} {base : Heap}
def spTries : Sp := fun vs H Q _ => ∃ (b : Addr) (v u1 u2 : V) (ns ts : List Str) (k1 k2 : Pk), vs = [.ref b, v, u1, u2] ∧ BagAt H b ∧ WorldAt H v ns ts ∧ WOk ns ts ∧ PkAt H u1 k1 ∧ PkAt H u2 k2 ∧ gK k1 ∧ gK k2 ∧
  ∀ (H' : Hp) (l : Addr) (ys : List V) (ls : List (List Rw)), Ex H H' → H' l = some (.lst ys) → RlAll H' (fun _ => True) ys ls → (∀ rs ∈ ls, okR rs) → ls.length ≤ 5000 → Req (allA (ts ++ (["zzzzz"] : List Str))) ls k1 → Req (allA (ts ++ (["zzzzz"] : List Str))) ls k2 → Q (.ref l) H'
theorem ok_tries (T : Txt0 mg) (T_min : mg "min" = none) (D : Df K mg "_law_tries" s_l_tries) (c_l_names : CalG P w K mg base 2 "_law_names" spNames) (c_l_all_atoms : CalG P w K mg base 1 "_law_all_atoms" spAllA) (c_l_fits : CalG P w K mg base 1 "_law_fits" spFits) : CalG P w K mg base 3 "_law_tries" spTries := by
  refine cal_mk D sc_l_tries (fun _ _ _ _ _ _ us hl => match us, hl with | [_, _, _, _], _ => rfl) (fun vs H Q E h => ?_) (fun f cdv A outer s H vs Q E hr hG h => ?_)
  · obtain ⟨b, v, u1, u2, ns, ts, k1, k2, rfl, _⟩ := h
    rfl
  · obtain ⟨b, v, u1, u2, ns, ts, k1, k2, rfl, hb, ⟨d, pn, pt, kvs, rfl, hd, hkn, hkt, hpn, hpt⟩, hw, hk1, hk2, hg1, hg2, q⟩ := h
    refine ⟨_, (pss_cons (ps_asg (pe_tup (pa_cons (pe_op opAdd (pe_dget (hu_of hr) (pv 1) pe_str (fun _ _ => rfl)) (pe_cG c_l_names hr hG (by decide) rfl (pa_cons (pv 0) (pa_cons pe_int pa_nil)))) (pa_cons (pe_cG c_l_all_atoms hr hG (by decide) rfl (pa_cons (pe_op opAdd (pe_dget (hu_of hr) (pv 1) pe_str (fun _ _ => rfl)) (pe_lst (pa_cons pe_str pa_nil))) pa_nil)) pa_nil))) (pg_tup rfl (pgs_cons (pg_name (i := 4) sc_l_tries.nd rfl (Or.inr rfl)) (pgs_cons (pg_name (i := 5) sc_l_tries.nd rfl (Or.inr rfl)) pgs_nil))))
      (pss_cons (ps_set (i := 6) sc_l_tries.nd rfl (Or.inl rfl) (pe_lst pa_nil))
      (pss_cons (ps_forO (ps_for PassesOwn.never rfl (piAny (pe_slice slAny (pv 4) po_none (po_some pe_int))) (pg_name (i := 7) sc_l_tries.nd rfl (Or.inr rfl))
        (pss_one (ps_forO (ps_for PassesOwn.never rfl (pi_range3 rfl T.range (pa_cons pe_int (pa_cons (pe_callB callLen (by rfl) T.len PySem.boot_len (pa_cons (pv 5) pa_nil)) (pa_cons pe_int pa_nil)))) (pg_name (i := 8) sc_l_tries.nd rfl (Or.inl rfl))
        (pss_one (ps_expr (pe_bm PySem.F.plainAttrs_list PySem.F.slot_list_append PySem.F.type_list_append mt_append (pv 6) (pa_cons (pe_lcO (pe_lc (own := [("_law_atom_here", 9)]) rfl sc_l_tries.nd (piAny (pe_slice slAny (pv 5) (po_some (pv 8)) (po_some (pe_op opAdd (pv 8) pe_int)))) (blkOk_by (own := [("_law_atom_here", 9)]) (N := ["_law_bag_here", "_law_world_here", "_law_one", "_law_other", "_law_labels", "_law_wide", "_law_found", "_law_name", "_law_k", "_law_atom_here", "_law_pick_here", "_law_fit", "_law_its", "_law_rows_here"]) (sc := defScope s_l_tries) (by first | decide +kernel | kernel_rfl)) (fun _ _ _ _ _ => pg_name (i := 9) sc_l_tries.nd rfl (Or.inl rfl)) (fun _ _ _ _ _ => pts_nil) (fun _ _ _ _ _ => pe_tup (pa_cons (pv 7) (pa_cons (pe_tup (pa_cons (pv 9) pa_nil)) pa_nil))))) pa_nil)))))))))
      (pss_cons (ps_forO (ps_for PassesOwn.never rfl (piAny (pe_tup (pa_cons (pv 2) (pa_cons (pv 3) pa_nil)))) (pg_name (i := 10) sc_l_tries.nd rfl (Or.inr rfl))
        (pss_cons (ps_setLcO (ps_setLc (i := 11) (own := [("_law_atom_here", 9)]) rfl sc_l_tries.nd rfl rfl (sw_true rfl rfl rfl (by decide +kernel)) (piAny (pv 5)) (blkOk_by (own := [("_law_atom_here", 9)]) (N := ["_law_bag_here", "_law_world_here", "_law_one", "_law_other", "_law_labels", "_law_wide", "_law_found", "_law_name", "_law_k", "_law_atom_here", "_law_pick_here", "_law_fit", "_law_its", "_law_rows_here"]) (sc := defScope s_l_tries) (by first | decide +kernel | kernel_rfl)) (fun _ _ _ _ _ => pg_name (i := 9) sc_l_tries.nd rfl (Or.inl rfl)) (fun _ _ _ _ _ => pts_one (PW.pt (pw_and (pt_cmpR opInB (pe_ix ixAnyB (pv 10) pe_int (fun _ _ => rfl)) (pe_tup (pa_cons pe_str (pa_cons pe_str pa_nil))) rfl) (pw_and1 (pt_val (pe_cG c_l_fits hr hG (by decide) rfl (pa_cons (pe_ix ixAnyB (pv 10) pe_int (fun _ _ => rfl)) (pa_cons (pv 9) pa_nil)))))))) (fun _ _ _ _ _ => pv 9)))
      (pss_cons (ps_expr (pe_bm PySem.F.plainAttrs_list PySem.F.slot_list_extend PySem.F.type_list_extend mt_extend (pv 6) (pa_cons (pe_lcO (pe_lc (own := [("_law_atom_here", 9)]) rfl sc_l_tries.nd (piAny (pv 11)) (blkOk_by (own := [("_law_atom_here", 9)]) (N := ["_law_bag_here", "_law_world_here", "_law_one", "_law_other", "_law_labels", "_law_wide", "_law_found", "_law_name", "_law_k", "_law_atom_here", "_law_pick_here", "_law_fit", "_law_its", "_law_rows_here"]) (sc := defScope s_l_tries) (by first | decide +kernel | kernel_rfl)) (fun _ _ _ _ _ => pg_name (i := 9) sc_l_tries.nd rfl (Or.inl rfl)) (fun _ _ _ _ _ => pts_nil) (fun _ _ _ _ _ => pe_lst (pa_cons (pe_tup (pa_cons (pe_ix ixAnyB (pv 4) pe_int (fun _ _ => rfl)) (pa_cons (pe_tup (pa_cons (pv 9) pa_nil)) pa_nil))) (pa_cons (pe_tup (pa_cons (pe_ix ixAnyB (pv 4) pe_int (fun _ _ => rfl)) (pa_cons (pe_tup (pa_cons (pv 9) pa_nil)) pa_nil))) pa_nil))))) pa_nil)))
      (pss_cons (ps_forO (ps_for PassesOwn.never rfl (piAny (pv 5)) (pg_name (i := 9) sc_l_tries.nd rfl (Or.inr rfl))
        (pss_one (ps_expr (pe_bm PySem.F.plainAttrs_list PySem.F.slot_list_extend PySem.F.type_list_extend mt_extend (pv 6) (pa_cons (pe_lcO (pe_lc (own := [("_law_its", 12)]) rfl sc_l_tries.nd (piAny (pe_slice slAny (pv 11) (po_some (pe_un un_neg pe_int)) po_none)) (blkOk_by (own := [("_law_its", 12)]) (N := ["_law_bag_here", "_law_world_here", "_law_one", "_law_other", "_law_labels", "_law_wide", "_law_found", "_law_name", "_law_k", "_law_atom_here", "_law_pick_here", "_law_fit", "_law_its", "_law_rows_here"]) (sc := defScope s_l_tries) (by first | decide +kernel | kernel_rfl)) (fun _ _ _ _ _ => pg_name (i := 12) sc_l_tries.nd rfl (Or.inl rfl)) (fun _ _ _ _ _ => pts_nil) (fun _ _ _ _ _ => pe_lst (pa_cons (pe_tup (pa_cons (pe_ix ixAnyB (pv 4) pe_int (fun _ _ => rfl)) (pa_cons (pe_tup (pa_cons (pv 12) pa_nil)) pa_nil))) (pa_cons (pe_tup (pa_cons (pe_ix ixAnyB (pv 4) pe_int (fun _ _ => rfl)) (pa_cons (pe_tup (pa_cons (pv 9) pa_nil)) pa_nil))) pa_nil))))) pa_nil))))))
      (pss_one (ps_if (pt_cmpR (opEq hr) (pe_ix ixAny (pv 10) pe_int (fun _ _ => rfl)) pe_str (nomark _)) (pss_one (ps_expr (pe_bm PySem.F.plainAttrs_list PySem.F.slot_list_append PySem.F.type_list_append mt_append (pv 6) (pa_cons (pe_lst (pa_cons (pe_tup (pa_cons (pe_ix ixAny (pv 10) pe_int (fun _ _ => rfl)) (pa_cons (pe_tup (pa_cons (pe_ix ixAny (pv 5) pe_int (fun _ _ => rfl)) pa_nil)) pa_nil))) (pa_cons (pe_tup (pa_cons (pe_ix ixAny (pv 4) (pe_un un_neg pe_int) (fun _ _ => rfl)) (pa_cons (pe_tup (pa_cons (pe_ix ixAny (pv 5) (pe_un un_neg pe_int) (fun _ _ => rfl)) pa_nil)) pa_nil))) pa_nil))) pa_nil)))) pss_nil)))))))
      (pss_cons (ps_expr (pe_bm PySem.F.plainAttrs_list PySem.F.slot_list_append PySem.F.type_list_append mt_append (pv 6) (pa_cons (pe_lcO (pe_lc (own := [("_law_k", 8)]) rfl sc_l_tries.nd (pi_range1 rfl T.range (pa_cons (pe_callB (call_min2 rfl) (by rfl) T_min (by decide +kernel) (pa_cons (pe_callB callLen (by rfl) T.len PySem.boot_len (pa_cons (pv 5) pa_nil)) (pa_cons pe_int pa_nil))) pa_nil)) (blkOk_by (own := [("_law_k", 8)]) (N := ["_law_bag_here", "_law_world_here", "_law_one", "_law_other", "_law_labels", "_law_wide", "_law_found", "_law_name", "_law_k", "_law_atom_here", "_law_pick_here", "_law_fit", "_law_its", "_law_rows_here"]) (sc := defScope s_l_tries) (by first | decide +kernel | kernel_rfl)) (fun _ _ _ _ _ => pg_name (i := 8) sc_l_tries.nd rfl (Or.inl rfl)) (fun _ _ _ _ _ => pts_nil) (fun _ _ _ _ _ => pe_tup (pa_cons (pe_ix ixAnyB (pv 4) (pe_op op_mod (pv 8) pe_int) (fun _ _ => rfl)) (pa_cons (pe_tup (pa_cons (pe_ix ixAnyB (pv 5) (pv 8) (fun _ _ => rfl)) pa_nil)) pa_nil))))) pa_nil)))
      (pss_one (ps_ret (pe_op opAdd (pe_op opAdd (pv 6) (pe_lcO (pe_lc (own := [("_law_rows_here", 13)]) rfl sc_l_tries.nd (piAny (pv 6)) (blkOk_by (own := [("_law_rows_here", 13)]) (N := ["_law_bag_here", "_law_world_here", "_law_one", "_law_other", "_law_labels", "_law_wide", "_law_found", "_law_name", "_law_k", "_law_atom_here", "_law_pick_here", "_law_fit", "_law_its", "_law_rows_here"]) (sc := defScope s_l_tries) (by first | decide +kernel | kernel_rfl)) (fun _ _ _ _ _ => pg_name (i := 13) sc_l_tries.nd rfl (Or.inl rfl)) (fun _ _ _ _ _ => pts_nil) (fun _ _ _ _ _ => pe_revLB (pv 13))))) (pe_lcO (pe_lc (own := [("_law_rows_here", 13)]) rfl sc_l_tries.nd (piAny (pe_slice slAny (pv 6) po_none (po_some pe_int))) (blkOk_by (own := [("_law_rows_here", 13)]) (N := ["_law_bag_here", "_law_world_here", "_law_one", "_law_other", "_law_labels", "_law_wide", "_law_found", "_law_name", "_law_k", "_law_atom_here", "_law_pick_here", "_law_fit", "_law_its", "_law_rows_here"]) (sc := defScope s_l_tries) (by first | decide +kernel | kernel_rfl)) (fun _ _ _ _ _ => pg_name (i := 13) sc_l_tries.nd rfl (Or.inl rfl)) (fun _ _ _ _ _ => pts_nil) (fun _ _ _ _ _ => pe_op opAddB (pv 13) (pv 13)))))))))))), ?_⟩
    have hn3 := hw.n
    have ht2 := hw.t2
    have ht4 := hw.t4
    refine ⟨_, rfl, d, .ref pn, rfl, .inl ⟨kvs, Sum.inr "names", .inl hd, rfl, hkn.symm⟩, ?_⟩
    refine ⟨_, rfl, b, 2, rfl, hb, by decide, by decide, fun H1 pl nl e1 _ hpl hnl _ hnn => ?_⟩
    refine .inr (.inr (.inl ⟨pn, pl, _, _, rfl, rfl, e1 _ _ hpn, hpl, by rw [List.length_map, List.length_map, hn3]; exact Nat.le_trans (show 3 + nl.length ≤ 5 by omega) (by show 5 ≤ sizeLine; decide), fun la n2 => ?_⟩))
    generalize hq2 : upd H1 la _ = H2
    obtain ⟨e2, h2⟩ := gen1 hq2 n2
    rw [← List.map_append] at h2
    have e02 := e1.trans e2
    refine ⟨_, rfl, d, .ref pt, rfl, .inl ⟨kvs, Sum.inr "things", .inl (e02 _ _ hd), rfl, hkt.symm⟩, ?_⟩
    refine ⟨by show 1 ≤ sizeLine; decide, fun l3 n3 => ?_⟩
    generalize hq3 : upd H2 l3 _ = H3
    obtain ⟨e3, h3⟩ := gen1 hq3 n3
    have e03 := e02.trans e3
    refine .inr (.inr (.inl ⟨pt, l3, _, _, rfl, rfl, e03 _ _ hpt, h3, by rw [List.length_map]; exact Nat.le_trans (show ts.length + 1 ≤ 5 by omega) (by show 5 ≤ sizeLine; decide), fun l4 n4 => ?_⟩))
    generalize hq4 : upd H3 l4 _ = H4
    obtain ⟨e4, h4⟩ := gen1 hq4 n4
    rw [show ts.map V.str ++ [V.str "zzzzz"] = (ts ++ (["zzzzz"] : List Str)).map V.str from by rw [List.map_append]; rfl] at h4
    have e04 := e03.trans e4
    have hl5 : (ts ++ (["zzzzz"] : List Str)).length ≤ 5 := by
      rw [List.length_append]
      show ts.length + 1 ≤ 5
      omega
    refine ⟨l4, ts ++ (["zzzzz"] : List Str), rfl, h4, by omega, fun H5 wa vw e5 _ hwa hall _ => ?_⟩
    have e05 := e04.trans e5
    have hzz : isNm "zzzzz" = true := by decide +kernel
    have hnt : ∀ z ∈ ts ++ (["zzzzz"] : List Str), isNm z = true := fun z hz => by
      rcases List.mem_append.mp hz with hz | hz
      · exact hw.nt z hz
      · rw [List.mem_singleton.mp hz]
        exact hzz
    have hgw : ∀ a ∈ allA (ts ++ (["zzzzz"] : List Str)), gA a := fun a ha => by
      obtain ⟨m1, m2, m3⟩ := mem_allA ha
      exact gA_of hnt (isR_of m1) (.inr m2) (.inr m3)
    have hwl := allA_len hl5
    have hvl := hall.len
    have hlbl : ∀ z ∈ ns ++ nl, isNm z = true := fun z hz => by
      rcases List.mem_append.mp hz with hz | hz
      · exact hw.nn z hz
      · exact hnn z hz
    have hlb5 : (ns ++ nl).length = 5 := by rw [List.length_append]; omega
    obtain ⟨l0, hl0⟩ : ∃ z, (ns ++ nl)[0]? = some z := ⟨_, List.getElem?_eq_getElem (by omega)⟩
    obtain ⟨l1, hl1⟩ : ∃ z, (ns ++ nl)[1]? = some z := ⟨_, List.getElem?_eq_getElem (by omega)⟩
    have nl0 := hlbl l0 (List.mem_of_getElem? hl0)
    have nl1 := hlbl l1 (List.mem_of_getElem? hl1)
    have vl0 : ((ns ++ nl).map V.str)[0]? = some (.str l0) := by rw [List.getElem?_map, hl0]; rfl
    have vl1 : ((ns ++ nl).map V.str)[1]? = some (.str l1) := by rw [List.getElem?_map, hl1]; rfl
    refine ⟨by show 2 ≤ sizeLine; decide, fun t6 n6 => ?_⟩
    generalize hq6 : upd H5 t6 _ = H6
    obtain ⟨e6, h6⟩ := gen1 hq6 n6
    refine ⟨t6, _, rfl, st_of h6, rfl, _, _, rfl, _, _, rfl, rfl, ?_⟩
    refine ⟨by show 0 ≤ sizeLine; decide, fun F nF => ?_⟩
    generalize hq7 : upd H6 F _ = H7
    obtain ⟨e7, h7⟩ := gen1 hq7 nF
    have e06 := e05.trans e6
    have hla6 : H6 la = some (.lst ((ns ++ nl).map V.str)) := (((e3.trans e4).trans e5).trans e6) _ _ h2
    have hwa6 : H6 wa = some (.lst vw) := e6 _ _ hwa
    have hall6 : AllAt H6 vw (allA (ts ++ (["zzzzz"] : List Str))) := hall.tex (TEx.of e6)
    have laF : la ≠ F := fun z => by rw [z, nF] at hla6; cases hla6
    have waF : wa ≠ F := fun z => by rw [z, nF] at hwa6; cases hwa6
    have hu1 := hk1.ex e06
    have hu2 := hk2.ex e06
    have hb6 := hb.ex e06
    have f7 : Fd H6 H7 F [] [] := ⟨nF, e7, h7, trivial, fun rs hr => by cases hr⟩
    -- the first tries
    have tos : TEx H6 H7 := TEx.of e7
    refine .inl ⟨_, rfl, 3, rfl, .inl ⟨la, _, rfl, sq_of (e7 _ _ hla6), fun l8 n8 => ?_⟩⟩
    rw [show (some (3 : Int)) = some ((3 : Nat) : Int) from rfl, cut_to]
    generalize hq8 : upd H7 l8 _ = H8
    obtain ⟨e8, h8⟩ := gen1 hq8 n8
    have l8F : l8 ≠ F := fun z => by rw [z, h7] at n8; cases n8
    have f8 : Fd H6 H8 F [] [] := ⟨nF, e7.trans e8, e8 _ _ h7, trivial, fun rs hr => by cases hr⟩
    refine ⟨l8, rfl, ⟨_, sq_of h8⟩, ?_⟩
    refine frG (walk_list (xs := ((ns ++ nl).map V.str).take 3)) (fun i σ H' => ∃ (x7 x8 x9 x10 x11 x12 x13 : Option V) (ys : List V) (ls : List (List Rw)), σ = [some (.ref b), some (.ref d), some u1, some u2, some (.ref la), some (.ref wa), some (.ref F), x7, x8, x9, x10, x11, x12, x13] ∧ Fd H6 H' F ys ls ∧ ExB F H8 H' ∧ TEx H8 H' ∧ ls.length ≤ 60 * i)
      ⟨_, _, _, _, _, _, _, [], [], rfl, f8, ExB.refl _ _, TEx.refl _, Nat.zero_le _⟩ (fun i σ H' _ ⟨_, _, _, _, _, _, _, _, _, _, _, x, _⟩ => sq_of (x _ _ l8F h8)) ?_ ?_
    · rintro i x σ H9 H10 hi ⟨x7, x8, x9, x10, x11, x12, x13, ys, ls, rfl, fd, xb, tx, hll⟩ ⟨rfl, hx⟩
      have hi3 : i < 3 := by
        have : i < (((ns ++ nl).map V.str).take 3).length := hi
        rw [List.length_take] at this
        omega
      obtain ⟨nm, hnm, rfl⟩ : ∃ nm, nm ∈ ns ++ nl ∧ x = .str nm := by
        have := List.mem_of_mem_take (List.mem_of_getElem? hx)
        obtain ⟨nm, h1, h2⟩ := List.mem_map.mp this
        exact ⟨nm, h1, h2.symm⟩
      have nnm := hlbl nm hnm
      obtain ⟨m, hm50, hrg⟩ := rg2 vw.length (by omega)
      refine ⟨_, rfl, .inl ⟨wa, _, rfl, .inl (sq_of (fd.ex _ _ hwa6)), ?_⟩⟩
      refine ⟨0, (vw.length : Int), 2, m, rfl, hrg, ?_⟩
      refine frG (walk_rangeC (lo := 0) (c := 2) (n := m)) (fun j σ H' => ∃ (x8 x9 x10 x11 x12 x13 : Option V) (ys : List V) (ls : List (List Rw)), σ = [some (.ref b), some (.ref d), some u1, some u2, some (.ref la), some (.ref wa), some (.ref F), some (.str nm), x8, x9, x10, x11, x12, x13] ∧ Fd H6 H' F ys ls ∧ ExB F H8 H' ∧ TEx H8 H' ∧ ls.length ≤ 60 * i + j)
        ⟨_, _, _, _, _, _, ys, ls, rfl, fd, xb, tx, by omega⟩ (fun _ _ _ _ _ => trivial) ?_ ?_
      · rintro j x σ H11 H12 hj ⟨x8, x9, x10, x11, x12, x13, ys, ls, rfl, fd, xb, tx, hll⟩ ⟨rfl, hxj⟩
        obtain ⟨kk, hkk⟩ : ∃ kk : Nat, x = .int (kk : Int) := ⟨j * 2, by rw [hxj]; show V.int ((0 : Int) + (j : Nat) * 2) = _; rw [show (0 : Int) + (j : Nat) * 2 = ((j * 2 : Nat) : Int) by omega]⟩
        subst hkk
        have hwa11 := fd.ex _ _ hwa6
        have hall11 := hall6.tex (TEx.of fd.ex)
        refine ⟨_, rfl, .inl ⟨rfl, _, sq_of fd.hF⟩, ?_⟩
        refine .inl ⟨_, rfl, _, rfl, _, rfl, _, rfl, .inl ⟨_, 3, rfl, rfl, _, rfl, ?_⟩⟩
        refine .inl ⟨wa, _, rfl, sq_of hwa11, fun l13 n13 => ?_⟩
        rw [show ((kk : Int) + 3) = ((kk + 3 : Nat) : Int) from rfl]
        generalize hq13 : upd H12 l13 _ = H13
        obtain ⟨e13, h13⟩ := gen1 hq13 n13
        refine ⟨l13, rfl, ⟨_, sq_of h13⟩, ?_⟩
        have few := cut_few vw kk (kk + 3)
        refine lcG (walk_list (xs := cutV vw (some (kk : Int)) (some ((kk + 3 : Nat) : Int)))) (by omega) (sq_of h13) (fun _ _ e h => ex_l e h) yAt_ex (fun i zs H' => ∃ rs : List Rw, AllRw H' zs rs ∧ rs.length = i ∧ ∀ r ∈ rs, gR r ∧ 1 ≤ r.2.length)
          (fun _ _ _ _ e ⟨rs, h1, h2⟩ => ⟨rs, h1.tex e, h2⟩) ⟨[], trivial, rfl, fun a ha => by cases ha⟩ ?_ ?_
        · rintro i2 x H14 H15 zs hi2 e14 ⟨rfl, hx2⟩ ⟨rs, hA, hal, hR⟩ N N0 kN kN0
          obtain ⟨a, ha, haa⟩ := (hall11.tex (TEx.of (e13.trans e14))).mem (cut_mem (List.mem_of_getElem? hx2))
          refine ⟨rfl, ?_⟩
          refine ⟨_, rfl, _, rfl, by show 1 ≤ sizeLine; decide, fun t1 m1 => ?_⟩
          generalize hq16 : upd H15 t1 _ = H16
          obtain ⟨e16, h16⟩ := gen1 hq16 m1
          refine ⟨by show 2 ≤ sizeLine; decide, fun t2 m2 => ?_⟩
          generalize hq17 : upd H16 t2 _ = H17
          obtain ⟨e17, h17⟩ := gen1 hq17 m2
          have e1517 := e16.trans e17
          refine kN _ _ e1517 ⟨rs ++ [oneR nm a], AllRw.snoc (row_one (e17 _ _ h16) h17 (haa.ex e1517)) (hA.tex (TEx.of e1517)), by rw [List.length_append, hal]; rfl, fun r hr => ?_⟩
          rcases List.mem_append.mp hr with hr | hr
          · exact hR r hr
          · rw [List.mem_singleton.mp hr]
            exact okR_one nnm (hgw a ha)
        · rintro l14 H14 zs hl14 e14 h14 _ ⟨rs, hA, hal, hR⟩
          have l14F : l14 ≠ F := fun z => by rw [z, e13 _ _ fd.hF] at hl14; cases hl14
          have e1214 := e13.trans e14
          obtain ⟨fd2, xb2, tx2⟩ := fd.ext e1214 (zs := [.ref l14]) (ms := [rs]) ⟨⟨l14, zs, rfl, l14F, h14, hA⟩, trivial⟩ (fun r hr => by
            rw [List.mem_singleton.mp hr]
            exact ⟨⟨by omega, hR⟩, by omega⟩)
          have hyl := fd.rl.len
          refine ⟨F, _, _, rfl, rfl, e1214 _ _ fd.hF, sz_lt (by omega), ?_⟩
          exact ⟨_, _, _, _, _, _, _, _, rfl, fd2, xb.tr xb2, tx.trans tx2, by rw [List.length_append]; show ls.length + 1 ≤ _; omega⟩
      · rintro σ H11 ⟨x8, x9, x10, x11, x12, x13, ys, ls, rfl, fd, xb, tx, hll⟩
        exact ⟨_, _, _, _, _, _, _, ys, ls, rfl, fd, xb, tx, by omega⟩
    · rintro σ H9 ⟨x7, x8, x9, x10, x11, x12, x13, ys, ls, rfl, fd, xb, tx, hll⟩
      have hll : ls.length ≤ 180 := by
        have : (((ns ++ nl).map V.str).take 3).length ≤ 3 := List.length_take_le _ _
        omega
      -- the tries for each of both
      refine .inr (.inl ⟨_, rfl, _, rfl, by show 2 ≤ sizeLine; decide, fun t10 n10 => ?_⟩)
      generalize hq10 : upd H9 t10 _ = H10
      obtain ⟨e10, h10⟩ := gen1 hq10 n10
      have fd10 : Fd H6 H10 F ys ls := ⟨fd.nF, fd.ex.trans e10, e10 _ _ fd.hF, fd.rl.mv (exb e10) (TEx.of e10), fd.ok⟩
      refine ⟨t10, rfl, ⟨_, st_of h10⟩, ?_⟩
      refine frG (walk_tup (xs := [u1, u2])) (fun i σ H' => ∃ (x7 x8 x9 x10 x11 x12 x13 : Option V) (ys : List V) (ls : List (List Rw)), σ = [some (.ref b), some (.ref d), some u1, some u2, some (.ref la), some (.ref wa), some (.ref F), x7, x8, x9, x10, x11, x12, x13] ∧ Fd H6 H' F ys ls ∧ ExB F H10 H' ∧ TEx H10 H' ∧ ls.length ≤ 180 + 400 * i ∧ (1 ≤ i → Req (allA (ts ++ (["zzzzz"] : List Str))) ls k1) ∧ (2 ≤ i → Req (allA (ts ++ (["zzzzz"] : List Str))) ls k2))
        ⟨_, _, _, _, _, _, _, ys, ls, rfl, fd10, ExB.refl _ _, TEx.refl _, by omega, fun h => absurd h (by decide), fun h => absurd h (by decide)⟩ (fun i σ H' _ ⟨_, _, _, _, _, _, _, _, _, _, _, _, t, _⟩ => st_of (t _ _ h10)) ?_ ?_
      · rintro i x σ H11 H12 hi ⟨x7, x8, x9, x10, x11, x12, x13, ys, ls, rfl, fd, xb, tx, hll, req1, req2⟩ ⟨rfl, hx⟩
        have hi2 : i < 2 := hi
        obtain ⟨kp, hkp, hgk, hsel⟩ : ∃ kp, PkAt H12 x kp ∧ gK kp ∧ ((i = 0 ∧ kp = k1) ∨ (i = 1 ∧ kp = k2)) := by
          have q2 : i = 0 ∨ i = 1 := by omega
          rcases q2 with rfl | rfl
          · cases hx
            exact ⟨k1, hu1.ex fd.ex, hg1, .inl ⟨rfl, rfl⟩⟩
          · cases hx
            exact ⟨k2, hu2.ex fd.ex, hg2, .inr ⟨rfl, rfl⟩⟩
        obtain ⟨p, z, xs, rfl, hp, hask⟩ := hkp.ask
        have hla12 := fd.ex _ _ hla6
        have hwa12 := fd.ex _ _ hwa6
        have hall12 := hall6.tex (TEx.of fd.ex)
        -- the atoms that fit
        refine .inl ⟨_, rfl, wa, rfl, ⟨_, sq_of hwa12⟩, ?_⟩
        refine lcG (walk_list (xs := vw)) (by omega) (sq_of hwa12) (fun _ _ e h => ex_l e h) yAt_ex (fun i zs H' => AllAt H' zs (((allA (ts ++ (["zzzzz"] : List Str))).take i).filter (gP kp))) (fun _ _ _ _ e h => h.tex e) trivial ?_ ?_
        · rintro j y H13 H14 zs hj e13 ⟨rfl, hy⟩ hz N N0 kN kN0
          obtain ⟨a, ha, haa⟩ := (hall12.tex (TEx.of e13)).at hy
          have step : ((allA (ts ++ (["zzzzz"] : List Str))).take (j + 1)).filter (gP kp) = ((allA (ts ++ (["zzzzz"] : List Str))).take j).filter (gP kp) ++ if gP kp a = true then [a] else [] := by
            rw [tk ha, List.filter_append, List.filter_cons, List.filter_nil]
          have yes : gP kp a = true → ∀ H', Ex H14 H' → N y H' := fun h H' e' => kN _ _ e' (by
            rw [step, if_pos h]
            exact AllAt.snoc (haa.ex e') (hz.tex (TEx.of e')))
          have no : gP kp a = false → ∀ H', Ex H14 H' → N0 H' := fun h H' e' => kN0 _ e' (by
            rw [step, if_neg (by rw [h]; decide), List.append_nil]
            exact hz.tex (TEx.of e'))
          refine ⟨rfl, ?_⟩
          refine ⟨_, rfl, .inr (.inl ⟨p, _, 0, _, rfl, rfl, st_of (e13 _ _ hp), atI_nat (j := 0) rfl, ?_⟩)⟩
          refine ⟨by show 2 ≤ sizeLine; decide, fun t15 n15 => ?_⟩
          generalize hq15 : upd H14 t15 _ = H15
          obtain ⟨e15, h15⟩ := gen1 hq15 n15
          refine .inl ⟨t15, _, rfl, .inr (st_of h15), rfl, rfl, _, rfl, ?_⟩
          rcases hask with ⟨hin, u, pat, rfl, hu, hk⟩ | ⟨hin, hk⟩
          · have hgp : gP kp a = fitB pat a := by
              cases kp with
              | like p0 => rw [show pat = p0 from hk.symm]; rfl
              | all p0 => rw [show pat = p0 from hk.symm]; rfl
              | nm z0 => obtain ⟨p9, h9, h91⟩ := hkp; cases h9; rw [hp] at h91; cases h91; exact absurd hin (by decide +kernel)
              | pl i0 => obtain ⟨p9, h9, h91⟩ := hkp; cases h9; rw [hp] at h91; cases h91; exact absurd hin (by decide +kernel)
              | last => obtain ⟨p9, h9, h91⟩ := hkp; cases h9; rw [hp] at h91; cases h91
            refine ifT hin ?_
            refine ⟨_, rfl, .inr (.inl ⟨p, _, 1, _, rfl, rfl, st_of ((e13.trans e15) _ _ hp), atI_nat (j := 1) rfl, ?_⟩)⟩
            refine ⟨_, rfl, u, y, pat, a, rfl, hu.ex (e13.trans e15), haa.ex e15, fun H16 e16 => ⟨_, rfl, ?_⟩⟩
            rw [← hgp]
            cases hg : gP kp a with
            | true => exact iteT ⟨_, rfl, yes hg _ (e15.trans e16)⟩
            | false => exact iteF (no hg _ (e15.trans e16))
          · have hgp : gP kp a = false := by
              cases kp with
              | like p0 => obtain ⟨p9, u9, h9, h91, _⟩ := hkp; cases h9; rw [hp] at h91; cases h91; exact absurd hin (by decide +kernel)
              | all p0 => obtain ⟨p9, u9, h9, h91, _⟩ := hkp; cases h9; rw [hp] at h91; cases h91; exact absurd hin (by decide +kernel)
              | nm z0 => rfl
              | pl i0 => rfl
              | last => rfl
            exact ifF hin (iteF (no hgp _ e15))
        · rintro fl H13 fv hfl e13 h13 hfn hfit
          rw [hvl, List.take_length] at hfit
          have hflF : fl ≠ F := fun z => by rw [z, fd.hF] at hfl; cases hfl
          have hfl_len := hfit.lenE
          have hfew : ((allA (ts ++ (["zzzzz"] : List Str))).filter (gP kp)).length ≤ 75 := Nat.le_trans (List.length_filter_le _ _) hwl
          have hgf : ∀ a ∈ ((allA (ts ++ (["zzzzz"] : List Str))).filter (gP kp)), gA a := fun a ha => hgw a (List.mem_filter.mp ha).1
          refine ⟨_, rfl, .inl ⟨rfl, _, sq_of (e13 _ _ fd.hF)⟩, ?_⟩
          refine .inl ⟨_, rfl, fl, rfl, ⟨_, sq_of h13⟩, ?_⟩
          refine lcL (walk_list (xs := fv)) (sq_of h13) (fun _ _ e h => ex_l e h) yAt_ex (by omega) (fun D i zs H' => RlAll H' (fun p => p ≠ F ∧ p ≠ D) zs ((((allA (ts ++ (["zzzzz"] : List Str))).filter (gP kp)).take i).map fun a => rows2 l0 l1 a a)) (fun D _ _ _ _ t e h => h.mv (fun a o n h => e a o n.2 h) t) (fun _ => trivial) ?_ ?_
          · rintro D j y H14 H15 zs hj e14 ⟨rfl, hy⟩ hDn hDs hz N N0 kN kN0
            obtain ⟨a, ha, haa⟩ := (hfit.tex (TEx.of e14)).at hy
            refine ⟨rfl, ?_⟩
            have hla15 := (e13.trans e14) _ _ hla12
            have hF15 := (e13.trans e14) _ _ fd.hF
            refine ⟨_, rfl, .inl ⟨la, _, 0, _, rfl, rfl, sq_of hla15, atI_nat (j := 0) vl0, ?_⟩⟩
            refine ⟨_, rfl, by show 1 ≤ sizeLine; decide, fun t1 m1 => ?_⟩
            generalize hq16 : upd H15 t1 _ = H16
            obtain ⟨e16, h16⟩ := gen1 hq16 m1
            refine ⟨by show 2 ≤ sizeLine; decide, fun t2 m2 => ?_⟩
            generalize hq17 : upd H16 t2 _ = H17
            obtain ⟨e17, h17⟩ := gen1 hq17 m2
            refine ⟨_, rfl, .inl ⟨la, _, 1, _, rfl, rfl, sq_of ((e16.trans e17) _ _ hla15), atI_nat (j := 1) vl1, ?_⟩⟩
            refine ⟨_, rfl, by show 1 ≤ sizeLine; decide, fun t3 m3 => ?_⟩
            generalize hq18 : upd H17 t3 _ = H18
            obtain ⟨e18, h18⟩ := gen1 hq18 m3
            refine ⟨by show 2 ≤ sizeLine; decide, fun t4 m4 => ?_⟩
            generalize hq19 : upd H18 t4 _ = H19
            obtain ⟨e19, h19⟩ := gen1 hq19 m4
            refine ⟨by show 2 ≤ sizeLine; decide, fun l20 m20 => ?_⟩
            generalize hq20 : upd H19 l20 _ = H20
            obtain ⟨e20, h20⟩ := gen1 hq20 m20
            have e1519 := ((e16.trans e17).trans e18).trans e19
            have e1520 := e1519.trans e20
            have e1720 := (e18.trans e19).trans e20
            refine kN _ _ e1520 ?_
            rw [tk ha, List.map_append]
            refine RlAll.snoc ⟨l20, _, rfl, ⟨fun z => ?_, fun z => ?_⟩, h20, show AllRw H20 [.ref t2, .ref t4] [oneR l0 a, oneR l1 a] from ⟨row_one ((e17.trans e1720) _ _ h16) (e1720 _ _ h17) (haa.ex e1520), row_one ((e19.trans e20) _ _ h18) (e20 _ _ h19) (haa.ex e1520), trivial⟩⟩ (hz.mv (fun a o _ h => e1520 a o h) (TEx.of e1520))
            · rw [z, e1519 _ _ hF15] at m20
              cases m20
            · rw [z, e1519 _ _ hDs] at m20
              cases m20
          · rintro l21 H21 zs hl21 e21 h21 _ hz
            have hms : ((allA (ts ++ (["zzzzz"] : List Str))).filter (gP kp)).take fv.length = ((allA (ts ++ (["zzzzz"] : List Str))).filter (gP kp)) := by rw [hfl_len, List.take_length]
            rw [hms] at hz
            have e1221 := e13.trans e21
            obtain ⟨fd2, xb2, tx2⟩ := fd.ext e1221 (hz.wk fun _ h => h.1) (fun rs hr => by
              obtain ⟨a, ha, rfl⟩ := List.mem_map.mp hr
              exact okR_two nl0 nl1 (hgf a ha) (hgf a ha))
            have hyl := fd.rl.len
            have hzl := hz.len
            rw [List.length_map] at hzl
            refine ⟨F, l21, _, _, rfl, rfl, e1221 _ _ fd.hF, h21, Nat.le_trans (show ys.length + zs.length ≤ 2000 by omega) (by show 2000 ≤ sizeLine; decide), ?_⟩
            have hfl22 : (upd H21 F (.lst (ys ++ zs))) fl = some (.lst fv) := by
              rw [upd_ne hflF]
              exact e21 _ _ h13
            have hfit22 : AllAt (upd H21 F (.lst (ys ++ zs))) fv ((allA (ts ++ (["zzzzz"] : List Str))).filter (gP kp)) := hfit.tex ((TEx.of e21).trans (TEx.lst (e1221 _ _ fd.hF)))
            obtain ⟨H22, hH22⟩ : ∃ H22, upd H21 F (.lst (ys ++ zs)) = H22 := ⟨_, rfl⟩
            rw [hH22] at fd2 xb2 tx2 hfl22 hfit22 ⊢
            have sub0 : ∀ rs ∈ ls, rs ∈ ls ++ ((allA (ts ++ (["zzzzz"] : List Str))).filter (gP kp)).map fun a => rows2 l0 l1 a a := fun rs hr => List.mem_append_left _ hr
            have all0 : ∀ a ∈ ((allA (ts ++ (["zzzzz"] : List Str))).filter (gP kp)), rows2 l0 l1 a a ∈ ls ++ ((allA (ts ++ (["zzzzz"] : List Str))).filter (gP kp)).map fun a => rows2 l0 l1 a a := fun a ha => List.mem_append_right _ (List.mem_map.mpr ⟨a, ha, rfl⟩)
            have len0 : (ls ++ ((allA (ts ++ (["zzzzz"] : List Str))).filter (gP kp)).map fun a => rows2 l0 l1 a a).length ≤ 180 + 400 * i + 75 := by
              rw [List.length_append, List.length_map]
              omega
            generalize (ls ++ ((allA (ts ++ (["zzzzz"] : List Str))).filter (gP kp)).map fun a => rows2 l0 l1 a a) = ls2 at fd2 sub0 all0 len0
            generalize ys ++ zs = ys2 at fd2
            -- each atom behind one that fits
            have hwa22 := fd2.ex _ _ hwa6
            refine .inl ⟨_, rfl, wa, rfl, ⟨_, sq_of hwa22⟩, ?_⟩
            refine frG (walk_list (xs := vw)) (fun j σ H' => ∃ (x7 x8 x9 x12 x13 : Option V) (ys : List V) (ls : List (List Rw)), σ = [some (.ref b), some (.ref d), some u1, some u2, some (.ref la), some (.ref wa), some (.ref F), x7, x8, x9, some (.ref p), some (.ref fl), x12, x13] ∧ Fd H6 H' F ys ls ∧ ExB F H22 H' ∧ TEx H22 H' ∧ ls.length ≤ 180 + 400 * i + 75 + 3 * j ∧ (∀ rs ∈ ls2, rs ∈ ls) ∧ ∀ (n : Nat) (b : A3), n < j → (allA (ts ++ (["zzzzz"] : List Str)))[n]? = some b → ∀ its ∈ ((allA (ts ++ (["zzzzz"] : List Str))).filter (gP kp)).drop (((allA (ts ++ (["zzzzz"] : List Str))).filter (gP kp)).length - 3), rows2 l0 l1 its b ∈ ls)
              ⟨_, _, _, _, _, ys2, ls2, rfl, fd2, ExB.refl _ _, TEx.refl _, len0, fun _ h => h, fun n b hn => absurd hn (Nat.not_lt_zero _)⟩ (fun j σ H' _ ⟨_, _, _, _, _, _, _, _, _, xx, _⟩ => sq_of (xx _ _ waF hwa22)) ?_ ?_
            · rintro j y σ H23 H24 hj ⟨x7, x8, x9, x12, x13, ys, ls, rfl, fd3, xb3, tx3, hll3, sub3, all3⟩ ⟨rfl, hy⟩
              obtain ⟨a2, ha2, haa2⟩ := (hall6.tex (TEx.of fd3.ex)).at hy
              have hfl24 := xb3 _ _ hflF hfl22
              have hfit24 := hfit22.tex tx3
              refine ⟨_, rfl, .inl ⟨rfl, _, sq_of fd3.hF⟩, ?_⟩
              refine .inl ⟨_, rfl, 3, rfl, _, rfl, .inl ⟨fl, _, rfl, sq_of hfl24, fun l3 n3 => ?_⟩⟩
              rw [show cutV fv (some (-3)) none = _ from cut_3 fv]
              generalize hq13 : upd H24 l3 _ = H13b
              obtain ⟨e13b, h13b⟩ := gen1 hq13 n3
              refine ⟨l3, rfl, ⟨_, sq_of h13b⟩, ?_⟩
              have hfitd : AllAt H13b (fv.drop (fv.length - 3)) (((allA (ts ++ (["zzzzz"] : List Str))).filter (gP kp)).drop (((allA (ts ++ (["zzzzz"] : List Str))).filter (gP kp)).length - 3)) := by
                rw [hfl_len]
                exact (hfit24.tex (TEx.of e13b)).drop _
              have hdl := hfitd.lenE
              have hd3 : (fv.drop (fv.length - 3)).length ≤ 3 := by rw [List.length_drop]; omega
              refine lcL (walk_list (xs := fv.drop (fv.length - 3))) (sq_of h13b) (fun _ _ e h => ex_l e h) yAt_ex (by omega) (fun D i zs H' => RlAll H' (fun p => p ≠ F ∧ p ≠ D) zs (((((allA (ts ++ (["zzzzz"] : List Str))).filter (gP kp)).drop (((allA (ts ++ (["zzzzz"] : List Str))).filter (gP kp)).length - 3)).take i).map fun its => rows2 l0 l1 its a2)) (fun D _ _ _ _ t e h => h.mv (fun a o n h => e a o n.2 h) t) (fun _ => trivial) ?_ ?_
              · rintro D j2 y2 H14 H15 zs hj2 e14 ⟨rfl, hy2⟩ hDn hDs hz N N0 kN kN0
                obtain ⟨a, ha, haa⟩ := (hfitd.tex (TEx.of e14)).at hy2
                have haa3 := haa2.ex (e13b.trans e14)
                refine ⟨rfl, ?_⟩
                have hla15 := (e13b.trans e14) _ _ (fd3.ex _ _ hla6)
                have hF15 := (e13b.trans e14) _ _ fd3.hF
                refine ⟨_, rfl, .inl ⟨la, _, 0, _, rfl, rfl, sq_of hla15, atI_nat (j := 0) vl0, ?_⟩⟩
                refine ⟨_, rfl, by show 1 ≤ sizeLine; decide, fun t1 m1 => ?_⟩
                generalize hq16 : upd H15 t1 _ = H16
                obtain ⟨e16, h16⟩ := gen1 hq16 m1
                refine ⟨by show 2 ≤ sizeLine; decide, fun t2 m2 => ?_⟩
                generalize hq17 : upd H16 t2 _ = H17
                obtain ⟨e17, h17⟩ := gen1 hq17 m2
                refine ⟨_, rfl, .inl ⟨la, _, 1, _, rfl, rfl, sq_of ((e16.trans e17) _ _ hla15), atI_nat (j := 1) vl1, ?_⟩⟩
                refine ⟨_, rfl, by show 1 ≤ sizeLine; decide, fun t3 m3 => ?_⟩
                generalize hq18 : upd H17 t3 _ = H18
                obtain ⟨e18, h18⟩ := gen1 hq18 m3
                refine ⟨by show 2 ≤ sizeLine; decide, fun t4 m4 => ?_⟩
                generalize hq19 : upd H18 t4 _ = H19
                obtain ⟨e19, h19⟩ := gen1 hq19 m4
                refine ⟨by show 2 ≤ sizeLine; decide, fun l20 m20 => ?_⟩
                generalize hq20 : upd H19 l20 _ = H20
                obtain ⟨e20, h20⟩ := gen1 hq20 m20
                have e1519 := ((e16.trans e17).trans e18).trans e19
                have e1520 := e1519.trans e20
                have e1720 := (e18.trans e19).trans e20
                refine kN _ _ e1520 ?_
                rw [tk ha, List.map_append]
                refine RlAll.snoc ⟨l20, _, rfl, ⟨fun z => ?_, fun z => ?_⟩, h20, show AllRw H20 [.ref t2, .ref t4] [oneR l0 a, oneR l1 a2] from ⟨row_one ((e17.trans e1720) _ _ h16) (e1720 _ _ h17) (haa.ex e1520), row_one ((e19.trans e20) _ _ h18) (e20 _ _ h19) (haa3.ex e1520), trivial⟩⟩ (hz.mv (fun a o _ h => e1520 a o h) (TEx.of e1520))
                · rw [z, e1519 _ _ hF15] at m20
                  cases m20
                · rw [z, e1519 _ _ hDs] at m20
                  cases m20
              · rintro l21 H21 zs hl21 e21 h21 _ hz
                have hms : (((allA (ts ++ (["zzzzz"] : List Str))).filter (gP kp)).drop (((allA (ts ++ (["zzzzz"] : List Str))).filter (gP kp)).length - 3)).take (fv.drop (fv.length - 3)).length = ((allA (ts ++ (["zzzzz"] : List Str))).filter (gP kp)).drop (((allA (ts ++ (["zzzzz"] : List Str))).filter (gP kp)).length - 3) := by rw [hdl, List.take_length]
                rw [hms] at hz
                have e2421 := e13b.trans e21
                obtain ⟨fd4, xb4, tx4⟩ := fd3.ext e2421 (hz.wk fun _ h => h.1) (fun rs hr => by
                  obtain ⟨a, ha, rfl⟩ := List.mem_map.mp hr
                  exact okR_two nl0 nl1 (hgf a (List.mem_of_mem_drop ha)) (hgw a2 (List.mem_of_getElem? ha2)))
                have hyl := fd3.rl.len
                have hzl := hz.len
                rw [List.length_map] at hzl
                refine ⟨F, l21, _, _, rfl, rfl, e2421 _ _ fd3.hF, h21, Nat.le_trans (show ys.length + zs.length ≤ 3000 by omega) (by show 3000 ≤ sizeLine; decide), ?_⟩
                refine ⟨_, _, _, _, _, _, _, rfl, fd4, xb3.tr xb4, tx3.trans tx4, by rw [List.length_append, List.length_map]; omega, fun rs hr => List.mem_append_left _ (sub3 rs hr), fun n b' hn hb' its hits => ?_⟩
                by_cases hnj : n < j
                · exact List.mem_append_left _ (all3 n b' hnj hb' its hits)
                · have : n = j := by omega
                  subst this
                  rw [ha2] at hb'
                  cases hb'
                  exact List.mem_append_right _ (List.mem_map.mpr ⟨its, hits, rfl⟩)
            · rintro σ H23 ⟨x7, x8, x9, x12, x13, ys, ls, rfl, fd3, xb3, tx3, hll3, sub3, all3⟩
              have reqp : Req (allA (ts ++ (["zzzzz"] : List Str))) ls kp := req_of (fun a ha => sub3 _ (all0 a ha)) (fun b' hb' its hits => by
                obtain ⟨n, hn, he⟩ := List.getElem_of_mem hb'
                exact all3 n b' (by omega) (by rw [List.getElem?_eq_getElem hn, he]) its hits)
              have tx1223 : TEx H12 H23 := tx2.trans tx3
              have hp23 : H23 p = some (.tup (V.str z :: xs)) := tx1223 _ _ hp
              have fin : ∀ (H' : Hp) (ys : List V) (ls3 : List (List Rw)), Fd H6 H' F ys ls3 → ExB F H23 H' → TEx H23 H' → (∀ rs ∈ ls, rs ∈ ls3) → ls3.length ≤ 180 + 400 * (i + 1) → (∃ (y7 y8 y9 y10 y11 y12 y13 : Option V) (ys : List V) (ls : List (List Rw)), [some (V.ref b), some (.ref d), some u1, some u2, some (.ref la), some (.ref wa), some (.ref F), x7, x8, x9, some (.ref p), some (.ref fl), x12, x13] = [some (V.ref b), some (.ref d), some u1, some u2, some (.ref la), some (.ref wa), some (.ref F), y7, y8, y9, y10, y11, y12, y13] ∧ Fd H6 H' F ys ls ∧ ExB F H10 H' ∧ TEx H10 H' ∧ ls.length ≤ 180 + 400 * (i + 1) ∧ (1 ≤ i + 1 → Req (allA (ts ++ (["zzzzz"] : List Str))) ls k1) ∧ (2 ≤ i + 1 → Req (allA (ts ++ (["zzzzz"] : List Str))) ls k2)) := by
                intro H' ys' ls3 fd' xb' tx' sub' hl'
                refine ⟨_, _, _, _, _, _, _, ys', ls3, rfl, fd', ((xb.tr xb2).tr xb3).tr xb', (tx.trans tx1223).trans tx', hl', fun _ => ?_, fun h2 => ?_⟩
                · rcases hsel with ⟨rfl, rfl⟩ | ⟨rfl, rfl⟩
                  · exact reqp.mono sub'
                  · exact ((req1 (Nat.le_refl _)).mono fun rs hr => sub3 _ (sub0 _ hr)).mono sub'
                · rcases hsel with ⟨rfl, rfl⟩ | ⟨rfl, rfl⟩
                  · exact absurd h2 (by decide)
                  · exact reqp.mono sub'
              refine ⟨_, rfl, .inr (.inl ⟨p, _, 0, _, rfl, rfl, st_of hp23, atI_nat (j := 0) rfl, ?_⟩)⟩
              refine .inl ⟨rfl, _, rfl, ?_⟩
              rw [str_dec]
              by_cases hzn : z = "name"
              · rw [decide_eq_true hzn]
                subst hzn
                obtain ⟨nmz, rfl, hnmz⟩ := hkp.nmw hgk hp
                obtain ⟨v0, hv0⟩ : ∃ v0, vw[0]? = some v0 := ⟨_, List.getElem?_eq_getElem (by
                  obtain ⟨a, ha, _⟩ := any_fit (z := "zzzzz") (goodT_nul ts) (x := ts[0]) (List.getElem_mem (by omega))
                  have := List.length_pos_of_mem ha
                  omega)⟩
                have hvne : vw ≠ [] := fun e => by rw [e] at hv0; cases hv0
                obtain ⟨vz, hvz, hvzl⟩ := at_last hvne
                have hlbne : (ns ++ nl).map V.str ≠ [] := fun e => by
                  have := congrArg List.length e
                  rw [List.length_map, hlb5] at this
                  cases this
                obtain ⟨lz, hlz, hlzl⟩ := at_last hlbne
                obtain ⟨zl, hzl, rfl⟩ := List.mem_map.mp hlz
                have hall23 := hall6.tex (TEx.of fd3.ex)
                obtain ⟨a0, ha0, haa0⟩ := hall23.mem (List.mem_of_getElem? hv0)
                obtain ⟨az, haz, haaz⟩ := hall23.mem hvz
                have hla23 := fd3.ex _ _ hla6
                have hwa23 := fd3.ex _ _ hwa6
                refine iteT ⟨_, rfl, .inl ⟨rfl, _, sq_of fd3.hF⟩, ?_⟩
                refine ⟨_, rfl, .inr (.inl ⟨p, _, 1, _, rfl, rfl, st_of hp23, atI_nat (j := 1) rfl, ?_⟩)⟩
                refine ⟨_, rfl, .inl ⟨wa, _, 0, _, rfl, rfl, sq_of hwa23, atI_nat (j := 0) hv0, ?_⟩⟩
                refine ⟨by show 1 ≤ sizeLine; decide, fun t1 m1 => ?_⟩
                generalize hq24 : upd H23 t1 _ = H24
                obtain ⟨e24, h24⟩ := gen1 hq24 m1
                refine ⟨by show 2 ≤ sizeLine; decide, fun t2 m2 => ?_⟩
                generalize hq25 : upd H24 t2 _ = H25
                obtain ⟨e25, h25⟩ := gen1 hq25 m2
                refine ⟨_, rfl, 1, rfl, .inl ⟨la, _, _, _, rfl, rfl, sq_of ((e24.trans e25) _ _ hla23), hlzl, ?_⟩⟩
                refine ⟨_, rfl, 1, rfl, .inl ⟨wa, _, _, _, rfl, rfl, sq_of ((e24.trans e25) _ _ hwa23), hvzl, ?_⟩⟩
                refine ⟨by show 1 ≤ sizeLine; decide, fun t3 m3 => ?_⟩
                generalize hq26 : upd H25 t3 _ = H26
                obtain ⟨e26, h26⟩ := gen1 hq26 m3
                refine ⟨by show 2 ≤ sizeLine; decide, fun t4 m4 => ?_⟩
                generalize hq27 : upd H26 t4 _ = H27
                obtain ⟨e27, h27⟩ := gen1 hq27 m4
                refine ⟨by show 2 ≤ sizeLine; decide, fun l28 m28 => ?_⟩
                generalize hq28 : upd H27 l28 _ = H28
                obtain ⟨e28, h28⟩ := gen1 hq28 m28
                have e2327 := ((e24.trans e25).trans e26).trans e27
                have e2328 := e2327.trans e28
                have e2528 := (e26.trans e27).trans e28
                have l28F : l28 ≠ F := fun z => by rw [z, e2327 _ _ fd3.hF] at m28; cases m28
                obtain ⟨fd4, xb4, tx4⟩ := fd3.ext e2328 (zs := [.ref l28]) (ms := [[oneR nmz a0, oneR zl az]]) ⟨⟨l28, _, rfl, l28F, h28, row_one ((e25.trans e2528) _ _ h24) (e2528 _ _ h25) (haa0.ex e2328), row_one ((e27.trans e28) _ _ h26) (e28 _ _ h27) (haaz.ex e2328), trivial⟩, trivial⟩ (fun rs hr => by
                  rw [List.mem_singleton.mp hr]
                  exact okR_two hnmz (hlbl zl hzl) (hgw a0 ha0) (hgw az haz))
                have hyl := fd3.rl.len
                refine ⟨F, _, _, rfl, rfl, e2328 _ _ fd3.hF, sz_lt (by omega), ?_⟩
                exact fin _ _ _ fd4 xb4 tx4 (fun rs hr => List.mem_append_left _ hr) (by rw [List.length_append]; show ls.length + 1 ≤ _; omega)
              · rw [decide_eq_false hzn]
                exact iteF (fin _ _ _ fd3 (ExB.refl _ _) (TEx.refl _) (fun _ h => h) (by omega))
      · rintro σ H11 ⟨x7, x8, x9, x10, x11, x12, x13, ys, ls, rfl, fd, xb, tx, hll, req1, req2⟩
        have hll : ls.length ≤ 980 := hll
        have req1 := req1 (by show 1 ≤ 2; decide)
        have req2 := req2 (by show 2 ≤ 2; decide)
        have hla11 := fd.ex _ _ hla6
        have hwa11 := fd.ex _ _ hwa6
        have hall11 := hall6.tex (TEx.of fd.ex)
        refine ⟨_, rfl, .inl ⟨rfl, _, sq_of fd.hF⟩, ?_⟩
        obtain ⟨mm, hmm, hmm7, hmmn⟩ : ∃ mm : Nat, (if (7 : Int) < (vw.length : Int) then (7 : Int) else (vw.length : Int)) = (mm : Int) ∧ mm ≤ 7 ∧ mm ≤ vw.length := by
          by_cases h7 : (7 : Int) < (vw.length : Int)
          · exact ⟨7, by rw [if_pos h7]; rfl, Nat.le_refl _, by omega⟩
          · exact ⟨vw.length, by rw [if_neg h7], by omega, Nat.le_refl _⟩
        refine ⟨_, rfl, .inl ⟨wa, _, rfl, .inl (sq_of hwa11), ?_⟩⟩
        refine ⟨_, _, rfl, ?_⟩
        refine ⟨(mm : Int), by rw [hmm], by omega, by omega, ?_⟩
        refine lcG (walk_range (lo := 0) (n := ((mm : Nat) : Int).toNat)) (by omega) trivial (fun _ _ _ _ => trivial) yFn_ex (fun i zs H' => ∃ rs : List Rw, AllRw H' zs rs ∧ rs.length = i ∧ ∀ r ∈ rs, gR r ∧ 1 ≤ r.2.length)
          (fun _ _ _ _ e ⟨rs, h1, h2⟩ => ⟨rs, h1.tex e, h2⟩) ⟨[], trivial, rfl, fun a ha => by cases ha⟩ ?_ ?_
        · rintro k x H14 H15 zs hk e14 ⟨rfl, rfl⟩ ⟨rs, hA, hal, hR⟩ N N0 kN kN0
          have hk2 : k < mm := by simpa using hk
          have e0 : (0 : Int) + (k : Int) = (k : Int) := Int.zero_add _
          obtain ⟨r3, hr3, hr33⟩ : ∃ r3 : Nat, ((0 : Int) + (k : Int)) % 3 = (r3 : Int) ∧ r3 < 3 := ⟨k % 3, by omega, by omega⟩
          obtain ⟨nm, hnm⟩ : ∃ nm, (ns ++ nl)[r3]? = some nm := ⟨_, List.getElem?_eq_getElem (by omega)⟩
          have vnm : ((ns ++ nl).map V.str)[r3]? = some (.str nm) := by rw [List.getElem?_map, hnm]; rfl
          obtain ⟨v0, hv0⟩ : ∃ v0, vw[k]? = some v0 := ⟨_, List.getElem?_eq_getElem (by omega)⟩
          obtain ⟨a, ha, haa⟩ := (hall11.tex (TEx.of e14)).mem (List.mem_of_getElem? hv0)
          refine ⟨rfl, ?_⟩
          refine ⟨_, rfl, _, rfl, _, 3, rfl, rfl, by show (0 : Int) < 3; decide, .inl ⟨la, _, _, _, rfl, rfl, sq_of (e14 _ _ hla11), by rw [hr3]; exact atI_nat vnm, ?_⟩⟩
          refine ⟨_, rfl, _, rfl, .inl ⟨wa, _, _, _, rfl, rfl, sq_of (e14 _ _ hwa11), by rw [e0]; exact atI_nat hv0, ?_⟩⟩
          refine ⟨by show 1 ≤ sizeLine; decide, fun t1 m1 => ?_⟩
          generalize hq16 : upd H15 t1 _ = H16
          obtain ⟨e16, h16⟩ := gen1 hq16 m1
          refine ⟨by show 2 ≤ sizeLine; decide, fun t2 m2 => ?_⟩
          generalize hq17 : upd H16 t2 _ = H17
          obtain ⟨e17, h17⟩ := gen1 hq17 m2
          have e1517 := e16.trans e17
          refine kN _ _ e1517 ⟨rs ++ [oneR nm a], AllRw.snoc (row_one (e17 _ _ h16) h17 (haa.ex e1517)) (hA.tex (TEx.of e1517)), by rw [List.length_append, hal]; rfl, fun r hr => ?_⟩
          rcases List.mem_append.mp hr with hr | hr
          · exact hR r hr
          · rw [List.mem_singleton.mp hr]
            exact okR_one (hlbl nm (List.mem_of_getElem? hnm)) (hgw a ha)
        · rintro l14 H14 zs hl14 e14 h14 _ ⟨rs, hA, hal, hR⟩
          have hal : rs.length = mm := by simpa using hal
          have l14F : l14 ≠ F := fun z => by rw [z, fd.hF] at hl14; cases hl14
          obtain ⟨fd2, xb2, tx2⟩ := fd.ext e14 (zs := [.ref l14]) (ms := [rs]) ⟨⟨l14, zs, rfl, l14F, h14, hA⟩, trivial⟩ (fun r hr => by
            rw [List.mem_singleton.mp hr]
            exact ⟨⟨by omega, hR⟩, by omega⟩)
          have hyl := fd.rl.len
          refine ⟨F, _, _, rfl, rfl, e14 _ _ fd.hF, sz_lt (by omega), ?_⟩
          have len2 : (ls ++ [rs]).length ≤ 981 := by rw [List.length_append]; show ls.length + 1 ≤ 981; omega
          have req1 := req1.mono (ms := ls ++ [rs]) fun rs hr => List.mem_append_left _ hr
          have req2 := req2.mono (ms := ls ++ [rs]) fun rs hr => List.mem_append_left _ hr
          generalize ls ++ [rs] = ls at fd2 len2 req1 req2
          obtain ⟨H16, hH16⟩ : ∃ H16, upd H14 F (.lst (ys ++ [.ref l14])) = H16 := ⟨_, rfl⟩
          rw [hH16] at fd2 ⊢
          generalize ys ++ [V.ref l14] = ys at fd2
          have hyl := fd2.rl.len
          -- what is told
          refine ⟨_, rfl, ?_⟩
          refine .inl ⟨_, rfl, F, rfl, ⟨_, sq_of fd2.hF⟩, ?_⟩
          refine lcL (walk_list (xs := ys)) (sq_of fd2.hF) (fun _ _ e h => ex_l e h) yAt_ex (by omega) (fun D i zs H' => RlAll H' (fun p => p ≠ D) zs ((ls.take i).map List.reverse)) (fun D _ _ _ _ t e h => h.mv (fun a o n h => e a o n h) t) (fun _ => trivial) ?_ ?_
          · rintro D j y H17 H18 zs2 hj e17 ⟨rfl, hy⟩ hDn hDs hz N N0 kN kN0
            obtain ⟨rs2, hrs2, p2, us2, rfl, hp2F, hp2, hA2⟩ := (fd2.rl.mv (exb e17) (TEx.of e17)).at hy
            refine ⟨rfl, ?_⟩
            refine ⟨_, rfl, p2, us2, rfl, sq_of hp2, fun l19 m19 => ?_⟩
            generalize hq19 : upd H18 l19 _ = H19
            obtain ⟨e19, h19⟩ := gen1 hq19 m19
            refine kN _ _ e19 ?_
            rw [tk hrs2, List.map_append]
            refine RlAll.snoc ⟨l19, _, rfl, fun z => ?_, h19, show AllRw H19 us2.reverse rs2.reverse from (hA2.tex (TEx.of e19)).rev⟩ (hz.mv (fun a o _ h => e19 a o h) (TEx.of e19))
            rw [z, hDs] at m19
            cases m19
          · rintro l17 H17 zs2 hl17 e17 h17 _ hz
            rw [hyl, List.take_length] at hz
            have hzl := hz.len
            rw [List.length_map] at hzl
            refine .inr (.inr (.inl ⟨F, l17, _, _, rfl, rfl, e17 _ _ fd2.hF, h17, Nat.le_trans (show ys.length + zs2.length ≤ 3000 by omega) (by show 3000 ≤ sizeLine; decide), fun l18 m18 => ?_⟩))
            generalize hq18 : upd H17 l18 _ = H18
            obtain ⟨e18, h18⟩ := gen1 hq18 m18
            have e1618 := e17.trans e18
            refine .inl ⟨_, rfl, 6, rfl, .inl ⟨F, _, rfl, sq_of (e1618 _ _ fd2.hF), fun l19 m19 => ?_⟩⟩
            rw [show (some (6 : Int)) = some ((6 : Nat) : Int) from rfl, cut_to]
            generalize hq19 : upd H18 l19 _ = H19
            obtain ⟨e19, h19⟩ := gen1 hq19 m19
            refine ⟨l19, rfl, ⟨_, sq_of h19⟩, ?_⟩
            have rl6 : RlAll H19 (fun p => p ≠ F) (ys.take 6) (ls.take 6) := (fd2.rl.mv (exb (e1618.trans e19)) (TEx.of (e1618.trans e19))).take 6
            have l6 : (ys.take 6).length ≤ 6 := List.length_take_le _ _
            refine lcL (walk_list (xs := ys.take 6)) (sq_of h19) (fun _ _ e h => ex_l e h) yAt_ex (by omega) (fun D i zs H' => RlAll H' (fun p => p ≠ D) zs (((ls.take 6).take i).map fun rs => rs ++ rs)) (fun D _ _ _ _ t e h => h.mv (fun a o n h => e a o n h) t) (fun _ => trivial) ?_ ?_
            · rintro D j y H20 H21 zs3 hj e20 ⟨rfl, hy⟩ hDn hDs hz3 N N0 kN kN0
              obtain ⟨rs2, hrs2, p2, us2, rfl, hp2F, hp2, hA2⟩ := (rl6.mv (exb e20) (TEx.of e20)).at hy
              have ok2 := (fd2.ok rs2 (List.mem_of_mem_take (List.mem_of_getElem? hrs2))).2
              have hul := hA2.len
              refine ⟨rfl, ?_⟩
              refine ⟨_, rfl, _, rfl, .inr (.inr (.inl ⟨p2, p2, us2, us2, rfl, rfl, hp2, hp2, Nat.le_trans (show us2.length + us2.length ≤ 20 by omega) (by show 20 ≤ sizeLine; decide), fun l22 m22 => ?_⟩))⟩
              generalize hq22 : upd H21 l22 _ = H22
              obtain ⟨e22, h22⟩ := gen1 hq22 m22
              refine kN _ _ e22 ?_
              rw [tk hrs2, List.map_append]
              refine RlAll.snoc ⟨l22, _, rfl, fun z => ?_, h22, show AllRw H22 (us2 ++ us2) (rs2 ++ rs2) from (hA2.tex (TEx.of e22)).app (hA2.tex (TEx.of e22))⟩ (hz3.mv (fun a o _ h => e22 a o h) (TEx.of e22))
              rw [z, hDs] at m22
              cases m22
            · rintro l20 H20 zs3 hl20 e20 h20 _ hz3
              rw [rl6.len, List.take_length] at hz3
              have hzl3 := hz3.len
              rw [List.length_map] at hzl3
              have e1820 := e19.trans e20
              have l66 : (ls.take 6).length ≤ 6 := List.length_take_le _ _
              refine .inr (.inr (.inl ⟨l18, l20, _, _, rfl, rfl, e1820 _ _ h18, h20, Nat.le_trans (show (ys ++ zs2).length + zs3.length ≤ 3000 by rw [List.length_append]; omega) (by show 3000 ≤ sizeLine; decide), fun l21 m21 => ?_⟩))
              generalize hq21 : upd H20 l21 _ = H21
              obtain ⟨e21, h21⟩ := gen1 hq21 m21
              have e2021 := e21
              have e1721 := (e18.trans e1820).trans e21
              have e1621 := e17.trans e1721
              refine q H21 l21 _ ((ls ++ ls.map List.reverse) ++ (ls.take 6).map fun rs => rs ++ rs) ?_ h21 ?_ ?_ ?_ (req1.mono fun rs hr => List.mem_append_left _ (List.mem_append_left _ hr)) (req2.mono fun rs hr => List.mem_append_left _ (List.mem_append_left _ hr))
              · exact (e06.trans fd2.ex).trans e1621
              · refine ((((fd2.rl.mv (exb e1621) (TEx.of e1621)).wk fun _ _ => trivial).app ((hz.mv (fun a o _ h => e1721 a o h) (TEx.of e1721)).wk fun _ _ => trivial)).app ((hz3.mv (fun a o _ h => e2021 a o h) (TEx.of e2021)).wk fun _ _ => trivial))
              · intro rs hr
                rcases List.mem_append.mp hr with hr | hr
                · rcases List.mem_append.mp hr with hr | hr
                  · exact (fd2.ok rs hr).1
                  · obtain ⟨r2, hr2, rfl⟩ := List.mem_map.mp hr
                    exact (fd2.ok r2 hr2).1.rev
                · obtain ⟨r2, hr2, rfl⟩ := List.mem_map.mp hr
                  have o2 := fd2.ok r2 (List.mem_of_mem_take hr2)
                  exact o2.1.app o2.1 (by omega)
              · rw [List.length_append, List.length_append, List.length_map, List.length_map]
                omega
end
end Own

namespace Own
open PySem PySem.Spec PyProof.Rows L2 Evl
abbrev s_law : Stmt := top 26
theorem sc_law : FnScope ["_law_script", "_law_bag_here", "_law_spin", "_law_world_here", "_law_one", "_law_other", "_law_k", "_law_wider", "_law_piece", "_law_tells", "_law_parted", "_law_rows_here", "_law_mine", "_law_its", "_law_at"] ["_law_script"] (defScope s_law) := ⟨rfl, rfl, rfl, by decide +kernel, rfl, by decide +kernel, by decide +kernel⟩
theorem PkAt.tex {H H' : Hp} {v : V} {k : Pk} (e : TEx H H') (h : PkAt H v k) : PkAt H' v k := by
  cases k with
  | nm z => obtain ⟨p, h1, h2⟩ := h; exact ⟨p, h1, e _ _ h2⟩
  | pl i => obtain ⟨p, h1, h2⟩ := h; exact ⟨p, h1, e _ _ h2⟩
  | last => obtain ⟨p, h1, h2⟩ := h; exact ⟨p, h1, e _ _ h2⟩
  | like a => obtain ⟨p, u, h1, h2, pa, h3, h4⟩ := h; exact ⟨p, u, h1, e _ _ h2, pa, h3, e _ _ h4⟩
  | all a => obtain ⟨p, u, h1, h2, pa, h3, h4⟩ := h; exact ⟨p, u, h1, e _ _ h2, pa, h3, e _ _ h4⟩
def PkAll (H : Hp) : List V → List Pk → Prop
  | [], [] => True
  | v :: vs, k :: ks => PkAt H v k ∧ PkAll H vs ks
  | _, _ => False
theorem PkAll.tex {H H' : Hp} (e : TEx H H') : ∀ {vs : List V} {ks : List Pk}, PkAll H vs ks → PkAll H' vs ks
  | [], [], _ => trivial
  | _ :: _, _ :: _, h => ⟨h.1.tex e, PkAll.tex e h.2⟩
  | [], _ :: _, h => h.elim
  | _ :: _, [], h => h.elim
theorem PkAll.snoc {H : Hp} {v : V} {k : Pk} (hv : PkAt H v k) : ∀ {vs : List V} {ks : List Pk}, PkAll H vs ks → PkAll H (vs ++ [v]) (ks ++ [k])
  | [], [], _ => ⟨hv, trivial⟩
  | _ :: _, _ :: _, h => ⟨h.1, PkAll.snoc hv h.2⟩
  | [], _ :: _, h => h.elim
  | _ :: _, [], h => h.elim
theorem PkAll.two {H : Hp} : ∀ {vs : List V} {ks : List Pk}, PkAll H vs ks → ks.length = 2 → ∃ u1 u2 k1 k2, vs = [u1, u2] ∧ ks = [k1, k2] ∧ PkAt H u1 k1 ∧ PkAt H u2 k2
  | [_, _], [_, _], h, _ => ⟨_, _, _, _, rfl, rfl, h.1, h.2.1⟩
  | [], [], _, e => by cases e
  | [_], [_], _, e => by cases e
  | _ :: _ :: _ :: _, _ :: _ :: _ :: _, _, e => by simp at e
  | [], _ :: _, h, _ => h.elim
  | _ :: _, [], h, _ => h.elim
  | [_], _ :: _ :: _, h, _ => h.2.elim
  | _ :: _ :: _, [_], h, _ => h.2.elim
  | [_, _], _ :: _ :: _ :: _, h, _ => h.2.2.elim
  | _ :: _ :: _ :: _, [_, _], h, _ => h.2.2.elim
theorem PkAt.wrd {H : Hp} {v : V} {k : Pk} (h : PkAt H v k) : ∃ p z xs, v = .ref p ∧ H p = some (.tup (V.str z :: xs)) ∧ inV (.str z) [.str "like", .str "all", .str "last"] = isW k ∧ (inV (.str z) [.str "all", .str "like"] = true → (∃ q, k = .all q) ∨ ∃ q, k = .like q) := by
  cases k with
  | nm z => obtain ⟨p, rfl, hp⟩ := h; exact ⟨p, _, _, rfl, hp, by show inV _ _ = false; decide +kernel, fun h => absurd h (by decide +kernel)⟩
  | pl i => obtain ⟨p, rfl, hp⟩ := h; exact ⟨p, _, _, rfl, hp, by show inV _ _ = false; decide +kernel, fun h => absurd h (by decide +kernel)⟩
  | last => obtain ⟨p, rfl, hp⟩ := h; exact ⟨p, _, _, rfl, hp, by show inV _ _ = true; decide +kernel, fun h => absurd h (by decide +kernel)⟩
  | like a => obtain ⟨p, u, rfl, hp, hu⟩ := h; exact ⟨p, _, _, rfl, hp, by show inV _ _ = true; decide +kernel, fun _ => .inr ⟨a, rfl⟩⟩
  | all a => obtain ⟨p, u, rfl, hp, hu⟩ := h; exact ⟨p, _, _, rfl, hp, by show inV _ _ = true; decide +kernel, fun _ => .inl ⟨a, rfl⟩⟩
theorem in_nV (j : Nat) (L : List Nat) : inV (nV j) (L.map nV) = decide (j ∈ L) := by
  induction L with
  | nil => rfl
  | cons a L ih =>
    show (eqV (nV a) (nV j) || inV (nV j) (L.map nV)) = _
    rw [ih]
    have e : eqV (nV a) (nV j) = decide (j = a) := by
      show ((a : Int) == (j : Int)) = _
      by_cases h : j = a
      · rw [h, decide_eq_true rfl]
        simp
      · rw [decide_eq_false h]
        exact beq_eq_false_iff_ne.mpr (by omega)
    rw [e]
    by_cases h : j = a
    · rw [show decide (j ∈ a :: L) = true from decide_eq_true (by rw [h]; exact List.mem_cons_self), show decide (j = a) = true from decide_eq_true h]
      rfl
    · rw [decide_eq_false h, Bool.false_or]
      by_cases h2 : j ∈ L
      · rw [decide_eq_true h2, decide_eq_true (List.mem_cons_of_mem _ h2)]
      · rw [decide_eq_false h2, decide_eq_false (by simp [h, h2])]
theorem flat_nV (L : List Nat) : (L.map nV).all flatV = true := by
  rw [List.all_eq_true]
  intro x hx
  obtain ⟨j, _, rfl⟩ := List.mem_map.mp hx
  rfl
theorem two_like {r : Int} (h0 : 0 ≤ r) (h1 : r < 2) : ∃ z : Str, (z = "like" ∨ z = "all") ∧ atI [V.str "like", V.str "all"] r = some (.str z) := by
  have q : r = 0 ∨ r = 1 := by omega
  rcases q with rfl | rfl
  · exact ⟨_, .inl rfl, rfl⟩
  · exact ⟨_, .inr rfl, rfl⟩
theorem gK_nul : gK (.all nul) := ⟨by decide +kernel, by decide, by decide, by decide⟩
theorem gK_nul2 : gK (.like nul) := gK_nul
theorem fine_tt : fine (.list [.bool true, .bool true]) := by
  refine (fin_list (n := 0) (W := 5) (m := 2) (fun d hd => ?_) (Nat.le_refl _)).fine (by decide) (by decide)
  simp only [List.mem_cons, List.not_mem_nil, or_false] at hd
  rcases hd with rfl | rfl
  · exact fin_bool true
  · exact fin_bool true
theorem WOk.two {ns ts : List Str} (h : WOk ns ts) (hd : ts.Nodup) : ∃ x y, x ∈ ts ∧ y ∈ ts ∧ x ≠ y := by
  have h2 := h.t2
  match ts, h2, hd with
  | x :: y :: r, _, hd =>
    refine ⟨x, y, by simp, by simp, fun e => ?_⟩
    exact (List.nodup_cons.mp hd).1 (by rw [e]; exact List.mem_cons_self)
theorem sure_self (k : Pk) : sureB k k = true := by
  unfold sureB
  rw [eqv_refl_k, Bool.true_or]
theorem sure_any (k : Pk) : sureB k (.all nul) = true := by
  unfold sureB
  rw [show allB (.all nul) (asked k) = fitB nul (asked k) from rfl, fit_nul, Bool.or_true]
section
variable {P : Program} {w : World} {K : PySem.W.Frag} {mg : Str → Option Value} {base : Heap} {an : Addr}
def spLaw (K : PySem.W.Frag) : Sp := fun vs H Q _ => ∃ (a : Addr) (ns : List Int), vs = [.ref a] ∧ SqL K H a (ns.map V.int) ∧ ns.length ≤ 63 ∧ ∀ H', Q (.bl true) H'
theorem ok_law {fl : Addr} {fdl : FuncData} (T : Txt0 mg) (TI : TxtA K mg an) (F : Fun K "law" "law" s_law fl fdl) (c_l_bag : CalG P w K mg base 1 "_law_bag" (spBag K)) (c_l_take : CalG P w K mg base 1 "_law_take" spTake) (c_l_world : CalG P w K mg base 3 "_law_world" spWorld)
    (c_l_pick : CalG P w K mg base 5 "_law_pick" spPick) (c_l_rows : CalG P w K mg base 6 "_law_rows" spRows) (c_l_tries : CalG P w K mg base 3 "_law_tries" spTries) (c_l_picked : CalG P w K mg base 3 "_law_picked" spLPicked) (c_surely : CalG P w K mg base 2 "surely" spSure)
    (c_l_alike : CalG P w K mg base 1 "_law_alike" (spAlike K)) : FnG P w K mg base 7 fl fdl ["_law_script"] (spLaw K) := by
  refine fn_mk F sc_law (fun vs H Q E h => ?_) (fun cdv A outer s H vs Q E hr hG h => ?_)
  · obtain ⟨a, ns, rfl, _⟩ := h
    rfl
  · obtain ⟨a, ms, rfl, ha, hl, q⟩ := h
    refine ⟨_, (pss_cons (ps_set (i := 1) sc_law.nd rfl (Or.inr rfl) (pe_cG c_l_bag hr hG (by decide) rfl (pa_cons (pv 0) pa_nil)))
      (pss_cons (ps_forO (ps_for PassesOwn.never rfl (pi_range1 rfl T.range (pa_cons pe_int pa_nil)) (pg_name (i := 2) sc_law.nd rfl (Or.inl rfl))
        (pss_cons (ps_set (i := 3) sc_law.nd rfl (Or.inr rfl) (pe_cG c_l_world hr hG (by decide) rfl (pa_cons (pv 1) pa_nil)))
      (pss_cons (ps_asg (pe_lcO (pe_lc (own := [("_law_k", 6)]) rfl sc_law.nd (pi_range1 rfl T.range (pa_cons pe_int pa_nil)) (blkOk_by (own := [("_law_k", 6)]) (N := ["_law_script", "_law_bag_here", "_law_spin", "_law_world_here", "_law_one", "_law_other", "_law_k", "_law_wider", "_law_piece", "_law_tells", "_law_parted", "_law_rows_here", "_law_mine", "_law_its", "_law_at"]) (sc := defScope s_law) (by first | decide +kernel | kernel_rfl)) (fun _ _ _ _ _ => pg_name (i := 6) sc_law.nd rfl (Or.inl rfl)) (fun _ _ _ _ _ => pts_nil) (fun _ _ _ _ _ => pe_cG c_l_pick hr hG (by decide) rfl (pa_cons (pv 1) (pa_cons (pv 3) (pa_cons pe_int (pa_cons pe_bl pa_nil))))))) (pg_unl rfl (pgs_cons (pg_name (i := 4) sc_law.nd rfl (Or.inl rfl)) (pgs_cons (pg_name (i := 5) sc_law.nd rfl (Or.inl rfl)) pgs_nil))))
      (Evl.pss_cut (ps_if (PW.pt (pw_and (pt_cmpR (opEq hr) (pe_cG c_l_take hr hG (by decide) rfl (pa_cons (pv 1) (pa_cons pe_int pa_nil))) pe_int (nomark _)) (pw_and1 (pt_cmpR opIn (pe_ix ixAny (pv 4) pe_int (fun _ _ => rfl)) (pe_tup (pa_cons pe_str (pa_cons pe_str pa_nil))) rfl)))) (pss_cons (ps_set (i := 7) sc_law.nd rfl (Or.inl rfl) (pe_callTy call_tuple_of (by rfl) T.tuple (by decide +kernel) (pa_cons (pe_lcO (pe_lc (own := [("_law_piece", 8)]) rfl sc_law.nd (piAny (pe_ix ixAny (pv 4) pe_int (fun _ _ => rfl))) (blkOk_by (own := [("_law_piece", 8)]) (N := ["_law_script", "_law_bag_here", "_law_spin", "_law_world_here", "_law_one", "_law_other", "_law_k", "_law_wider", "_law_piece", "_law_tells", "_law_parted", "_law_rows_here", "_law_mine", "_law_its", "_law_at"]) (sc := defScope s_law) (by first | decide +kernel | kernel_rfl)) (fun _ _ _ _ _ => pg_name (i := 8) sc_law.nd rfl (Or.inl rfl)) (fun _ _ _ _ _ => pts_nil) (fun _ _ _ _ _ => pe_op op_mulS (pv 8) (pe_callTy call_int1 (by rfl) T.int (by decide +kernel) (pa_cons (pe_cmpR opGt (pe_cG c_l_take hr hG (by decide) rfl (pa_cons (pv 1) (pa_cons pe_int pa_nil))) pe_int (nomark _)) pa_nil))))) pa_nil)))
      (pss_one (ps_set (i := 5) sc_law.nd rfl (Or.inl rfl) (pe_tup (pa_cons (pe_ix ixAny (pe_lst (pa_cons pe_str (pa_cons pe_str pa_nil))) (pe_cG c_l_take hr hG (by decide) rfl (pa_cons (pv 1) (pa_cons pe_int pa_nil))) (fun _ _ => rfl)) (pa_cons (pv 7) pa_nil)))))) pss_nil)
      (pss_cons (ps_par (i := 9) (j := 10) rfl sc_law.nd rfl rfl (by decide) rfl rfl (pa_cons (pe_cG c_surely hr hG (by decide) rfl (pa_cons (pv 4) (pa_cons (pv 5) pa_nil))) (pa_cons pe_bl pa_nil)) (by first | rfl | with_unfolding_all rfl | kernel_rfl))
      (pss_cons (ps_forO (ps_for PassesOwn.never rfl (piAny (pe_op opAdd (pe_cG c_l_tries hr hG (by decide) rfl (pa_cons (pv 1) (pa_cons (pv 3) (pa_cons (pv 4) (pa_cons (pv 5) pa_nil))))) (pe_lcO (pe_lc (own := [("_law_k", 6)]) rfl sc_law.nd (pi_range1 rfl T.range (pa_cons pe_int pa_nil)) (blkOk_by (own := [("_law_k", 6)]) (N := ["_law_script", "_law_bag_here", "_law_spin", "_law_world_here", "_law_one", "_law_other", "_law_k", "_law_wider", "_law_piece", "_law_tells", "_law_parted", "_law_rows_here", "_law_mine", "_law_its", "_law_at"]) (sc := defScope s_law) (by first | decide +kernel | kernel_rfl)) (fun _ _ _ _ _ => pg_name (i := 6) sc_law.nd rfl (Or.inl rfl)) (fun _ _ _ _ _ => pts_nil) (fun _ _ _ _ _ => pe_cG c_l_rows hr hG (by decide) rfl (pa_cons (pv 1) (pa_cons (pv 3) (pa_cons pe_int pa_nil)))))))) (pg_name (i := 11) sc_law.nd rfl (Or.inl rfl))
        (pss_cons (ps_asg (pe_tup (pa_cons (pe_cG c_l_picked hr hG (by decide) rfl (pa_cons (pv 4) (pa_cons (pv 11) pa_nil))) (pa_cons (pe_cG c_l_picked hr hG (by decide) rfl (pa_cons (pv 5) (pa_cons (pv 11) pa_nil))) pa_nil))) (pg_tup rfl (pgs_cons (pg_name (i := 12) sc_law.nd rfl (Or.inl rfl)) (pgs_cons (pg_name (i := 13) sc_law.nd rfl (Or.inr rfl)) pgs_nil))))
      (pss_one (ps_set (i := 10) sc_law.nd rfl (Or.inl rfl) (pe_or (pv 10) (pe_one (pe_cmpR (op_ne0 hr) (pe_lcO (pe_lc (own := [("_law_at", 14)]) rfl sc_law.nd (piAny (pv 12)) (blkOk_by (own := [("_law_at", 14)]) (N := ["_law_script", "_law_bag_here", "_law_spin", "_law_world_here", "_law_one", "_law_other", "_law_k", "_law_wider", "_law_piece", "_law_tells", "_law_parted", "_law_rows_here", "_law_mine", "_law_its", "_law_at"]) (sc := defScope s_law) (by first | decide +kernel | kernel_rfl)) (fun _ _ _ _ _ => pg_name (i := 14) sc_law.nd rfl (Or.inl rfl)) (fun _ _ _ _ _ => pts_one (pt_cmpR opNotInB (pv 14) (pv 13) rfl)) (fun _ _ _ _ _ => pv 14))) (pe_lst pa_nil) (nomark _)))))))))
      (Evl.pss_cut (ps_if (PW.pt (pw_or (PW.pt (pw_and (pt_val (pv 9)) (pw_and1 (pt_val (pv 10))))) (pw_or1 (pt_not (pt_val (pe_cG c_l_alike hr hG (by decide) rfl (pa_cons (pe_lst (pa_cons (pe_cG c_surely hr hG (by decide) rfl (pa_cons (pv 4) (pa_cons (pv 4) pa_nil))) (pa_cons (pe_cG c_surely hr hG (by decide) rfl (pa_cons (pv 4) (pa_cons (pe_tup (pa_cons pe_str (pa_cons (pe_tup (pa_cons pe_str (pa_cons pe_str (pa_cons pe_str pa_nil)))) pa_nil))) pa_nil))) pa_nil))) (pa_cons (pe_lst (pa_cons pe_bl (pa_cons pe_bl pa_nil))) pa_nil)))))))) (pss_one (ps_ret pe_bl)) pss_nil)
      (pss_cons (ps_if (PW.pt (pw_or (pt_not (pt_val (pe_cG c_l_alike hr hG (by decide) rfl (pa_cons (pe_cG c_surely hr hG (by decide) rfl (pa_cons (pv 4) (pa_cons (pe_tup (pa_cons pe_str pa_nil)) pa_nil))) (pa_cons (pe_cG c_surely hr hG (by decide) rfl (pa_cons (pv 4) (pa_cons (pe_tup (pa_cons pe_str (pa_cons (pe_tup (pa_cons pe_str (pa_cons pe_str (pa_cons pe_str pa_nil)))) pa_nil))) pa_nil))) pa_nil))))) (pw_or1 (pt_not (pt_val (pe_callB call_isi (by rfl) TI.isinstance (by decide +kernel) (pa_cons (pv 9) (pa_cons (pe_bltn (v := .ty "bool") (by rfl) TI.bool (by decide +kernel) rfl) pa_nil)))))))) (pss_one (ps_ret pe_bl)) pss_nil)
      (pss_one (ps_if (PW.pt (pw_and (pt_not (pt_val (pv 9))) (pw_and (pt_not (pt_val (pv 10))) (pw_and (pt_cmpR opIn (pe_ix ixAny (pv 4) pe_int (fun _ _ => rfl)) (pe_tup (pa_cons pe_str (pa_cons pe_str (pa_cons pe_str pa_nil)))) rfl) (pw_and1 (pt_cmpR opIn (pe_ix ixAny (pv 5) pe_int (fun _ _ => rfl)) (pe_tup (pa_cons pe_str (pa_cons pe_str pa_nil))) rfl)))))) (pss_one (ps_ret pe_bl)) pss_nil)))))))))))
      (pss_one (ps_ret pe_bl)))), ?_⟩
    refine ⟨_, rfl, a, ms, rfl, ha, hl, fun H1 b e1 hb => ?_⟩
    refine ⟨4, rfl, by decide, by decide, ?_⟩
    refine frG (walk_range (lo := 0) (n := 4)) (fun i σ H' => ∃ x2 x3 x4 x5 x6 x7 x8 x9 x10 x11 x12 x13 x14 : Option V, σ = [some (.ref a), some (.ref b), x2, x3, x4, x5, x6, x7, x8, x9, x10, x11, x12, x13, x14] ∧ Ex H1 H') ⟨_, _, _, _, _, _, _, _, _, _, _, _, _, rfl, Ex.refl _⟩ (fun _ _ _ _ _ => trivial) ?_ ?_
    · rintro i x σ H2 H3 hi ⟨x2, x3, x4, x5, x6, x7, x8, x9, x10, x11, x12, x13, x14, rfl, e2⟩ ⟨rfl, rfl⟩
      refine ⟨_, rfl, b, rfl, hb.ex e2, fun H4 wv ns ts e4 hwv hw => ?_⟩
      have e24 := e2.trans e4
      have ht2 := hw.t2
      -- two picks
      refine ⟨2, rfl, by decide, by decide, ?_⟩
      refine lcG (walk_range (lo := 0) (n := ((2 : Nat) : Int).toNat)) (by decide) trivial (fun _ _ _ _ => trivial) yFn_ex (fun i zs H' => ∃ ks : List Pk, PkAll H' zs ks ∧ ks.length = i ∧ ∀ k ∈ ks, gK k ∧ tK ts k) (fun _ _ _ _ e ⟨ks, h1, h2⟩ => ⟨ks, h1.tex e, h2⟩) ⟨[], trivial, rfl, fun a ha => by cases ha⟩ ?_ ?_
      · rintro j x H5 H6 zs hj e5 ⟨rfl, rfl⟩ ⟨ks, hA, hal, hR⟩ N N0 kN kN0
        refine ⟨rfl, ?_⟩
        refine ⟨_, rfl, _, rfl, ?_⟩
        refine ⟨b, wv, ns, ts, 2, rfl, hb.ex (e24.trans e5), hwv.ex e5, hw, by decide, by decide, fun H7 u k e7 hu hg ht => ?_⟩
        refine kN _ _ e7 ⟨ks ++ [k], PkAll.snoc hu (hA.tex (TEx.of e7)), by rw [List.length_append, hal]; rfl, fun k' hk' => ?_⟩
        rcases List.mem_append.mp hk' with hk' | hk'
        · exact hR k' hk'
        · rw [List.mem_singleton.mp hk']
          exact ⟨hg, ht⟩
      · rintro l5 H5 zs hl5 e5 h5 _ ⟨ks, hA, hal, hR⟩
        obtain ⟨u1, u2, k1, k2, rfl, rfl, hu1, hu2⟩ : ∃ u1 u2 k1 k2, zs = [u1, u2] ∧ ks = [k1, k2] ∧ PkAt H5 u1 k1 ∧ PkAt H5 u2 k2 := by
          exact hA.two hal
        have g1 := hR k1 (by simp)
        have g2 := hR k2 (by simp)
        refine ⟨l5, _, rfl, sq_of h5, rfl, _, _, rfl, _, _, rfl, rfl, ?_⟩
        have e25 := e24.trans e5
        refine ⟨fun σ' H' => ∃ (u2 : V) (k2 : Pk) (x7 x8 : Option V), σ' = [some (.ref a), some (.ref b), some (.int (0 + (i : Int))), some wv, some u1, some u2, x6, x7, x8, x9, x10, x11, x12, x13, x14] ∧ Ex H5 H' ∧ PkAt H' u2 k2 ∧ gK k2 ∧ tK ts k2, ?_, ?_⟩
        · have stay : ∀ H', Ex H5 H' → ∃ (u2' : V) (k2' : Pk) (x7' x8' : Option V), [some (V.ref a), some (.ref b), some (.int (0 + (i : Int))), some wv, some u1, some u2, x6, x7, x8, x9, x10, x11, x12, x13, x14] = [some (V.ref a), some (.ref b), some (.int (0 + (i : Int))), some wv, some u1, some u2', x6, x7', x8', x9, x10, x11, x12, x13, x14] ∧ Ex H5 H' ∧ PkAt H' u2' k2' ∧ gK k2' ∧ tK ts k2' :=
            fun H' e' => ⟨u2, k2, x7, x8, rfl, e', hu2.ex e', g2.1, g2.2⟩
          refine ⟨_, rfl, b, 2, rfl, hb.ex e25, by decide, by decide, fun H6 r _ _ e6 => .inl ⟨rfl, _, rfl, ?_⟩⟩
          refine ite2 (fun _ => ?_) (fun _ => iteF (stay _ e6))
          obtain ⟨p, z, xs, rfl, hp, hask⟩ := (hu1.ex e6).ask
          refine ⟨_, rfl, .inr (.inl ⟨p, _, 0, _, rfl, rfl, st_of hp, atI_nat (j := 0) rfl, ?_⟩)⟩
          refine ⟨by show 2 ≤ sizeLine; decide, fun t7 n7 => ?_⟩
          generalize hq7 : upd H6 t7 _ = H7
          obtain ⟨e7, h7⟩ := gen1 hq7 n7
          refine .inl ⟨t7, _, rfl, .inr (st_of h7), rfl, rfl, _, rfl, ?_⟩
          rcases hask with ⟨hin, u, pat, rfl, hu, hk⟩ | ⟨hin, hk⟩
          · have gpat : gA pat ∧ goodT ts pat := by
              cases k1 with
              | like p0 => rw [show pat = p0 from hk.symm]; exact g1
              | all p0 => rw [show pat = p0 from hk.symm]; exact g1
              | nm z0 => obtain ⟨p9, h9, h91⟩ := hu1.ex e6; cases h9; rw [hp] at h91; cases h91; exact absurd hin (by decide +kernel)
              | pl i0 => obtain ⟨p9, h9, h91⟩ := hu1.ex e6; cases h9; rw [hp] at h91; cases h91; exact absurd hin (by decide +kernel)
              | last => obtain ⟨p9, h9, h91⟩ := hu1.ex e6; cases h9; rw [hp] at h91; cases h91
            refine ifT hin ?_
            obtain ⟨pa, rfl, hpa⟩ := hu
            refine .inr (.inl ⟨_, rfl, .inr (.inl ⟨p, _, 1, _, rfl, rfl, st_of (e7 _ _ hp), atI_nat (j := 1) rfl, ?_⟩)⟩)
            have hpa7 := e7 _ _ hpa
            refine ⟨pa, rfl, ⟨_, st_of hpa7⟩, ?_⟩
            have e57 := e6.trans e7
            refine lcG (walk_tup (xs := (sl3 pat).map V.str)) (by show 3 ≤ 40000; decide) (st_of hpa7) (fun _ _ e h => ex_t e h) yAt_ex (fun i zs _ => ∃ ws : List Str, zs = ws.map V.str ∧ ws.length = i ∧ ∀ (j : Nat) (w : Str), ws[j]? = some w → ∃ y, (sl3 pat)[j]? = some y ∧ (w = y ∨ w = "")) (fun _ _ _ _ _ h => h) ⟨[], rfl, rfl, fun j w h => by simp at h⟩ ?_ ?_
            · rintro j x H8 H9 zs hj e8 ⟨rfl, hx⟩ ⟨ws, rfl, hwl, hwy⟩ N N0 kN kN0
              obtain ⟨y, hy, rfl⟩ := str_at hx
              have hylen : y.length ≤ 8 := by
                obtain ⟨_, q1, q2, q3⟩ := gpat.1
                have hy' := List.mem_of_getElem? hy
                have hy' : y ∈ [pat.1, pat.2.1, pat.2.2] := hy'
                simp only [List.mem_cons, List.not_mem_nil, or_false] at hy'
                rcases hy' with rfl | rfl | rfl
                · exact q1
                · exact q2
                · exact q3
              refine ⟨rfl, ?_⟩
              refine ⟨_, rfl, _, rfl, b, 3, rfl, hb.ex ((e25.trans e57).trans e8), by decide, by decide, fun H10 r r0 r1 e10 => ⟨r, 0, rfl, rfl, ?_⟩⟩
              refine .inr ⟨_, rfl, y, _, rfl, rfl, by omega, ?_⟩
              refine kN _ _ e10 ⟨ws ++ [if (decide ((0 : Int) < r)) = true then y else ""], by rw [List.map_append]; rfl, by rw [List.length_append, hwl]; rfl, fun j' w' hw' => ?_⟩
              by_cases hjj : j' < ws.length
              · rw [List.getElem?_append_left hjj] at hw'
                exact hwy j' w' hw'
              · rw [List.getElem?_append_right (by omega)] at hw'
                have hj0 : j' - ws.length = 0 := by
                  cases hd : j' - ws.length with
                  | zero => rfl
                  | succ n => rw [hd] at hw'; simp at hw'
                rw [hj0] at hw'
                have hjw : j' = j := by omega
                subst hjw
                refine ⟨y, hy, ?_⟩
                cases hw'
                split
                · exact .inl rfl
                · exact .inr rfl
            · rintro l8 H8 zs hl8 e8 h8 _ ⟨ws, rfl, hwl, hwy⟩
              obtain ⟨w1, w2, w3, rfl⟩ : ∃ w1 w2 w3, ws = [w1, w2, w3] := by
                match ws, hwl with
                | [_, _, _], _ => exact ⟨_, _, _, rfl⟩
              obtain ⟨y1, hy1, hw1⟩ := hwy 0 w1 rfl
              obtain ⟨y2, hy2, hw2⟩ := hwy 1 w2 rfl
              obtain ⟨y3, hy3, hw3⟩ := hwy 2 w3 rfl
              cases hy1
              cases hy2
              cases hy3
              have gw : goodT ts (w1, w2, w3) := by
                obtain ⟨q1, q2, q3⟩ := gpat.2
                refine ⟨?_, ?_, ?_⟩
                · show isR w1 = true
                  rcases hw1 with rfl | rfl
                  · exact q1
                  · decide +kernel
                · show w2 = "" ∨ w2 ∈ ts
                  rcases hw2 with rfl | rfl
                  · exact q2
                  · exact .inl rfl
                · show w3 = "" ∨ w3 ∈ ts
                  rcases hw3 with rfl | rfl
                  · exact q3
                  · exact .inl rfl
              have gaw : gA (w1, w2, w3) := gA_of hw.nt gw.1 gw.2.1 gw.2.2
              refine ⟨l8, _, rfl, .inl ⟨sq_of h8, fun t9 n9 => ?_⟩⟩
              generalize hq9 : upd H8 t9 _ = H9
              obtain ⟨e9, h9⟩ := gen1 hq9 n9
              refine ⟨by show 2 ≤ sizeLine; decide, fun l10 n10 => ?_⟩
              generalize hq10 : upd H9 l10 _ = H10
              obtain ⟨e10, h10⟩ := gen1 hq10 n10
              have e510 := ((e57.trans e8).trans e9).trans e10
              refine ⟨_, rfl, b, 2, rfl, hb.ex (e25.trans e510), by decide, by decide, fun H11 r r0 r1 e11 => ?_⟩
              obtain ⟨zz, hzz, hat⟩ := two_like r0 r1
              refine .inl ⟨l10, _, _, _, rfl, rfl, sq_of (e11 _ _ h10), hat, ?_⟩
              refine ⟨_, rfl, by show 2 ≤ sizeLine; decide, fun t12 n12 => ?_⟩
              generalize hq12 : upd H11 t12 _ = H12
              obtain ⟨e12, h12⟩ := gen1 hq12 n12
              have hat12 : AtomAt H12 (.ref t9) (w1, w2, w3) := ⟨t9, rfl, ((e10.trans e11).trans e12) _ _ h9⟩
              rcases hzz with rfl | rfl
              · exact ⟨.ref t12, .like (w1, w2, w3), _, _, rfl, (e510.trans e11).trans e12, ⟨t12, .ref t9, rfl, h12, hat12⟩, gaw, gw⟩
              · exact ⟨.ref t12, .all (w1, w2, w3), _, _, rfl, (e510.trans e11).trans e12, ⟨t12, .ref t9, rfl, h12, hat12⟩, gaw, gw⟩
          · exact ifF hin (stay _ (e6.trans e7))
        · rintro σ' H6 ⟨u2, k2, x7, x8, rfl, e6, hu2, g2, t2⟩
          have hu1 := hu1.ex e6
          have e26 := e25.trans e6
          have hwv6 := hwv.ex (e5.trans e6)
          have t1 := g1.2
          have g1 := g1.1
          refine ⟨_, rfl, _, rfl, u1, u2, k1, k2, rfl, hu1, hu2, g1, g2, fun H7 e7 => ⟨_, _, rfl, ?_⟩⟩
          have e27 := e26.trans e7
          refine .inl ⟨_, rfl, _, rfl, _, rfl, _, rfl, b, wv, u1, u2, ns, ts, k1, k2, rfl, hb.ex e27, hwv6.ex e7, hw, hu1.ex e7, hu2.ex e7, g1, g2, fun H8 l8 ys ls e8 h8 rl8 ok8 len8 r1 r2 => ?_⟩
          have e28 := e27.trans e8
          refine ⟨4, rfl, by decide, by decide, ?_⟩
          refine lcL (walk_range (lo := 0) (n := ((4 : Nat) : Int).toNat)) trivial (fun _ _ _ _ => trivial) yFn_ex (by decide) (fun D i zs H' => ∃ ms : List (List Rw), RlAll H' (fun p => p ≠ D) zs ms ∧ ms.length = i ∧ ∀ rs ∈ ms, okR rs) (fun D _ _ _ _ t e ⟨ms, h1, h2⟩ => ⟨ms, h1.mv (fun a o n h => e a o n h) t, h2⟩) (fun _ => ⟨[], trivial, rfl, fun _ h => by cases h⟩) ?_ ?_
          · rintro D j x H9 H10 zs hj e9 ⟨rfl, rfl⟩ hDn hDs ⟨ms, hM, hml, hmo⟩ N N0 kN kN0
            refine ⟨rfl, ?_⟩
            refine ⟨_, rfl, _, rfl, ?_⟩
            refine ⟨b, wv, ns, ts, 6, rfl, hb.ex (e28.trans e9), hwv6.ex ((e7.trans e8).trans e9), hw, by decide, by decide, fun H11 p us rs e11 hpn hp hA hgs hls hts => ?_⟩
            refine kN _ _ e11 ⟨ms ++ [rs], RlAll.snoc ⟨p, us, rfl, fun z => ?_, hp, hA⟩ (hM.mv (fun a o _ h => e11 a o h) (TEx.of e11)), by rw [List.length_append, hml]; rfl, fun r hr => ?_⟩
            · rw [z, hDs] at hpn
              cases hpn
            · rcases List.mem_append.mp hr with hr | hr
              · exact hmo r hr
              · rw [List.mem_singleton.mp hr]
                exact ⟨by omega, fun r' hr' => ⟨hgs r' hr', (hts r' hr').2.1⟩⟩
          · rintro l9 H9 zs hl9 e9 h9 hzn ⟨ms, hM, hml, hmo⟩
            have hml : ms.length = 4 := hml
            have hzl := hM.len
            have hyl := rl8.len
            refine .inr (.inr (.inl ⟨l8, l9, _, _, rfl, rfl, e9 _ _ h8, h9, Nat.le_trans (show ys.length + zs.length ≤ 6000 by omega) (by show 6000 ≤ sizeLine; decide), fun l10 n10 => ?_⟩))
            generalize hq10 : upd H9 l10 _ = H10
            obtain ⟨e10, h10⟩ := gen1 hq10 n10
            have e810 := e9.trans e10
            have rl10 : RlAll H10 (fun _ => True) (ys ++ zs) (ls ++ ms) := ((rl8.mv (fun a o _ h => e810 a o h) (TEx.of e810))).app ((hM.mv (fun a o _ h => e10 a o h) (TEx.of e10)).wk fun _ _ => trivial)
            have okA : ∀ rs ∈ ls ++ ms, okR rs := fun rs hr => by
              rcases List.mem_append.mp hr with hr | hr
              · exact ok8 rs hr
              · exact hmo rs hr
            have e710 := e8.trans e810
            have hu1 := hu1.ex (e7.trans e710)
            have hu2 := hu2.ex (e7.trans e710)
            -- what parts them
            obtain ⟨x0, y0, hx0, hy0, hxy0⟩ : ∃ x0 y0, x0 ∈ ts ∧ y0 ∈ ts ∧ x0 ≠ y0 := hw.two hw.dt
            have hA : sureB k1 k2 = true → (ls ++ ms).any (partB k1 k2) = false := fun h => by
              rw [← Bool.not_eq_true, List.any_eq_true]
              rintro ⟨rs, hrs, hp⟩
              rw [sure_no h (fun r hr => ((okA rs hrs).2 r hr).2)] at hp
              cases hp
            have hB : sureB k1 k2 = false → isW k1 = true → ((∃ q, k2 = .all q) ∨ ∃ q, k2 = .like q) → (ls ++ ms).any (partB k1 k2) = true := fun h h1 h2 => by
              obtain ⟨rs, hrs, hp⟩ := part_ex hx0 hy0 hxy0 h1 h2 t1 t2 h r1 r2
              exact List.any_eq_true.mpr ⟨rs, List.mem_append_left _ hrs, hp⟩
            refine ⟨l10, rfl, ⟨_, sq_of h10⟩, ?_⟩
            refine frG (walk_list (xs := ys ++ zs)) (fun n σ H' => ∃ x11 x12 x13 x14 : Option V, σ = [some (.ref a), some (.ref b), some (.int (0 + (i : Int))), some wv, some u1, some u2, x6, x7, x8, some (.bl (sureB k1 k2)), some (.bl (((ls ++ ms).take n).any (partB k1 k2))), x11, x12, x13, x14] ∧ Ex H10 H') ⟨_, _, _, _, rfl, Ex.refl _⟩ (fun n σ H' _ ⟨_, _, _, _, _, e⟩ => sq_of (e _ _ h10)) ?_ ?_
            · rintro n x σ H11 H12 hn ⟨x11, x12, x13, x14, rfl, e11⟩ ⟨rfl, hx⟩
              obtain ⟨rs, hrs, p, us, rfl, _, hp, hAr⟩ := (rl10.mv (fun a o _ h => e11 a o h) (TEx.of e11)).at hx
              have okr := okA rs (List.mem_of_getElem? hrs)
              have gr : ∀ r ∈ rs, gR r := fun r hr => (okr.2 r hr).1
              refine ⟨_, rfl, _, rfl, u1, p, us, k1, rs, rfl, hu1.ex e11, g1, hp, hAr, gr, by have := okr.1; omega, fun H13 l13 e13 h13 => ?_⟩
              refine ⟨_, rfl, _, rfl, u2, p, us, k2, rs, rfl, hu2.ex (e11.trans e13), g2, e13 _ _ hp, hAr.tex (TEx.of e13), gr, by have := okr.1; omega, fun H14 l14 e14 h14 => ?_⟩
              refine ⟨by show 2 ≤ sizeLine; decide, fun t15 n15 => ?_⟩
              generalize hq15 : upd H14 t15 _ = H15
              obtain ⟨e15, h15⟩ := gen1 hq15 n15
              refine ⟨t15, _, rfl, st_of h15, rfl, _, _, rfl, _, _, rfl, rfl, ?_⟩
              have h13b := (e14.trans e15) _ _ h13
              have h14b := e15 _ _ h14
              have e1115 := ((e11.trans e13).trans e14).trans e15
              have stepA : ((ls ++ ms).take (n + 1)).any (partB k1 k2) = (((ls ++ ms).take n).any (partB k1 k2) || partB k1 k2 rs) := by
                rw [tk hrs, List.any_append]
                show (_ || (_ || false)) = _
                rw [Bool.or_false]
              refine ⟨_, rfl, _, rfl, ?_⟩
              cases hpt : ((ls ++ ms).take n).any (partB k1 k2) with
              | true =>
                rw [hpt, Bool.true_or] at stepA
                exact iteT ⟨some (.ref p), some (.ref l13), some (.ref l14), x14, by rw [stepA]; rfl, e1115⟩
              | false =>
                rw [hpt, Bool.false_or] at stepA
                refine iteF ?_
                refine .inl ⟨_, rfl, l13, rfl, ⟨_, sq_of h13b⟩, ?_⟩
                have hpl : (pkL k1 rs).length ≤ 20 := by
                  have h1 : (pkL k1 rs).length ≤ rs.length := by
                    unfold pkL
                    have h2 := List.length_filter_le (suAt k1 rs) (List.range rs.length)
                    rw [List.length_range] at h2
                    split
                    · exact h2
                    · rw [List.length_drop]
                      omega
                  exact Nat.le_trans h1 okr.1
                refine lcG (walk_list (xs := (pkL k1 rs).map nV)) (by rw [List.length_map]; omega) (sq_of h13b) (fun _ _ e h => ex_l e h) yAt_ex (fun i zs _ => zs = (((pkL k1 rs).take i).filter fun j => !decide (j ∈ pkL k2 rs)).map nV) (fun _ _ _ _ _ h => h) rfl ?_ ?_
                · rintro m y H16 H17 zs hm e16 ⟨rfl, hy⟩ rfl N N0 kN kN0
                  obtain ⟨j, hj, rfl⟩ : ∃ j, (pkL k1 rs)[m]? = some j ∧ y = nV j := by
                    rw [List.getElem?_map] at hy
                    cases hk : (pkL k1 rs)[m]? with
                    | none => rw [hk] at hy; cases hy
                    | some j => rw [hk] at hy; cases hy; exact ⟨j, rfl, rfl⟩
                  have step : ((pkL k1 rs).take (m + 1)).filter (fun j => !decide (j ∈ pkL k2 rs)) = ((pkL k1 rs).take m).filter (fun j => !decide (j ∈ pkL k2 rs)) ++ if (!decide (j ∈ pkL k2 rs)) = true then [j] else [] := by
                    rw [tk hj, List.filter_append, List.filter_cons, List.filter_nil]
                  refine ⟨rfl, ?_⟩
                  refine ⟨_, rfl, _, rfl, .inl ⟨l14, _, rfl, .inl (sq_of (e16 _ _ h14b)), rfl, flat_nV _, _, rfl, ?_⟩⟩
                  show if (if true = true then !inV (nV j) ((pkL k2 rs).map nV) else inV (nV j) ((pkL k2 rs).map nV)) = true then _ else _
                  rw [if_pos rfl, in_nV]
                  cases hd : (!decide (j ∈ pkL k2 rs)) with
                  | true =>
                    refine iteT ⟨_, rfl, kN _ _ (Ex.refl _) ?_⟩
                    rw [step, hd, if_pos rfl, List.map_append]
                    rfl
                  | false =>
                    refine iteF (kN0 _ (Ex.refl _) ?_)
                    rw [step, hd, if_neg (by decide), List.append_nil]
                · rintro l16 H16 zs hl16 e16 h16 _ rfl
                  refine ⟨by show 0 ≤ sizeLine; decide, fun n17 m17 => ?_⟩
                  generalize hq17 : upd H16 n17 _ = H17
                  obtain ⟨e17, h17⟩ := gen1 hq17 m17
                  refine ⟨l16, n17, _, rfl, rfl, sq_of (e17 _ _ h16), sq_of h17, ?_⟩
                  refine ⟨some (.ref p), some (.ref l13), some (.ref l14), x14, ?_, (e1115.trans e16).trans e17⟩
                  rw [stepA, List.length_map, List.take_length]
                  have : ((((pkL k1 rs).filter fun j => !decide (j ∈ pkL k2 rs)).map nV).isEmpty) = (ltI k1 k2 rs).isEmpty := by
                    show _ = ((pkL k1 rs).filter fun j => !decide (j ∈ pkL k2 rs)).isEmpty
                    cases (pkL k1 rs).filter (fun j => !decide (j ∈ pkL k2 rs)) <;> rfl
                  rw [this]
                  rfl
            · rintro σ H11 ⟨x11, x12, x13, x14, rfl, e11⟩
              have hfull : (ls ++ ms).take (ys ++ zs).length = ls ++ ms := by rw [rl10.len, List.take_length]
              rw [hfull]
              have hu1 := hu1.ex e11
              have hu2 := hu2.ex e11
              have e211 := (e27.trans e710).trans e11
              refine ⟨fun σ' H' => σ' = [some (.ref a), some (.ref b), some (.int (0 + (i : Int))), some wv, some u1, some u2, x6, x7, x8, some (.bl (sureB k1 k2)), some (.bl ((ls ++ ms).any (partB k1 k2))), x11, x12, x13, x14] ∧ Ex H11 H', ?_, ?_⟩
              · have fst : (sureB k1 k2 && (ls ++ ms).any (partB k1 k2)) = false := by
                  cases hs : sureB k1 k2 with
                  | false => rfl
                  | true => rw [hA hs]; rfl
                refine ⟨_, rfl, _, rfl, ?_⟩
                cases hs : sureB k1 k2 with
                | true =>
                  rw [hs, Bool.true_and] at fst
                  refine iteT ⟨_, rfl, _, rfl, ifF fst ?_⟩
                  refine ⟨_, rfl, _, rfl, u1, u1, k1, k1, rfl, hu1, hu1, g1, g1, fun H12 e12 => ?_⟩
                  refine ⟨_, rfl, by show 3 ≤ sizeLine; decide, fun t13 n13 => ?_⟩
                  generalize hq13 : upd H12 t13 _ = H13
                  obtain ⟨e13, h13⟩ := gen1 hq13 n13
                  refine ⟨by show 2 ≤ sizeLine; decide, fun t14 n14 => ?_⟩
                  generalize hq14 : upd H13 t14 _ = H14
                  obtain ⟨e14, h14⟩ := gen1 hq14 n14
                  have e1214 := (e12.trans e13).trans e14
                  refine ⟨u1, .ref t14, k1, .all nul, rfl, hu1.ex e1214, ⟨t14, .ref t13, rfl, h14, ⟨t13, rfl, e14 _ _ h13⟩⟩, g1, gK_nul, fun H15 e15 => ?_⟩
                  refine ⟨by show 2 ≤ sizeLine; decide, fun l16 n16 => ?_⟩
                  generalize hq16 : upd H15 l16 _ = H16
                  obtain ⟨e16, h16⟩ := gen1 hq16 n16
                  refine ⟨by show 2 ≤ sizeLine; decide, fun l17 n17 => ?_⟩
                  generalize hq17 : upd H16 l17 _ = H17
                  obtain ⟨e17, h17⟩ := gen1 hq17 n17
                  refine ⟨.ref l16, .ref l17, .list [.bool true, .bool true], rfl, .lst (sq_of (e17 _ _ h16)) (.cons (by rw [sure_self]; exact .bl _) (.cons (by rw [sure_any]; exact .bl _) .nil)), .lst (sq_of h17) (.cons (.bl _) (.cons (.bl _) .nil)), fine_tt, _, rfl, iteF ?_⟩
                  exact ⟨rfl, ((e1214.trans e15).trans e16).trans e17⟩
                | false =>
                  refine iteF (iteF ?_)
                  refine ⟨_, rfl, _, rfl, u1, u1, k1, k1, rfl, hu1, hu1, g1, g1, fun H12 e12 => ?_⟩
                  refine ⟨_, rfl, by show 3 ≤ sizeLine; decide, fun t13 n13 => ?_⟩
                  generalize hq13 : upd H12 t13 _ = H13
                  obtain ⟨e13, h13⟩ := gen1 hq13 n13
                  refine ⟨by show 2 ≤ sizeLine; decide, fun t14 n14 => ?_⟩
                  generalize hq14 : upd H13 t14 _ = H14
                  obtain ⟨e14, h14⟩ := gen1 hq14 n14
                  have e1214 := (e12.trans e13).trans e14
                  refine ⟨u1, .ref t14, k1, .all nul, rfl, hu1.ex e1214, ⟨t14, .ref t13, rfl, h14, ⟨t13, rfl, e14 _ _ h13⟩⟩, g1, gK_nul, fun H15 e15 => ?_⟩
                  refine ⟨by show 2 ≤ sizeLine; decide, fun l16 n16 => ?_⟩
                  generalize hq16 : upd H15 l16 _ = H16
                  obtain ⟨e16, h16⟩ := gen1 hq16 n16
                  refine ⟨by show 2 ≤ sizeLine; decide, fun l17 n17 => ?_⟩
                  generalize hq17 : upd H16 l17 _ = H17
                  obtain ⟨e17, h17⟩ := gen1 hq17 n17
                  refine ⟨.ref l16, .ref l17, .list [.bool true, .bool true], rfl, .lst (sq_of (e17 _ _ h16)) (.cons (by rw [sure_self]; exact .bl _) (.cons (by rw [sure_any]; exact .bl _) .nil)), .lst (sq_of h17) (.cons (.bl _) (.cons (.bl _) .nil)), fine_tt, _, rfl, iteF ?_⟩
                  exact ⟨rfl, ((e1214.trans e15).trans e16).trans e17⟩
              · rintro σ' H12 ⟨rfl, e12⟩
                have hu1 := hu1.ex e12
                have hu2 := hu2.ex e12
                refine ⟨_, rfl, by show 1 ≤ sizeLine; decide, fun t13 n13 => ?_⟩
                generalize hq13 : upd H12 t13 _ = H13
                obtain ⟨e13, h13⟩ := gen1 hq13 n13
                refine ⟨u1, .ref t13, k1, .last, rfl, hu1.ex e13, ⟨t13, rfl, h13⟩, g1, trivial, fun H14 e14 => ?_⟩
                refine ⟨_, rfl, by show 3 ≤ sizeLine; decide, fun t15 n15 => ?_⟩
                generalize hq15 : upd H14 t15 _ = H15
                obtain ⟨e15, h15⟩ := gen1 hq15 n15
                refine ⟨by show 2 ≤ sizeLine; decide, fun t16 n16 => ?_⟩
                generalize hq16 : upd H15 t16 _ = H16
                obtain ⟨e16, h16⟩ := gen1 hq16 n16
                have e1216 := ((e13.trans e14).trans e15).trans e16
                refine ⟨u1, .ref t16, k1, .like nul, rfl, hu1.ex e1216, ⟨t16, .ref t15, rfl, h16, ⟨t15, rfl, e16 _ _ h15⟩⟩, g1, gK_nul2, fun H17 e17 => ?_⟩
                have e1217 := e1216.trans e17
                refine ⟨.bl (sureB k1 .last), .bl (sureB k1 (.like nul)), .bool (sureB k1 .last), rfl, .bl _, by rw [show sureB k1 (.like nul) = sureB k1 .last from rfl]; exact .bl _, (fin_bool _).fine (by decide) (by decide), _, rfl, iteF ?_⟩
                refine ⟨_, rfl, .bl (sureB k1 k2), .ty "bool", _, _, _, rfl, .ty _, (Da.bl (H := H17) (sureB k1 k2)).ty, kit_ty (kit_bool (.bool (sureB k1 k2))), _, rfl, iteF ?_⟩
                have hu1 := hu1.ex e1217
                have hu2 := hu2.ex e1217
                have e217 := (e211.trans e12).trans e1217
                refine ⟨_, rfl, _, rfl, ?_⟩
                cases hs : sureB k1 k2 with
                | true => exact iteF (iteF ⟨_, _, _, _, _, _, _, _, _, _, _, _, _, rfl, e217⟩)
                | false =>
                  refine iteT ⟨_, rfl, _, rfl, ?_⟩
                  cases hpt : (ls ++ ms).any (partB k1 k2) with
                  | true => exact iteF (iteF ⟨_, _, _, _, _, _, _, _, _, _, _, _, _, rfl, e217⟩)
                  | false =>
                    obtain ⟨p, z, xs, rfl, hp, hin, _⟩ := hu1.wrd
                    obtain ⟨p2, z2, xs2, rfl, hp2, _, hin2⟩ := hu2.wrd
                    refine iteT ⟨_, rfl, .inr (.inl ⟨p, _, 0, _, rfl, rfl, st_of hp, atI_nat (j := 0) rfl, ?_⟩)⟩
                    refine ⟨by show 3 ≤ sizeLine; decide, fun t18 n18 => ?_⟩
                    generalize hq18 : upd H17 t18 _ = H18
                    obtain ⟨e18, h18⟩ := gen1 hq18 n18
                    refine .inl ⟨t18, _, rfl, .inr (st_of h18), rfl, rfl, _, rfl, ?_⟩
                    show if inV (.str z) [.str "like", .str "all", .str "last"] = true then _ else _
                    rw [hin]
                    cases hw1 : isW k1 with
                    | false => exact iteF (iteF ⟨_, _, _, _, _, _, _, _, _, _, _, _, _, rfl, e217.trans e18⟩)
                    | true =>
                      refine iteT ⟨_, rfl, .inr (.inl ⟨p2, _, 0, _, rfl, rfl, st_of (e18 _ _ hp2), atI_nat (j := 0) rfl, ?_⟩)⟩
                      refine ⟨by show 2 ≤ sizeLine; decide, fun t19 n19 => ?_⟩
                      generalize hq19 : upd H18 t19 _ = H19
                      obtain ⟨e19, h19⟩ := gen1 hq19 n19
                      refine .inl ⟨t19, _, rfl, .inr (st_of h19), rfl, rfl, _, rfl, ?_⟩
                      show if inV (.str z2) [.str "all", .str "like"] = true then _ else _
                      cases hj : inV (.str z2) [.str "all", .str "like"] with
                      | false => exact iteF ⟨_, _, _, _, _, _, _, _, _, _, _, _, _, rfl, (e217.trans e18).trans e19⟩
                      | true =>
                        have := hB hs hw1 (hin2 hj)
                        rw [hpt] at this
                        cases this
    · rintro σ H2 ⟨x2, x3, x4, x5, x6, x7, x8, x9, x10, x11, x12, x13, x14, rfl, e2⟩
      exact q _
end
end Own

namespace Own
open PySem PySem.Spec PyProof.Rows L2 Evl
theorem all_mk {P : Program} {w : World} {K : PySem.W.Frag} {h : Heap} {mg : Str → Option Value} {fa : Addr} (X : K.In h) (G : h.Ns mainGlobals mg) (hfa : mg "law" = some (.ref fa))
    {od0 an0 : Option Addr} {sl0 : Array (Option Value)} {oc0 kV0 dc0 pm0 cd0 ct0 : Value} {f0 : Addr}
    {od1 an1 : Option Addr} {sl1 : Array (Option Value)} {oc1 kV1 dc1 pm1 cd1 ct1 : Value} {f1 : Addr}
    {od2 an2 : Option Addr} {sl2 : Array (Option Value)} {oc2 kV2 dc2 pm2 cd2 ct2 : Value} {f2 : Addr}
    {od3 an3 : Option Addr} {sl3 : Array (Option Value)} {oc3 kV3 dc3 pm3 cd3 ct3 : Value} {f3 : Addr}
    {od4 an4 : Option Addr} {sl4 : Array (Option Value)} {oc4 kV4 dc4 pm4 cd4 ct4 : Value} {f4 : Addr}
    {od5 an5 : Option Addr} {sl5 : Array (Option Value)} {oc5 kV5 dc5 pm5 cd5 ct5 : Value} {f5 : Addr}
    {od6 an6 : Option Addr} {sl6 : Array (Option Value)} {oc6 kV6 dc6 pm6 cd6 ct6 : Value} {f6 : Addr}
    {od7 an7 : Option Addr} {sl7 : Array (Option Value)} {oc7 kV7 dc7 pm7 cd7 ct7 : Value} {f7 : Addr}
    {od8 an8 : Option Addr} {sl8 : Array (Option Value)} {oc8 kV8 dc8 pm8 cd8 ct8 : Value} {f8 : Addr}
    {od9 an9 : Option Addr} {sl9 : Array (Option Value)} {oc9 kV9 dc9 pm9 cd9 ct9 : Value} {f9 : Addr}
    {od10 an10 : Option Addr} {sl10 : Array (Option Value)} {oc10 kV10 dc10 pm10 cd10 ct10 : Value} {f10 : Addr}
    {od11 an11 : Option Addr} {sl11 : Array (Option Value)} {oc11 kV11 dc11 pm11 cd11 ct11 : Value} {f11 : Addr}
    {od12 an12 : Option Addr} {sl12 : Array (Option Value)} {oc12 kV12 dc12 pm12 cd12 ct12 : Value} {f12 : Addr}
    {od13 an13 : Option Addr} {sl13 : Array (Option Value)} {oc13 kV13 dc13 pm13 cd13 ct13 : Value} {f13 : Addr}
    {od14 an14 : Option Addr} {sl14 : Array (Option Value)} {oc14 kV14 dc14 pm14 cd14 ct14 : Value} {f14 : Addr}
    {od15 an15 : Option Addr} {sl15 : Array (Option Value)} {oc15 kV15 dc15 pm15 cd15 ct15 : Value} {f15 : Addr}
    {od16 an16 : Option Addr} {sl16 : Array (Option Value)} {oc16 kV16 dc16 pm16 cd16 ct16 : Value} {f16 : Addr}
    {od17 an17 : Option Addr} {sl17 : Array (Option Value)} {oc17 kV17 dc17 pm17 cd17 ct17 : Value} {f17 : Addr}
    {od18 an18 : Option Addr} {sl18 : Array (Option Value)} {oc18 kV18 dc18 pm18 cd18 ct18 : Value} {f18 : Addr}
    {od19 an19 : Option Addr} {sl19 : Array (Option Value)} {oc19 kV19 dc19 pm19 cd19 ct19 : Value} {f19 : Addr}
    {od20 an20 : Option Addr} {sl20 : Array (Option Value)} {oc20 kV20 dc20 pm20 cd20 ct20 : Value} {f20 : Addr}
    {od21 an21 : Option Addr} {sl21 : Array (Option Value)} {oc21 kV21 dc21 pm21 cd21 ct21 : Value} {f21 : Addr}
    {od22 an22 : Option Addr} {sl22 : Array (Option Value)} {oc22 kV22 dc22 pm22 cd22 ct22 : Value} {f22 : Addr} {an : Addr} {odA : Option Addr} {nA : Nat} {slA : Array (Option Value)} {t1 t2 t3 : Tok}
    (a0 : PySem.W.nsIn K mainGlobals "narrower" = some (some (.ref f0))) (l0 : K.lookup f0 = some ⟨oc0, od0, .func (PySem.W.fnOf "narrower" "narrower" (defArgs s_narrower) (defBody s_narrower) (defScope s_narrower) .none kV0 dc0 pm0 an0 cd0 ct0), sl0⟩) (c0 : PySem.W.codeIn K cd0 "narrower" = true) (k0 : PySem.W.keepIn K (.ref f0) = true)
    (a1 : PySem.W.nsIn K mainGlobals "last_as_like" = some (some (.ref f1))) (l1 : K.lookup f1 = some ⟨oc1, od1, .func (PySem.W.fnOf "last_as_like" "last_as_like" (defArgs s_last_as_like) (defBody s_last_as_like) (defScope s_last_as_like) .none kV1 dc1 pm1 an1 cd1 ct1), sl1⟩) (c1 : PySem.W.codeIn K cd1 "last_as_like" = true) (k1 : PySem.W.keepIn K (.ref f1) = true)
    (a2 : PySem.W.nsIn K mainGlobals "asked_of" = some (some (.ref f2))) (l2 : K.lookup f2 = some ⟨oc2, od2, .func (PySem.W.fnOf "asked_of" "asked_of" (defArgs s_asked_of) (defBody s_asked_of) (defScope s_asked_of) .none kV2 dc2 pm2 an2 cd2 ct2), sl2⟩) (c2 : PySem.W.codeIn K cd2 "asked_of" = true) (k2 : PySem.W.keepIn K (.ref f2) = true)
    (a3 : PySem.W.nsIn K mainGlobals "surely" = some (some (.ref f3))) (l3 : K.lookup f3 = some ⟨oc3, od3, .func (PySem.W.fnOf "surely" "surely" (defArgs s_surely) (defBody s_surely) (defScope s_surely) .none kV3 dc3 pm3 an3 cd3 ct3), sl3⟩) (c3 : PySem.W.codeIn K cd3 "surely" = true) (k3 : PySem.W.keepIn K (.ref f3) = true)
    (a4 : PySem.W.nsIn K mainGlobals "_law_bag" = some (some (.ref f4))) (l4 : K.lookup f4 = some ⟨oc4, od4, .func (PySem.W.fnOf "_law_bag" "_law_bag" (defArgs s_l_bag) (defBody s_l_bag) (defScope s_l_bag) .none kV4 dc4 pm4 an4 cd4 ct4), sl4⟩) (c4 : PySem.W.codeIn K cd4 "_law_bag" = true) (k4 : PySem.W.keepIn K (.ref f4) = true)
    (a5 : PySem.W.nsIn K mainGlobals "_law_take" = some (some (.ref f5))) (l5 : K.lookup f5 = some ⟨oc5, od5, .func (PySem.W.fnOf "_law_take" "_law_take" (defArgs s_l_take) (defBody s_l_take) (defScope s_l_take) .none kV5 dc5 pm5 an5 cd5 ct5), sl5⟩) (c5 : PySem.W.codeIn K cd5 "_law_take" = true) (k5 : PySem.W.keepIn K (.ref f5) = true)
    (a6 : PySem.W.nsIn K mainGlobals "_law_alike" = some (some (.ref f6))) (l6 : K.lookup f6 = some ⟨oc6, od6, .func (PySem.W.fnOf "_law_alike" "_law_alike" (defArgs s_l_alike) (defBody s_l_alike) (defScope s_l_alike) .none kV6 dc6 pm6 an6 cd6 ct6), sl6⟩) (c6 : PySem.W.codeIn K cd6 "_law_alike" = true) (k6 : PySem.W.keepIn K (.ref f6) = true)
    (a7 : PySem.W.nsIn K mainGlobals "_law_some" = some (some (.ref f7))) (l7 : K.lookup f7 = some ⟨oc7, od7, .func (PySem.W.fnOf "_law_some" "_law_some" (defArgs s_l_some) (defBody s_l_some) (defScope s_l_some) .none kV7 dc7 pm7 an7 cd7 ct7), sl7⟩) (c7 : PySem.W.codeIn K cd7 "_law_some" = true) (k7 : PySem.W.keepIn K (.ref f7) = true)
    (a8 : PySem.W.nsIn K mainGlobals "_law_names" = some (some (.ref f8))) (l8 : K.lookup f8 = some ⟨oc8, od8, .func (PySem.W.fnOf "_law_names" "_law_names" (defArgs s_l_names) (defBody s_l_names) (defScope s_l_names) .none kV8 dc8 pm8 an8 cd8 ct8), sl8⟩) (c8 : PySem.W.codeIn K cd8 "_law_names" = true) (k8 : PySem.W.keepIn K (.ref f8) = true)
    (a9 : PySem.W.nsIn K mainGlobals "_law_world" = some (some (.ref f9))) (l9 : K.lookup f9 = some ⟨oc9, od9, .func (PySem.W.fnOf "_law_world" "_law_world" (defArgs s_l_world) (defBody s_l_world) (defScope s_l_world) .none kV9 dc9 pm9 an9 cd9 ct9), sl9⟩) (c9 : PySem.W.codeIn K cd9 "_law_world" = true) (k9 : PySem.W.keepIn K (.ref f9) = true)
    (a10 : PySem.W.nsIn K mainGlobals "_law_atom" = some (some (.ref f10))) (l10 : K.lookup f10 = some ⟨oc10, od10, .func (PySem.W.fnOf "_law_atom" "_law_atom" (defArgs s_l_atom) (defBody s_l_atom) (defScope s_l_atom) .none kV10 dc10 pm10 an10 cd10 ct10), sl10⟩) (c10 : PySem.W.codeIn K cd10 "_law_atom" = true) (k10 : PySem.W.keepIn K (.ref f10) = true)
    (a11 : PySem.W.nsIn K mainGlobals "_law_fact" = some (some (.ref f11))) (l11 : K.lookup f11 = some ⟨oc11, od11, .func (PySem.W.fnOf "_law_fact" "_law_fact" (defArgs s_l_fact) (defBody s_l_fact) (defScope s_l_fact) .none kV11 dc11 pm11 an11 cd11 ct11), sl11⟩) (c11 : PySem.W.codeIn K cd11 "_law_fact" = true) (k11 : PySem.W.keepIn K (.ref f11) = true)
    (a12 : PySem.W.nsIn K mainGlobals "_law_row" = some (some (.ref f12))) (l12 : K.lookup f12 = some ⟨oc12, od12, .func (PySem.W.fnOf "_law_row" "_law_row" (defArgs s_l_row) (defBody s_l_row) (defScope s_l_row) .none kV12 dc12 pm12 an12 cd12 ct12), sl12⟩) (c12 : PySem.W.codeIn K cd12 "_law_row" = true) (k12 : PySem.W.keepIn K (.ref f12) = true)
    (a13 : PySem.W.nsIn K mainGlobals "_law_rows" = some (some (.ref f13))) (l13 : K.lookup f13 = some ⟨oc13, od13, .func (PySem.W.fnOf "_law_rows" "_law_rows" (defArgs s_l_rows) (defBody s_l_rows) (defScope s_l_rows) .none kV13 dc13 pm13 an13 cd13 ct13), sl13⟩) (c13 : PySem.W.codeIn K cd13 "_law_rows" = true) (k13 : PySem.W.keepIn K (.ref f13) = true)
    (a14 : PySem.W.nsIn K mainGlobals "_law_pattern" = some (some (.ref f14))) (l14 : K.lookup f14 = some ⟨oc14, od14, .func (PySem.W.fnOf "_law_pattern" "_law_pattern" (defArgs s_l_pattern) (defBody s_l_pattern) (defScope s_l_pattern) .none kV14 dc14 pm14 an14 cd14 ct14), sl14⟩) (c14 : PySem.W.codeIn K cd14 "_law_pattern" = true) (k14 : PySem.W.keepIn K (.ref f14) = true)
    (a15 : PySem.W.nsIn K mainGlobals "_law_pick" = some (some (.ref f15))) (l15 : K.lookup f15 = some ⟨oc15, od15, .func (PySem.W.fnOf "_law_pick" "_law_pick" (defArgs s_l_pick) (defBody s_l_pick) (defScope s_l_pick) .none kV15 dc15 pm15 an15 cd15 ct15), sl15⟩) (c15 : PySem.W.codeIn K cd15 "_law_pick" = true) (k15 : PySem.W.keepIn K (.ref f15) = true)
    (a16 : PySem.W.nsIn K mainGlobals "_law_fits" = some (some (.ref f16))) (l16 : K.lookup f16 = some ⟨oc16, od16, .func (PySem.W.fnOf "_law_fits" "_law_fits" (defArgs s_l_fits) (defBody s_l_fits) (defScope s_l_fits) .none kV16 dc16 pm16 an16 cd16 ct16), sl16⟩) (c16 : PySem.W.codeIn K cd16 "_law_fits" = true) (k16 : PySem.W.keepIn K (.ref f16) = true)
    (a17 : PySem.W.nsIn K mainGlobals "_law_fits_fact" = some (some (.ref f17))) (l17 : K.lookup f17 = some ⟨oc17, od17, .func (PySem.W.fnOf "_law_fits_fact" "_law_fits_fact" (defArgs s_l_fits_fact) (defBody s_l_fits_fact) (defScope s_l_fits_fact) .none kV17 dc17 pm17 an17 cd17 ct17), sl17⟩) (c17 : PySem.W.codeIn K cd17 "_law_fits_fact" = true) (k17 : PySem.W.keepIn K (.ref f17) = true)
    (a18 : PySem.W.nsIn K mainGlobals "_law_bare" = some (some (.ref f18))) (l18 : K.lookup f18 = some ⟨oc18, od18, .func (PySem.W.fnOf "_law_bare" "_law_bare" (defArgs s_l_bare) (defBody s_l_bare) (defScope s_l_bare) .none kV18 dc18 pm18 an18 cd18 ct18), sl18⟩) (c18 : PySem.W.codeIn K cd18 "_law_bare" = true) (k18 : PySem.W.keepIn K (.ref f18) = true)
    (a19 : PySem.W.nsIn K mainGlobals "_law_picked" = some (some (.ref f19))) (l19 : K.lookup f19 = some ⟨oc19, od19, .func (PySem.W.fnOf "_law_picked" "_law_picked" (defArgs s_l_picked) (defBody s_l_picked) (defScope s_l_picked) .none kV19 dc19 pm19 an19 cd19 ct19), sl19⟩) (c19 : PySem.W.codeIn K cd19 "_law_picked" = true) (k19 : PySem.W.keepIn K (.ref f19) = true)
    (a20 : PySem.W.nsIn K mainGlobals "_law_all_atoms" = some (some (.ref f20))) (l20 : K.lookup f20 = some ⟨oc20, od20, .func (PySem.W.fnOf "_law_all_atoms" "_law_all_atoms" (defArgs s_l_all_atoms) (defBody s_l_all_atoms) (defScope s_l_all_atoms) .none kV20 dc20 pm20 an20 cd20 ct20), sl20⟩) (c20 : PySem.W.codeIn K cd20 "_law_all_atoms" = true) (k20 : PySem.W.keepIn K (.ref f20) = true)
    (a21 : PySem.W.nsIn K mainGlobals "_law_tries" = some (some (.ref f21))) (l21 : K.lookup f21 = some ⟨oc21, od21, .func (PySem.W.fnOf "_law_tries" "_law_tries" (defArgs s_l_tries) (defBody s_l_tries) (defScope s_l_tries) .none kV21 dc21 pm21 an21 cd21 ct21), sl21⟩) (c21 : PySem.W.codeIn K cd21 "_law_tries" = true) (k21 : PySem.W.keepIn K (.ref f21) = true)
    (a22 : PySem.W.nsIn K mainGlobals "law" = some (some (.ref f22))) (l22 : K.lookup f22 = some ⟨oc22, od22, .func (PySem.W.fnOf "law" "law" (defArgs s_law) (defBody s_law) (defScope s_law) .none kV22 dc22 pm22 an22 cd22 ct22), sl22⟩) (c22 : PySem.W.codeIn K cd22 "law" = true) (k22 : PySem.W.keepIn K (.ref f22) = true)
    (z_abs : PySem.W.nsIn K mainGlobals "abs" = some none)
    (z_int : PySem.W.nsIn K mainGlobals "int" = some none)
    (z_len : PySem.W.nsIn K mainGlobals "len" = some none)
    (z_tuple : PySem.W.nsIn K mainGlobals "tuple" = some none)
    (z_list : PySem.W.nsIn K mainGlobals "list" = some none)
    (z_all : PySem.W.nsIn K mainGlobals "all" = some none)
    (z_any : PySem.W.nsIn K mainGlobals "any" = some none)
    (z_zip : PySem.W.nsIn K mainGlobals "zip" = some none)
    (z_range : PySem.W.nsIn K mainGlobals "range" = some none)
    (z_repr : PySem.W.nsIn K mainGlobals "repr" = some none)
    (z_dict : PySem.W.nsIn K mainGlobals "dict" = some none)
    (z_isinstance : PySem.W.nsIn K mainGlobals "isinstance" = some none)
    (z_bool : PySem.W.nsIn K mainGlobals "bool" = some none)
    (z_min : PySem.W.nsIn K mainGlobals "min" = some none)
    (gAn : PySem.W.nsIn K mainGlobals "ANYTHING" = some (some (.ref an))) (lAn : K.lookup an = some ⟨.type "tuple", odA, .seq #[.str "" t1, .str "" t2, .str "" t3] nA, slA⟩) :
    ∃ fd : FuncData, (∀ (s : Shared) (v : Value), BindsTo s fd ⟨[v], []⟩ [("_law_script", v)]) ∧ ∀ base : Heap, K.In base → base.Ns mainGlobals mg → FnG P w K mg base 7 fa fd ["_law_script"] (spLaw K) := by
  have e := hfa.symm.trans (PySem.W.mg_of X G a22)
  cases e
  have D_narrower : Df K mg "narrower" s_narrower := df_mk X G a0 l0 c0 k0
  have D_last_as_like : Df K mg "last_as_like" s_last_as_like := df_mk X G a1 l1 c1 k1
  have D_asked_of : Df K mg "asked_of" s_asked_of := df_mk X G a2 l2 c2 k2
  have D_surely : Df K mg "surely" s_surely := df_mk X G a3 l3 c3 k3
  have D_l_bag : Df K mg "_law_bag" s_l_bag := df_mk X G a4 l4 c4 k4
  have D_l_take : Df K mg "_law_take" s_l_take := df_mk X G a5 l5 c5 k5
  have D_l_alike : Df K mg "_law_alike" s_l_alike := df_mk X G a6 l6 c6 k6
  have D_l_some : Df K mg "_law_some" s_l_some := df_mk X G a7 l7 c7 k7
  have D_l_names : Df K mg "_law_names" s_l_names := df_mk X G a8 l8 c8 k8
  have D_l_world : Df K mg "_law_world" s_l_world := df_mk X G a9 l9 c9 k9
  have D_l_atom : Df K mg "_law_atom" s_l_atom := df_mk X G a10 l10 c10 k10
  have D_l_fact : Df K mg "_law_fact" s_l_fact := df_mk X G a11 l11 c11 k11
  have D_l_row : Df K mg "_law_row" s_l_row := df_mk X G a12 l12 c12 k12
  have D_l_rows : Df K mg "_law_rows" s_l_rows := df_mk X G a13 l13 c13 k13
  have D_l_pattern : Df K mg "_law_pattern" s_l_pattern := df_mk X G a14 l14 c14 k14
  have D_l_pick : Df K mg "_law_pick" s_l_pick := df_mk X G a15 l15 c15 k15
  have D_l_fits : Df K mg "_law_fits" s_l_fits := df_mk X G a16 l16 c16 k16
  have D_l_fits_fact : Df K mg "_law_fits_fact" s_l_fits_fact := df_mk X G a17 l17 c17 k17
  have D_l_bare : Df K mg "_law_bare" s_l_bare := df_mk X G a18 l18 c18 k18
  have D_l_picked : Df K mg "_law_picked" s_l_picked := df_mk X G a19 l19 c19 k19
  have D_l_all_atoms : Df K mg "_law_all_atoms" s_l_all_atoms := df_mk X G a20 l20 c20 k20
  have D_l_tries : Df K mg "_law_tries" s_l_tries := df_mk X G a21 l21 c21 k21
  have F_law := fun_mk (st := s_law) l22 c22 k22
  refine ⟨PySem.W.fnOf "law" "law" (defArgs s_law) (defBody s_law) (defScope s_law) .none kV22 dc22 pm22 an22 cd22 ct22, fun s v => .of_eq rfl, fun base _ _ => ?_⟩
  have T : Txt0 mg := ⟨PySem.W.mg_none_of X G z_abs, PySem.W.mg_none_of X G z_int, PySem.W.mg_none_of X G z_len, PySem.W.mg_none_of X G z_tuple, PySem.W.mg_none_of X G z_list, PySem.W.mg_none_of X G z_all, PySem.W.mg_none_of X G z_any, PySem.W.mg_none_of X G z_zip, PySem.W.mg_none_of X G z_range, PySem.W.mg_none_of X G z_repr, PySem.W.mg_none_of X G z_dict⟩
  have TA : TxtA K mg an := ⟨PySem.W.mg_of X G gAn, fun H => .inr ⟨_, _, _, lAn, rfl, rfl, by show 3 ≤ sizeLine; decide, .cons ⟨_, rfl⟩ (.cons ⟨_, rfl⟩ (.cons ⟨_, rfl⟩ .nil))⟩, PySem.W.mg_none_of X G z_isinstance, PySem.W.mg_none_of X G z_bool⟩
  have c1 : CalG P w K mg base 1 "_law_take" spTake := take_ext (ok_takeL T D_l_take)
  have c2 := bag_ext (ok_bagL (P := P) (w := w) (base := base) T D_l_bag)
  have c3 := ok_some (K := K) T D_l_some c1
  have c4 := ok_names T D_l_names c1
  have c5 := ok_world T D_l_world c1 c4
  have c6 := ok_atom T D_l_atom c1 c3
  have c7 := ok_fact T D_l_fact c1 c6
  have c8 := ok_row T D_l_row c3 c7
  have c9 := ok_rows T D_l_rows c1 c8
  have c10 := ok_pattern T D_l_pattern c1 c6
  have c11 := ok_pick T D_l_pick c1 c3 c10
  have c12 : CalG P w K mg base 1 "_law_fits" spFits := ok_lfits T D_l_fits
  have c13 := ok_lfits_fact T D_l_fits_fact c12
  have c14 : CalG P w K mg base 1 "_law_bare" spBare := ok_bare T D_l_bare
  have c15 := ok_lpicked T D_l_picked c14 c13
  have c16 : CalG P w K mg base 1 "_law_all_atoms" spAllA := ok_all_atoms T D_l_all_atoms
  have c17 := ok_tries T (PySem.W.mg_none_of X G z_min) D_l_tries c4 c16 c12
  have c18 : CalG P w K mg base 1 "narrower" (spNarrowS K) := ok_narrowerS T D_narrower
  have c19 := ok_lal (P := P) (w := w) (base := base) T TA D_last_as_like
  have c20 := ok_asked (P := P) (w := w) (base := base) T TA D_asked_of
  have c21 := ok_surely T D_surely c19 c20 c18
  have c22 : CalG P w K mg base 1 "_law_alike" (spAlike K) := ok_alike T D_l_alike
  exact ok_law T TA F_law c2 c1 c5 c11 c9 c17 c15 c21 c22
theorem walk {l : PySem.W.OpenLaw} {q : Program} {loose : List Str} {XP : (Str → Option Value) → Heap → Prop} {YP : World → Heap → Prop} {d : DefRec} {K : Params → PySem.W.Frag} (most : l.most = some 63) (nodf : d.params.defaults = [])
    (inn : ∀ (w : World) (h : Heap), YP w h → (K w.params).In h)
    (F : ∀ (w : World) (mg : Str → Option Value) (fa : Addr) (h : Heap), (K w.params).In h → h.Ns mainGlobals mg → mg d.name = some (.ref fa) →
      ∃ fd : FuncData, (∀ (s : Shared) (u : Value), BindsTo s fd ⟨[u], []⟩ [("_law_script", u)]) ∧ ∀ base : Heap, (K w.params).In base → base.Ns mainGlobals mg → FnG l.prog w (K w.params) mg base 7 fa fd ["_law_script"] (spLaw (K w.params))) :
    PySem.W.WalkO q loose XP YP l.row.toRowW d [] (fun f vs => PySem.call f vs) :=
  walk_G (n := 63) (k := 7) (x := "_law_script") (sp := fun w => spLaw (K w.params)) most (by decide) nodf ⟨rfl, by decide, by decide⟩ inn F (fun _ _ a ns hl hS => ⟨a, ns, rfl, hS, hl, fun _ => rfl⟩)
end Own
open PySem PySem.W PyProof.Rows in
set_option maxRecDepth 100000 in
set_option maxHeartbeats 0 in
theorem PySem.Challenge.cw_scriptpicks_k27_picks_within_picks_holds : PySem.Challenge.rw_scriptpicks_k27_picks_within_picks.Holds := by
  w_on; o_law; k_head; (case hw => w_witness2)
  k_fill
  refine Own.walk (l := PySem.Challenge.rw_scriptpicks_k27_picks_within_picks) rfl rfl (fun w h Y => PySem.W.kIn_of Y) ?F
  case F =>
    intro w mg fa h KX G hmg
    refine' Own.all_mk KX G hmg ?a0 ?l0 ?c0 ?k0 ?a1 ?l1 ?c1 ?k1 ?a2 ?l2 ?c2 ?k2 ?a3 ?l3 ?c3 ?k3 ?a4 ?l4 ?c4 ?k4 ?a5 ?l5 ?c5 ?k5 ?a6 ?l6 ?c6 ?k6 ?a7 ?l7 ?c7 ?k7 ?a8 ?l8 ?c8 ?k8 ?a9 ?l9 ?c9 ?k9 ?a10 ?l10 ?c10 ?k10 ?a11 ?l11 ?c11 ?k11 ?a12 ?l12 ?c12 ?k12 ?a13 ?l13 ?c13 ?k13 ?a14 ?l14 ?c14 ?k14 ?a15 ?l15 ?c15 ?k15 ?a16 ?l16 ?c16 ?k16 ?a17 ?l17 ?c17 ?k17 ?a18 ?l18 ?c18 ?k18 ?a19 ?l19 ?c19 ?k19 ?a20 ?l20 ?c20 ?k20 ?a21 ?l21 ?c21 ?k21 ?a22 ?l22 ?c22 ?k22 ?z_abs ?z_int ?z_len ?z_tuple ?z_list ?z_all ?z_any ?z_zip ?z_range ?z_repr ?z_dict ?z_isinstance ?z_bool ?z_min ?gAn ?lAn
    (case a0 => k_is)
    (case l0 => k_is)
    (case c0 => k_is)
    (case k0 => k_is)
    (case a1 => k_is)
    (case l1 => k_is)
    (case c1 => k_is)
    (case k1 => k_is)
    (case a2 => k_is)
    (case l2 => k_is)
    (case c2 => k_is)
    (case k2 => k_is)
    (case a3 => k_is)
    (case l3 => k_is)
    (case c3 => k_is)
    (case k3 => k_is)
    (case a4 => k_is)
    (case l4 => k_is)
    (case c4 => k_is)
    (case k4 => k_is)
    (case a5 => k_is)
    (case l5 => k_is)
    (case c5 => k_is)
    (case k5 => k_is)
    (case a6 => k_is)
    (case l6 => k_is)
    (case c6 => k_is)
    (case k6 => k_is)
    (case a7 => k_is)
    (case l7 => k_is)
    (case c7 => k_is)
    (case k7 => k_is)
    (case a8 => k_is)
    (case l8 => k_is)
    (case c8 => k_is)
    (case k8 => k_is)
    (case a9 => k_is)
    (case l9 => k_is)
    (case c9 => k_is)
    (case k9 => k_is)
    (case a10 => k_is)
    (case l10 => k_is)
    (case c10 => k_is)
    (case k10 => k_is)
    (case a11 => k_is)
    (case l11 => k_is)
    (case c11 => k_is)
    (case k11 => k_is)
    (case a12 => k_is)
    (case l12 => k_is)
    (case c12 => k_is)
    (case k12 => k_is)
    (case a13 => k_is)
    (case l13 => k_is)
    (case c13 => k_is)
    (case k13 => k_is)
    (case a14 => k_is)
    (case l14 => k_is)
    (case c14 => k_is)
    (case k14 => k_is)
    (case a15 => k_is)
    (case l15 => k_is)
    (case c15 => k_is)
    (case k15 => k_is)
    (case a16 => k_is)
    (case l16 => k_is)
    (case c16 => k_is)
    (case k16 => k_is)
    (case a17 => k_is)
    (case l17 => k_is)
    (case c17 => k_is)
    (case k17 => k_is)
    (case a18 => k_is)
    (case l18 => k_is)
    (case c18 => k_is)
    (case k18 => k_is)
    (case a19 => k_is)
    (case l19 => k_is)
    (case c19 => k_is)
    (case k19 => k_is)
    (case a20 => k_is)
    (case l20 => k_is)
    (case c20 => k_is)
    (case k20 => k_is)
    (case a21 => k_is)
    (case l21 => k_is)
    (case c21 => k_is)
    (case k21 => k_is)
    (case a22 => k_is)
    (case l22 => k_is)
    (case c22 => k_is)
    (case k22 => k_is)
    (case z_abs => k_is)
    (case z_int => k_is)
    (case z_len => k_is)
    (case z_tuple => k_is)
    (case z_list => k_is)
    (case z_all => k_is)
    (case z_any => k_is)
    (case z_zip => k_is)
    (case z_range => k_is)
    (case z_repr => k_is)
    (case z_dict => k_is)
    (case z_isinstance => k_is)
    (case z_bool => k_is)
    (case z_min => k_is)
    (case gAn => k_is)
    (case lAn => k_is)
