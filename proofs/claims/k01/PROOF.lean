import PyProof.Rows.All
import Wide.All
import OpenK.AllK
import Wide.FinOn
import KE.KStateDown
import Lean
import HandS.ForMost
import HandS.WordsExc
import HandS.Exc
import HandS.ExcInit
import HandS.IsInst
import HandS.Defaults
import HandS.Wide
import HandS.Style
import HandS.Strs
import HandS.More
import HandS.RaiseMore
import HandS.Flow
import HandS.HeadHook2
import HandS.HeadEnd
import HandS.EndBits
import HandS.StrMore
import PyProof.ReprRoads
import PyProof.Draws
import PyProof.EnumMake
import PyProof.ListStr
import PyProof.TupleOfStr
import HandS.Conv
import PyProof.Rows.StrRev
import HandS.HeadHook3
import HandS.Sort
import HandS.SortInts
import HandS.Small
import HandS.Deep
import KE.KDictSum
import KE.KDictList
import HandS.Zip
import PyProof.StrWalks
import HandS.TryMany
import HandS.ExcField
import HandS.ExcIs
import KE.KTryMore
import KE.KIsAll
import HandS.ExcOwn
import HandS.ClsMeth
import HandS.HeadNt
import PyProof.ReprLen
import HandS.CallLocal
import HandS.OwnEq
import KE.KCallOwn
import PyProof.Rows.StrLast
import Wide.Txt
import KE.GoesMore
import KE.KEqDeep
import PyProof.Rows.ReprShort
import KE.KDictZip
import HandS.DictComp
import HandS.ExcValue
import HandS.Head0
import HandS.Head1
import HandS.Head2
import HandS.TupAny
import KE.IntTextLaws
import PyProof.StrLawsRepr
import PySem.Challenge.RW_cratetowers_k01_exceptions
set_option Elab.async false
set_option linter.all false
set_option maxRecDepth 100000
set_option maxHeartbeats 0
namespace U
open PySem PySem.Spec PyProof.Rows L2

/-! ### operators on values, by the values' kinds -/
section
variable {X : Cx}
def uAdd : R2 := fun x y H Q => match x, y with
  | .int i, .int j => Q (.int (i + j)) H
  | .str i, .str j => i.length + j.length ≤ sizeLine ∧ Q (.str (i ++ j)) H
  | .ref a, .ref b => rCat (.ref a) (.ref b) H Q
  | _, _ => False
theorem op_uAdd : OpR X (binaryOp .Add) uAdd := by
  intro pins s σ H x y u v Q I rx ry h
  cases x <;> cases y <;> first
    | exact (show False from h).elim
    | exact op_add pins s σ H _ _ u v Q I rx ry ⟨_, _, rfl, rfl, h⟩
    | exact op_add_str pins s σ H _ _ u v Q I rx ry ⟨_, _, rfl, rfl, h⟩
    | exact op_cat pins s σ H _ _ u v Q I rx ry h
def uSub : R2 := fun x y H Q => match x, y with
  | .int i, .int j => Q (.int (i - j)) H
  | _, _ => False
theorem op_uSub : OpR X (binaryOp .Sub) uSub := by
  intro pins s σ H x y u v Q I rx ry h
  cases x <;> cases y <;> first
    | exact (show False from h).elim
    | exact op_sub pins s σ H _ _ u v Q I rx ry ⟨_, _, rfl, rfl, h⟩
/-- a text, so many times -/
def rMulS : R2 := fun x y H Q => ∃ z n, x = .str z ∧ y = .int n ∧ 0 ≤ n ∧ n ≤ 1000 ∧ z.length ≤ 10000 ∧ Q (.str (Txt.mul z n)) H
theorem op_mulS : OpR X (binaryOp .Mult) rMulS := by
  intro ps s σ H x y v u R I rx ry h
  obtain ⟨z, n, rfl, rfl, h0, h1, h2, q⟩ := h
  obtain ⟨t, rfl⟩ := rx
  obtain ⟨t', rfl⟩ := ry
  refine SB.mul ⟨?_, ?_, ?_⟩ fun t' k => ⟨.str _, H, I.tok _, ⟨_, rfl⟩, q⟩
  · have e1 : ¬ n < -(2 ^ 63 : Int) := by omega
    have e2 : ¬ n ≥ 2 ^ 63 := by omega
    rw [decide_eq_false e1, decide_eq_false e2] <;> rfl
  · intro k1 _ k2
    have e : (z.length : Int) * n ≤ 10000 * 1000 := Int.mul_le_mul (by omega) h1 h0 (by omega)
    have e3 : (z.length : Int) ≤ (2 ^ 63 - 1) / n := Int.le_ediv_of_mul_le (by omega) (by omega)
    omega
  · intro _ _
    have e : z.length * n.toNat ≤ 10000 * 1000 := Nat.mul_le_mul h2 (by omega)
    have hs := sizeLine_eq
    show decide (_ > sizeLine) = false
    exact decide_eq_false (Nat.not_lt.mpr (by omega))
def uMul : R2 := fun x y H Q => match x, y with
  | .int i, .int j => CMul i j ∧ Q (.int (i * j)) H
  | .str z, .int n => 0 ≤ n ∧ n ≤ 1000 ∧ z.length ≤ 10000 ∧ Q (.str (Txt.mul z n)) H
  | .ref a, .int n => rRep (.ref a) (.int n) H Q
  | _, _ => False
theorem op_uMul : OpR X (binaryOp .Mult) uMul := by
  intro pins s σ H x y u v Q I rx ry h
  cases x <;> cases y <;> first
    | exact (show False from h).elim
    | exact op_mul pins s σ H _ _ u v Q I rx ry ⟨_, _, rfl, rfl, h⟩
    | exact op_mulS pins s σ H _ _ u v Q I rx ry ⟨_, _, rfl, rfl, h⟩
    | exact op_rep pins s σ H _ _ u v Q I rx ry h
def uDiv : R2 := fun x y H Q => match x, y with
  | .int i, .int j => CDivW i j ∧ Q (.int (i / j)) H
  | _, _ => False
theorem op_uDiv : OpR X (binaryOp .FloorDiv) uDiv := by
  intro pins s σ H x y u v Q I rx ry h
  cases x <;> cases y <;> first
    | exact (show False from h).elim
    | exact op_fdivW pins s σ H _ _ u v Q I rx ry ⟨_, _, rfl, rfl, h⟩
def uMod : R2 := fun x y H Q => match x, y with
  | .int i, .int j => 0 < j ∧ Q (.int (i % j)) H
  | _, _ => False
theorem op_uMod : OpR X (binaryOp .Mod) uMod := by
  intro pins s σ H x y u v Q I rx ry h
  cases x <;> cases y <;> first
    | exact (show False from h).elim
    | exact op_mod pins s σ H _ _ u v Q I rx ry ⟨_, _, rfl, rfl, h⟩
def uPow : R2 := fun x y H Q => match x, y with
  | .int i, .int j => CPow i j ∧ Q (.int (i ^ j.toNat)) H
  | _, _ => False
theorem op_uPow : OpR X (binaryOp .Pow) uPow := by
  intro pins s σ H x y u v Q I rx ry h
  cases x <;> cases y <;> first
    | exact (show False from h).elim
    | exact op_pow pins s σ H _ _ u v Q I rx ry ⟨_, _, rfl, rfl, h⟩
/-! comparisons -/
def uEq (K : PySem.W.Frag) : R2 := fun x y H Q => match x, y with
  | .ref a, y => rEqD K (.ref a) y H Q
  | .int i, .int j => Q (.bl (decide (i = j))) H
  | .str i, .str j => Q (.bl (decide (i = j))) H
  | .non, y => rEq .non y H Q
  | .bl b, y => rEq (.bl b) y H Q
  | .int i, .non => Q (.bl false) H
  | .str i, .non => Q (.bl false) H
  | _, _ => False
theorem op_uEq (hu : X.A.units + 64 < cLine) : OpR X (compareOp .Eq) (uEq X.K) := by
  intro pins s σ H x y u v Q I rx ry h
  cases x <;> cases y <;> first
    | exact (show False from h).elim
    | exact op_eqD hu pins s σ H _ _ u v Q I rx ry h
    | exact op_eq pins s σ H _ _ u v Q I rx ry h
    | exact op_eq pins s σ H _ _ u v Q I rx ry ⟨rfl, by simpa [uEq] using h⟩
def uNe (K : PySem.W.Frag) : R2 := fun x y H Q => match x, y with
  | .ref a, y => rNeD K (.ref a) y H Q
  | .int i, .int j => Q (.bl (!decide (i = j))) H
  | .str i, .str j => Q (.bl (!decide (i = j))) H
  | .non, y => rNe .non y H Q
  | .bl b, y => rNe (.bl b) y H Q
  | .int i, .non => Q (.bl true) H
  | .str i, .non => Q (.bl true) H
  | _, _ => False
theorem op_uNe (hu : X.A.units + 64 < cLine) : OpR X (compareOp .NotEq) (uNe X.K) := by
  intro pins s σ H x y u v Q I rx ry h
  cases x <;> cases y <;> first
    | exact (show False from h).elim
    | exact op_neD hu pins s σ H _ _ u v Q I rx ry h
    | exact op_ne pins s σ H _ _ u v Q I rx ry h
    | exact op_ne pins s σ H _ _ u v Q I rx ry ⟨rfl, by simpa [uNe] using h⟩
def uCmp (p : Int → Int → Bool) : R2 := fun x y H Q => match x, y with
  | .int i, .int j => Q (.bl (p i j)) H
  | _, _ => False
theorem uCmp_of {f : Value → Value → Sem Value} {p : Int → Int → Bool} (h : OpR X f (rI0 fun i j => .bl (p i j))) : OpR X f (uCmp p) := by
  intro pins s σ H x y u v Q I rx ry q
  cases x <;> cases y <;> first
    | exact (show False from q).elim
    | exact h pins s σ H _ _ u v Q I rx ry ⟨_, _, rfl, rfl, q⟩
abbrev uLt : R2 := uCmp fun i j => decide (i < j)
abbrev uLe : R2 := uCmp fun i j => decide (i ≤ j)
abbrev uGt : R2 := uCmp fun i j => decide (j < i)
abbrev uGe : R2 := uCmp fun i j => decide (j ≤ i)
theorem op_uLt : OpR X (compareOp .Lt) uLt := uCmp_of op_lt
theorem op_uLe : OpR X (compareOp .LtE) uLe := uCmp_of op_le
theorem op_uGt : OpR X (compareOp .Gt) uGt := uCmp_of op_gt
def uIs : R2 := fun x y H Q => match y with
  | .non => Q (.bl (decide (x = .non))) H
  | .bl b => (match x with
    | .bl a => Q (.bl (decide (a = b))) H
    | _ => False)
  | _ => False
theorem op_uIs : OpR X (compareOp .Is) uIs := by
  intro pins s σ H x y u v Q I rx ry h
  cases y <;> try exact (show False from h).elim
  · exact op_isN pins s σ H _ _ u v Q I rx ry ⟨rfl, h⟩
  · cases x <;> try exact (show False from h).elim
    exact op_isBl pins s σ H _ _ u v Q I rx ry ⟨_, _, rfl, rfl, h⟩
def uNis : R2 := fun x y H Q => match y with
  | .non => Q (.bl (!decide (x = .non))) H
  | .bl b => (match x with
    | .bl a => Q (.bl (!decide (a = b))) H
    | _ => False)
  | _ => False
/-! subscripts -/
def uIx (K : PySem.W.Frag) : R2 := fun x y H Q => match x, y with
  | .str z, .int i => z.length ≤ sizeLine ∧ ∃ c, atI z.cps.toList i = some c ∧ Q (.str ⟨#[c]⟩) H
  | .ref p, .int i => ∃ xs v, (SqL K H p xs ∨ SqT K H p xs) ∧ atI xs i = some v ∧ Q v H
  | _, _ => False
theorem ix_u : IxR X (uIx X.K) := by
  intro ea eb pins s σ H x y u v Q I rx ry h
  cases x <;> cases y <;> try exact (show False from h).elim
  · obtain ⟨h1, c, h2, q⟩ := h
    exact ix_str ea eb pins s σ H _ _ u v Q I rx ry ⟨_, _, c, rfl, rfl, h1, h2, q⟩
  · obtain ⟨xs, z, hs | hs, h2, q⟩ := h
    · exact ix_list ea eb pins s σ H _ _ u v Q I rx ry ⟨_, xs, _, z, rfl, rfl, hs, h2, q⟩
    · exact ix_tup ea eb pins s σ H _ _ u v Q I rx ry ⟨_, xs, _, z, rfl, rfl, hs, h2, q⟩
def uSl (K : PySem.W.Frag) : V → Option Int → Option Int → Hp → VK → Prop := fun x lo hi H Q => match x with
  | .str z => z.length ≤ sizeLine ∧ Q (.str (cutS z lo hi)) H
  | .ref a => rSlL K (.ref a) lo hi H Q ∨ rSlT K (.ref a) lo hi H Q
  | _ => False
theorem sl_u : SlR X (uSl X.K) := by
  intro pins s σ H x v sl lo hi ulo uhi Q I rx hsl hlo hhi h
  cases x <;> try exact (show False from h).elim
  · exact sl_str pins s σ H _ v sl lo hi ulo uhi Q I rx hsl hlo hhi ⟨_, rfl, h⟩
  · rcases h with h | h
    · exact sl_list pins s σ H _ v sl lo hi ulo uhi Q I rx hsl hlo hhi h
    · exact sl_tup pins s σ H _ v sl lo hi ulo uhi Q I rx hsl hlo hhi h
/-! calls -/
def uLen (K : PySem.W.Frag) : List V → Hp → VK → Prop := fun xs H Q => match xs with
  | [.str z] => z.length ≤ sizeLine ∧ Q (.int z.length) H
  | [.ref p] => ∃ ys, (SqL K H p ys ∨ SqT K H p ys) ∧ Q (.int ys.length) H
  | _ => False
theorem call_uLen : CallR X (.builtin "len") (uLen X.K) := by
  intro ps s σ H xs us R I r h
  match xs, h with
  | [.str z], h => exact call_len_str ps s σ H _ us R I r ⟨_, rfl, h⟩
  | [.ref p], h =>
    obtain ⟨ys, hs, q⟩ := h
    exact call_len_seq ps s σ H _ us R I r ⟨p, ys, rfl, hs, q⟩
def uIsi (K : PySem.W.Frag) : List V → Hp → VK → Prop := fun xs H Q => match xs with
  | [x, .ty T] => ∃ t b, TyX K H x t ∧ PySem.W.kitOne K t (.type T) = some b ∧ Q (.bl b) H
  | [x, .ref c] => (∃ t b, TyX K H x t ∧ PySem.W.kitOne K t (.ref c) = some b ∧ Q (.bl b) H) ∨ ∃ cs us t b, H c = some (.tup cs) ∧ Paired ClsV cs us ∧ TyX K H x t ∧ PySem.W.kitAny K t us = some b ∧ Q (.bl b) H
  | _ => False
theorem call_uIsi : CallR X (.builtin "isinstance") (uIsi X.K) := by
  intro ps s σ H xs us R I r h
  match xs, h with
  | [x, .ty T], h =>
    obtain ⟨t, b, h1, h2, q⟩ := h
    exact call_isi ps s σ H _ us R I r ⟨x, _, t, _, b, rfl, .ty T, h1, h2, q⟩
  | [x, .ref c], h =>
    rcases h with ⟨t, b, h1, h2, q⟩ | ⟨cs, ws, t, b, h0, h3, h1, h2, q⟩
    · exact call_isi ps s σ H _ us R I r ⟨x, _, t, _, b, rfl, .own c, h1, h2, q⟩
    · exact call_isiT ps s σ H _ us R I r ⟨x, c, cs, t, ws, b, rfl, h0, h3, h1, h2, q⟩
end
end U
namespace U
open PySem PySem.Spec PyProof.Rows L2

/-! ### promises kept where no text of a container is being made -/
structure FnG (P : Program) (w : World) (K : PySem.W.Frag) (mg : Str → Option Value) (base : Heap) (k : Nat) (f : Addr) (fd : FuncData) (ps : List Str) (sp : Sp) : Prop where
  len : ∀ (vs : List V) (H : Hp) (Q : VK) (E : XK), sp vs H Q E → vs.length = ps.length
  go : ∀ A : Around, A.guards = some [] → ∀ (outer : List Env) (s : Shared) (H : Hp) (ar : Args) (us : List Value) (vs : List V) (Q : VK) (E : XK),
    Room k A → Env0 P w K mg base A outer s H → BindsTo s fd ar (ps.zip us) → Vals vs us → sp vs H Q E → codeAny (model P w) A (.call (.ref f) ar) (CR (L2.CX P w) outer P w H s Q E) s
section
variable {P : Program} {w : World} {K : PySem.W.Frag} {mg : Str → Option Value} {base : Heap}
/-- a def by its body -/
theorem fnG_of {x qual : Str} {pa : Arguments} {bd : List Stmt} {sc : Scope} {f : Addr} {fd : FuncData} {N ps : List Str} {k : Nat} {sp : Sp} (F : FunD K x qual pa bd sc [] [] f fd) (S : FnScope N ps sc) (hlen : ∀ vs H Q E, sp vs H Q E → vs.length = ps.length)
    (hb : ∀ (cdv : Value) (A : Around) (outer : List Env) (s : Shared) (H : Hp) (vs : List V) (Q : VK) (E : XK), A.guards = some [] → Room k (A.deeper (envOfC qual sc s.heap.objs.size f cdv)) → sp vs H Q E →
      ∃ t, PSs (cxOf (L2.CX P w) P w K mg base N qual sc f cdv A outer s H E) bd t ∧ t { nx := fun _ H' => Q .non H', rt := Q } (start N vs) H) : FnG P w K mg base (k + 1) f fd ps sp := by
  obtain ⟨oc, od, dV, kV, doc, pm, an, cdv, ct, osl, hfd, hlk, hcode, _, _⟩ := F.ex
  subst hfd
  refine ⟨hlen, fun A hA outer s H ar us vs Q E room env bnd vls prom => ?_⟩
  have len1 := hlen _ _ _ _ prom
  have kin : K.In s.heap := e_kin env
  have nol : s.heap.NoLimit := env.mod.nolimit.keeps fun b o z => (env.bs b o z).1
  refine codeAny_call_function room.depth (kin _ _ hlk) rfl S.co S.gen rfl (PySem.W.codeRec_of kin hcode) (bnd _ _ _ _ ?_)
  refine wpAny_newFunctionEnv_cells S.kind (kinds_of S) fun en hen s1 ic => ?_
  cases hen
  refine ⟨nol.keeps ic.toInCall.keep, codeAny_func ?_⟩
  obtain ⟨t, der, rd⟩ := hb cdv A outer s H vs Q E hA (room.deeper _) prom
  have inv0 := inv_start (CX := L2.CX P w) (E := E) S room.hd env len1 vls ic
  refine wpAny_mono (der.run [] s1 (start N vs) H _ inv0 rd) (fun fl s' out => ?_) fun _ _ z => z
  match fl, out with
  | .ret u, ⟨v, σ', H', J, rv, q⟩ => exact ⟨v, H', J.os, J.bare, J.base, J.hok, rv, q⟩
  | .next, ⟨σ', H', J, q⟩ => exact ⟨.non, H', J.os, J.bare, J.base, J.hok, rfl, q⟩
  | .brk, ⟨_, _, _, q⟩ => exact q.elim
  | .cont, ⟨_, _, _, q⟩ => exact q.elim
where
  e_kin {A : Around} {outer : List Env} {s : Shared} {H : Hp} (env : Env0 P w K mg base A outer s H) : K.In s.heap := env.mod.kin.keeps fun b o z => (env.bs b o z).1
  kinds_of {N ps : List Str} {sc : Scope} (S : FnScope N ps sc) {n : Nat} {us : List Value} : ∀ y ∈ ps.zip us, sc.names.lookup y.1 = some .local ∨ (sc.names.lookup y.1 = some .cell ∧ ((cellsFrom n sc.names []).lookup y.1).isSome = true) :=
    fun y hy => (S.par y.1 (List.of_mem_zip (a := y.1) (b := y.2) hy).1).imp id fun q => ⟨q, PySem.W.cellsFrom_some _ _ _ (.inl q)⟩
end

/-! ### a def of the module under its name -/
structure Good (P : Program) (w : World) (K : PySem.W.Frag) (mg : Str → Option Value) (base : Heap) (k : Nat) (x : Str) (ps : List Str) (sp : Sp) : Prop where
  fn : ∃ fd, FnG P w K mg base k (He.ga K x) fd ps sp ∧ Binds K fd ps []
  mg : mg x = some (.ref (He.ga K x))
  kp : PySem.W.keepIn K (.ref (He.ga K x)) = true
/-- a method that asks no text of a container -/
structure GoodM (P : Program) (w : World) (K : PySem.W.Frag) (mg : Str → Option Value) (base : Heap) (k : Nat) (C m : Str) (ps : List Str) (sp : Sp) : Prop where
  fn : ∃ fd, FnOk P w K mg base (L2.CX P w) k (He.ma K (He.ga K C) m) fd ps sp ∧ Binds K fd ps []
  mt : Meth K (He.ga K C) m (He.ma K (He.ga K C) m)
  cl : Cls K (He.ga K C)
/-- f(..) -/
def tFn (sp : Sp) (E : XK) (t : TA) : TE := fun σ H Q => t σ H fun vs H1 => sp vs H1 Q E
section
variable {X : Cx} {k : Nat} {x m : Str} {ps : List Str} {sp : Sp} {E : XK} {p pos apos : Pos} {e o : Expr} {es : List Expr} {ta : TE} {t : TA}
theorem run_G {f : Addr} {fd : FuncData} {pins : List (Addr × Obj)} {σ : L2.St} {H : Hp} {s : Shared} {Q : VK} {us : List Value} {vs : List V} (F : FnG X.prog X.w X.K X.mg X.base k f fd ps sp) (hA : X.A.guards = some []) (hr : Room k X.A) (hb : Binds X.K fd ps [])
    (hx : Passes (L2.CX X.prog X.w) X E) (I : Inv X pins σ H s) (r : Vals vs us) (h : sp vs H Q E) : wpAny (model X.prog X.w) X.A (call (.ref f) us) (EP X pins σ Q) X.xe s := by
  have hl : (us ++ []).length = ps.length := by rw [List.append_nil, ← r.length]; exact F.len _ _ _ _ h
  have bb := hb s us I.kIn hl
  rw [List.append_nil] at bb
  refine wpAny_call (codeAny_mono (F.go X.A hA X.stack s H ⟨us, []⟩ us vs Q E hr I.env0 bb r h) fun res s' out => ?_)
  match res, out with
  | .error er, out => exact hx pins σ H s er s' I out
  | .ok (.ret u), out => exact I.after out
  | .ok .next, out => exact False.elim out
  | .ok .brk, out => exact False.elim out
  | .ok .cont, out => exact False.elim out
theorem pe_fn (g : Good X.prog X.w X.K X.mg X.base k x ps sp) (hA : X.A.guards = some []) (hr : Room k X.A) (hg : Gl X x) (hx : Passes (L2.CX X.prog X.w) X E)
    (hpl : (backTo pos (starEach es X.env)).any (·.1) = false := by rfl) (he : starEach (e :: es) X.env = (false, eval e X.env) :: starEach es X.env := by rfl) (ha : PA X (e :: es) t)
    (hdb : (x == ("__debug__" : Str)) = false := by decide) :
    PE X (.Call (.Name x p) (e :: es) [] pos) (tFn sp E t) := by
  obtain ⟨fd, F, hb⟩ := g.fn
  refine ⟨fun pins s σ H Q I h => ?_⟩
  refine wpAny_Call_Name_kw (ld_glob I hg g.mg ?_ hdb)
  exact PySem.W.callWith_K (h₀ := X.base) I.ok.mod.kin g.kp (thn (ha.run pos pins s σ H _ I h) fun us s1 z => by
    obtain ⟨vs, H1, I1, r, q⟩ := z
    exact ⟨I1.kIn, run_G F hA hr hb hx I1 r q⟩) he hpl
end

/-! ### a law's end -/
section
variable {P : Program} {w : World} {K : PySem.W.Frag} {mg mb : Str → Option Value} {k : Nat} {fa a : Addr} {fd : FuncData} {x : Str} {sp : Sp} {s1 : Shared} {vs : List Value} {ns : List Int}
/-- the script alone is tracked, locked, or nothing is -/
def One (a : Addr) (o : Obj) (xs : List V) (H : Hp) : Prop := ∀ b, H b = none ∨ (b = a ∧ H b = some (.frz o (.lst xs)))
theorem end_from (H : Hp) (o : Obj) (ho : s1.heap.get? a = some o) (hod : ∃ its n, o.data = .seq its n) (one : One a o (ns.map V.int) H) (hK : H a ≠ none → K.lookup a = none) (hok : HOk P w H s1.heap)
    (KX : K.In s1.heap) (hns : s1.heap.Ns mainGlobals mg) (hb : s1.heap.Ns builtinsNs mb) (hbb : ∀ x : Str, x ≠ "__name__" → mb x = bootBuiltins x) (hlim : s1.heap.NoLimit) (hg : s1.gens = #[]) (hr : Room k callerA)
    (F : ∀ base : Heap, K.In base → base.Ns mainGlobals mg → FnG P w K mg base k fa fd [x] sp) (hbind : ∀ (s : Shared) (u : Value), BindsTo s fd ⟨[u], []⟩ [(x, u)])
    (hsp : sp [.ref a] H (fun v _ => v = .bl true) fun _ _ _ => False) :
    codeAny (model P w) callerA (.call (.ref fa) ⟨[.ref a], []⟩) (fun r s' => r = .ok (.ret (.bool true)) ∧ OldK s1.heap s'.heap ∧ s'.os = s1.os ∧ AllBare s'.gens) s1 := by
  have only_a : ∀ b, b ≠ a → H b = none := fun b hb => (one b).elim id fun z => absurd z.1 hb
  have dict_free : ∀ b ob es ep, s1.heap.get? b = some ob → ob.data = .dict es ep → H b = none := fun b ob es ep e d => by
    by_cases q : b = a
    · obtain ⟨its, n, hd⟩ := hod
      rw [q, ho] at e
      rw [← Option.some.inj e, hd] at d
      cases d
    · exact only_a b q
  have ns_low : ∀ b (m : Str → Option Value), s1.heap.Ns b m → (hidT s1.heap H).Ns b m := fun b m z => by
    obtain ⟨ob, es, ep, e, d, r⟩ := z
    exact ⟨ob, es, ep, hidT_get e (dict_free b ob es ep e d), d, r⟩
  have k_low : K.In (hidT s1.heap H) := fun b ob e => by
    refine hidT_get (KX b ob e) ?_
    by_cases q : b = a
    · cases z : H b with
      | none => rfl
      | some u =>
        have y := hK (by rw [← q, z]; simp)
        rw [q, y] at e
        cases e
    · exact only_a b q
  obtain ⟨mc, l1, l2⟩ := hlim
  have md : Mod K mg (hidT s1.heap H) := ⟨k_low, ns_low _ _ hns, ⟨mb, ns_low _ _ hb, hbb⟩, ⟨mc, ns_low _ _ l1, l2⟩⟩
  have env : Env0 P w K mg (hidT s1.heap H) callerA [] s1 H :=
    { frames := rfl, mod := md, bs := fun b ob e => of_hidT e, bsz := Nat.le_of_eq (hidT_size _ _), funs := trivial, frf := fun b z => absurd z (by simp [frs]), hok := hok, bare := .of_eq hg }
  refine codeAny_mono ((F _ k_low (ns_low _ _ hns)).go callerA rfl [] s1 H ⟨[.ref a], []⟩ [.ref a] [.ref a] _ _ hr env (hbind s1 (.ref a)) (.cons rfl .nil) hsp) fun res s' out => ?_
  match res, out with
  | .error er, out =>
    obtain ⟨_, _, _, _, _, _, _, _, _, _, _, _, z⟩ := out
    exact z.elim
  | .ok .next, out => exact False.elim out
  | .ok .brk, out => exact False.elim out
  | .ok .cont, out => exact False.elim out
  | .ok (.ret u), out =>
    obtain ⟨v, H', eos, bare, un, hok', rv, ev⟩ := out
    have ev' : v = .bl true := ev
    subst ev'
    have eu : u = Value.bool true := rv
    refine ⟨by rw [eu], OldK.of_keep fun b ob e => ?_, eos, bare⟩
    rcases one b with q | ⟨q, z⟩
    · exact un.keep b ob e q (by simp [frs]) (by simp)
    · have z2 := un.frzs b _ _ z
      have y1 := (hok' b _ z2).1
      have y2 := (hok b _ z).1
      rw [← y2.symm.trans e |> Option.some.inj]
      exact y1
theorem end_G (KX : K.In s1.heap) (hns : s1.heap.Ns mainGlobals mg) (hb : s1.heap.Ns builtinsNs mb) (hbb : ∀ x : Str, x ≠ "__name__" → mb x = bootBuiltins x) (hlim : s1.heap.NoLimit) (hg : s1.gens = #[])
    (ha : s1.heap.get? a = some { cls := .type "list", data := .seq vs.toArray }) (hi : IntsAre vs ns) (hl : ns.length ≤ sizeLine) (hr : Room k callerA)
    (F : ∀ base : Heap, K.In base → base.Ns mainGlobals mg → FnG P w K mg base k fa fd [x] sp) (hbind : ∀ (s : Shared) (u : Value), BindsTo s fd ⟨[u], []⟩ [(x, u)])
    (hsp : ∀ H : Hp, (∀ b, H b = none ∨ ∃ o xs, H b = some (.frz o (.lst xs))) → SqL K H a (ns.map V.int) → sp [.ref a] H (fun v _ => v = .bl true) fun _ _ _ => False) :
    codeAny (model P w) callerA (.call (.ref fa) ⟨[.ref a], []⟩) (fun r s' => r = .ok (.ret (.bool true)) ∧ OldK s1.heap s'.heap ∧ s'.os = s1.os ∧ AllBare s'.gens) s1 := by
  have vv := vals_ints hi
  have ll := hi.length
  cases q : K.lookup a with
  | none =>
    have at_a : (fun b => if b = a then some (HO.frz { cls := .type "list", data := .seq vs.toArray } (.lst (ns.map V.int))) else none : Hp) a = some (.frz { cls := .type "list", data := .seq vs.toArray } (.lst (ns.map V.int))) := if_pos rfl
    have one : One a { cls := .type "list", data := .seq vs.toArray } (ns.map V.int) (fun b => if b = a then some (HO.frz { cls := .type "list", data := .seq vs.toArray } (.lst (ns.map V.int))) else none) := fun b => by
      by_cases e : b = a
      · exact .inr ⟨e, if_pos e⟩
      · exact .inl (if_neg e)
    refine end_from _ _ ha ⟨_, _, rfl⟩ one (fun _ => q) (fun b u z => ?_) KX hns hb hbb hlim hg hr F hbind (hsp _ (fun b => (one b).imp id fun z => ⟨_, _, z.2⟩) (.inl (.inr ⟨_, at_a⟩)))
    rcases one b with y | ⟨e, y⟩
    · cases y.symm.trans z
    · cases y.symm.trans z
      subst e
      exact ⟨ha, by rw [List.length_map]; exact hl, vs, _, vv, ha⟩
  | some ob =>
    have e := (KX a ob q).symm.trans ha
    have e2 := Option.some.inj e
    subst e2
    refine end_from (ns := ns) (fun _ => none) _ ha ⟨_, _, rfl⟩ (fun _ => .inl rfl) (fun z => absurd rfl z) (fun b u z => by cases z) KX hns hb hbb hlim hg hr F hbind
      (hsp _ (fun _ => .inl rfl) (.inr ⟨_, vs.toArray, _, q, rfl, rfl, rfl, by rw [List.size_toArray, ll]; exact hl, by simpa using vv⟩))
end
/-- a law from its head's facts, its def's promise kept where no text is under way -/
structure Owed (P : Program) (w : World) (h : Heap) (mg : Str → Option Value) (fa : Addr) (n k : Nat) (x : Str) : Prop where
  own : ∃ (K : PySem.W.Frag) (sp : Sp) (fd : FuncData), (∀ (s : Shared) (v : Value), BindsTo s fd ⟨[v], []⟩ [(x, v)]) ∧ K.In h ∧ (∀ base : Heap, K.In base → base.Ns mainGlobals mg → FnG P w K mg base k fa fd [x] sp) ∧
    ∀ (H : Hp) (a : Addr) (ns : List Int), ns.length ≤ n → (∀ z ∈ ns, Builtin.Int.intBits z ≤ 1048576) → SqL K H a (ns.map V.int) → sp [.ref a] H (fun v _ => v = .bl true) fun _ _ _ => False
theorem walk_G {l : PySem.W.OpenLaw} {n k : Nat} {q : Program} {loose : List Str} {XP : (Str → Option Value) → Heap → Prop} {YP : World → Heap → Prop} {d : DefRec} {x : Str} (room : Room k callerA) (most : l.most = some n) (fits : n ≤ sizeLine) (nodef : d.params.defaults = [])
    (owed : ∀ (w : World) (mg : Str → Option Value) (fa : Addr) (h : Heap), mg d.name = some (.ref fa) → YP w h → h.Ns mainGlobals mg → Owed l.prog w h mg fa n k x) : PySem.W.WalkO q loose XP YP l.row.toRowW d [] fun f vs => PySem.call f vs := by
  refine Att.attach_callB most nodef fun w s0 s1 mg mb fa o pm cd doc a vs ns G Y ho hd hcd named hobj hints hlen hbits hg => ?_
  obtain ⟨K, sp, fd, binds, kin, keeps, asks⟩ := (owed w mg fa _ named Y G.T.g).own
  exact end_G kin G.T.g G.T.b G.T.builtins G.T.nolimit hg hobj hints (Nat.le_trans hlen fits) room keeps binds fun H _ hS => asks H a ns hlen hbits hS
end U
namespace U
open PySem PySem.Spec PyProof.Rows L2

section
variable {X : Cx} {p pos apos : Pos} {e o : Expr} {es : List Expr} {t ta : TA} {te : TE}
/-! ### module constants -/
theorem pe_int_of {x : Str} {i : Int} (hg : Gl X x) (h : ∃ t, X.mg x = some (.int i t)) (hd : (x == ("__debug__" : Str)) = false := by decide) : PE X (.Name x pos) (tC (.int i)) := by
  obtain ⟨t, h⟩ := h
  exact pe_glob hg h ⟨t, rfl⟩ hd
theorem pe_str_of {x z : Str} (hg : Gl X x) (h : ∃ t, X.mg x = some (.str z t)) (hd : (x == ("__debug__" : Str)) = false := by decide) : PE X (.Name x pos) (tC (.str z)) := by
  obtain ⟨t, h⟩ := h
  exact pe_glob hg h ⟨t, rfl⟩ hd
/-! ### objects of one's own class -/
/-! ### built-ins under short names -/
def uMax2 : List V → Hp → VK → Prop := fun xs H Q => ∃ i j, xs = [.int i, .int j] ∧ Q (.int (if j > i then j else i)) H
def uMin2 : List V → Hp → VK → Prop := fun xs H Q => ∃ i j, xs = [.int i, .int j] ∧ Q (.int (if j < i then j else i)) H
def rInt : List V → Hp → VK → Prop := fun xs H Q => (∃ i, xs = [.int i] ∧ Q (.int i) H) ∨ ∃ k, xs = [.bl k] ∧ Q (.int (if k then 1 else 0)) H
def rStrI : List V → Hp → VK → Prop := fun xs H Q => ∃ i, xs = [.int i] ∧ i.natAbs.log2 < 1920 ∧ Q (.str (toString i)) H
/-! ### the text of a value -/
/-! ### methods of texts -/
def rJoin (K : PySem.W.Frag) : V → List V → Hp → VK → Prop := fun x xs H Q => ∃ a p, ∃ ys : List Str, x = .str a ∧ xs = [.ref p] ∧ (SqL K H p (ys.map V.str) ∨ SqT K H p (ys.map V.str)) ∧ (ys.map (·.length)).sum + ys.length * a.length ≤ 16777216 ∧ Q (.str (Txt.join a ys)) H
/-- sep.join(e), one argument: told over the argument list -/
def tJoin (K : PySem.W.Frag) (to : TE) (te : TE) : TE := tM1 (rJoin K) to te
theorem pe_joinU (ho : PE X o te) {td : TE} (he : PE X e td) (hs : starEach [e] X.env = [(false, eval e X.env)] := by rfl) (hbase : attributeBase o "join" X.env (eval o X.env) = eval o X.env := by rfl) (hline : (apos.endLine == pos.line) = true := by rfl) :
    PE X (.Call (.Attribute o "join" apos) [e] [] pos) (tJoin X.K te td) := pe_join ho he hs hbase hline
/-! ### list(..), tuple(..) -/
def strL (z : Str) : List V := z.cps.toList.map fun c => .str ⟨#[c]⟩
theorem vals_signs {z : Str} {acc : Array Value} (h : ItemsOf (SignAt z) acc z.cps.size) : Vals (strL z) acc.toList := by
  refine vals_of_at ?_ fun j x u hx hu => ?_
  · unfold strL
    rw [List.length_map, Array.length_toList, Array.length_toList, h.1]
  · unfold strL at hx
    rw [List.getElem?_map] at hx
    obtain ⟨c, hc, rfl⟩ := Option.map_eq_some_iff.mp hx
    obtain ⟨c', u', h1, h2⟩ := h.2 j u (by rw [← Array.getElem?_toList]; exact hu)
    rw [Array.getElem?_toList, h1] at hc
    cases hc
    exact ⟨u', h2⟩
def uTup (K : PySem.W.Frag) : List V → Hp → VK → Prop := fun xs H Q => match xs with
  | [.ref p] => ∃ ys, (SqL K H p ys ∧ ∀ l, H l = none → Q (.ref l) (upd H l (.tup ys))) ∨ (SqT K H p ys ∧ Q (.ref p) H)
  | [.str z] => z.length ≤ 100000 ∧ ∀ l, H l = none → Q (.ref l) (upd H l (.tup (strL z)))
  | _ => False
theorem call_uTup (hc : X.calm = true) : CallR X (.type "tuple") (uTup X.K) := by
  intro ps s σ H xs us R I r h
  match xs, h with
  | [.ref p], ⟨ys, h⟩ => exact call_tuple_of ps s σ H _ us R I r ⟨p, ys, rfl, h⟩
  | [.str z], ⟨hz, q⟩ =>
    obtain ⟨_, rfl, t, rfl⟩ := vals1 r
    have hs := sizeLine_eq
    have hz' : z.cps.size ≤ 100000 := hz
    refine PySem.call_tuple_str (I.ok.hd hc) z t (fun h' tk acc kp it => ?_) (by omega)
    have I1 := I.kept (h' := h') (t' := s.toks) kp
    have I2 : Inv X ps σ (upd H h'.objs.size (.tup (strL z))) { s with heap := h'.push { cls := .type "tuple", data := .seq acc }, toks := tk } :=
      I1.laid (t' := tk) (fun b o e => Heap.get?_push_of_some _ e) (Nat.le_refl _) (show ObjOk X.prog X.w _ _ _ (.tup (strL z)) from ⟨by
        unfold strL
        simp only [List.length_map, Array.length_toList]
        omega, acc.toList, vals_signs it, IsTup.new _ _⟩)
    refine ⟨.ref h'.objs.size, _, I2, rfl, ?_⟩
    exact q _ (I1.hok.fresh (Nat.le_refl _))
/-! ### what a for walks: a list or a tuple -/
def iSeq (K : PySem.W.Frag) (tl : TE) : TI := fun σ H R => iList K tl σ H R ∨ iTup K tl σ H R
theorem pi_seq {tg l : Expr} {tl : TE} (hl : PE X l tl) : PI X tg l (iSeq X.K tl) := by
  refine .mk ?_
  intro pins s σ H R I h
  rcases h with h | h
  · exact (pi_list hl).run pins s σ H R I h
  · exact (pi_tup hl).run pins s σ H R I h
def tTruth (K : PySem.W.Frag) (ta : TE) : TT := fun σ H Q => ta σ H fun x H' => ∃ k, TruV K x H' k ∧ Q k H'

end
end U
namespace U
open PySem PySem.Spec PyProof.Rows L2

/-! ### enumerate(text) -/
def IteS (z : Str) : It :=
  ⟨fun i _ => i < z.cps.size, fun i H v H' => ∃ T c, v = .ref T ∧ H T = none ∧ z.cps[i]? = some c ∧ H' = upd H T (.tup [.int (i : Nat), .str ⟨#[c]⟩]), fun i _ => i = z.cps.size⟩
/-- the text's own iterator at it, at its i-th sign -/
def SIt (it : Addr) (z : Str) (t : Tok) (i : Nat) (h : Heap) : Prop := h.IsStrIter it (strIterType z) z t i
theorem draws_str {P : Program} {w : World} {A : Around} (hh : A.handled = none) (it : Addr) (z : Str) (t : Tok) :
    Draws P w A it [it] z.cps.size (fun i v => ∃ c u, z.cps[i]? = some c ∧ v = .str ⟨#[c]⟩ u) (SIt it z t) := by
  unfold SIt strIterType
  split
  · exact Draws.strAscii hh it z t
  · exact Draws.strWide hh it z t
theorem turn_enumS {P : Program} {w : World} {K : PySem.W.Frag} {el : List Expr} {kk : Nat} {tp : Pos} (z : Str) (t : Tok) (e it : Addr) :
    Turn P w K (.Tuple el kk tp) (IteS z) [e, it] e (fun i h => (∃ old, IsEnum h e it ((i : Nat) : Int) old) ∧ SIt it z t i h ∧ e ≠ it) where
  mem := by simp
  obj := fun i h st b hb => by
    obtain ⟨⟨last, he⟩, itr, _⟩ := st
    obtain ⟨o, ho, hc, hd⟩ := itr
    rcases (show b = e ∨ b = it by simpa using hb) with q | q
    · subst q
      exact ⟨_, he, fun v q => nomatch q⟩
    · subst q
      exact ⟨o, ho, fun v q => by rw [hd] at q; cases q⟩
  keep := fun i h h' st k => by
    obtain ⟨⟨old, he⟩, ⟨o, ho, r⟩, ne⟩ := st
    exact ⟨⟨old, k e (by simp) _ he⟩, ⟨o, k it (by simp) o ho, r⟩, ne⟩
  item := by
    intro X hP hw hK hc
    intro i pins s σ H E I hf st hg
    subst hP hw hK
    obtain ⟨⟨old, he⟩, hit, ne⟩ := st
    have le := Heap.lt_size he
    have li : it < s.heap.objs.size := by
      obtain ⟨_, q, _⟩ := id hit
      exact Heap.lt_size q
    refine wpAny_pyNext_enum_itemD (draws_str (A := X.A.in1) (I.ok.hd hc) it z t) he hit hg ne (by simpa using ne) fun x h1 tk hx ho hit1 hT hz1 k1 => ?_
    obtain ⟨c, u, hcz, rfl⟩ := hx
    refine ⟨_, rfl, wpAny_letOwnedTupleGo_enum (s := { s with heap := h1, toks := tk + 1 }) ho fun h2 he2 sb => ?_⟩
    have T2 : h2.get? s.heap.objs.size = some { cls := .type "tuple", data := .seq #[.int i tk, .str ⟨#[c]⟩ u] } := (sb.2 _ (Nat.ne_of_gt le)).trans hT
    have new : ObjOk X.prog X.w (upd H s.heap.objs.size (.tup [.int (i : Nat), .str ⟨#[c]⟩])) h2 s.heap.objs.size (.tup [.int (i : Nat), .str ⟨#[c]⟩]) :=
      ⟨by show 2 ≤ sizeLine; decide, [.int i tk, .str ⟨#[c]⟩ u], .cons ⟨_, rfl⟩ (.cons ⟨_, rfl⟩ .nil), ⟨_, T2, rfl, _, rfl⟩⟩
    have I1 : Inv X pins σ (upd H s.heap.objs.size (.tup [.int (i : Nat), .str ⟨#[c]⟩])) { s with heap := h2, toks := tk + 1 } :=
      I.turnedNew (ch := [e, it]) (fun b ob hb q => (sb.2 b (fun y => hb (by simp [y]))).trans (k1 b ob (fun y => hb (by simp [y])) (fun y => hb (by simp [y])) q)) hf (Nat.le_refl _) new
    refine ⟨.ref s.heap.objs.size, _, I1, rfl, ⟨_, c, rfl, I.hok.fresh (Nat.le_refl _), hcz, rfl⟩, ⟨⟨.str ⟨#[c]⟩ u, ?_⟩, ?_, ne⟩, fun b hb => ?_⟩
    · rw [show ((i + 1 : Nat) : Int) = i + 1 by omega]
      exact he2
    · obtain ⟨o, q1, q2⟩ := hit1
      exact ⟨o, (sb.2 it (Ne.symm ne)).trans q1, q2⟩
    · have below : b < s.heap.objs.size := by
        rcases (show b = e ∨ b = it by simpa using hb) with q | q
        · rw [q]; exact le
        · rw [q]; exact li
      rw [upd_ne (Nat.ne_of_lt below)]
      exact (hf b hb).1
  done := by
    intro X hP hw hK hc
    intro i pins s σ H E I hf st hg
    subst hP hw hK
    obtain ⟨⟨old, he⟩, hit, ne⟩ := st
    obtain ⟨f0, f1, _, f3, f4, f5⟩ := hf it (by simp)
    have hi : i = z.cps.size := hg
    subst hi
    exact wpAny_pyNext_enum_endD (draws_str (A := X.A.in1) (I.ok.hd hc) it z t) he hit fun h' eb => ⟨rfl, I.turned (t' := s.toks) (fun b o hb q => eb b o hb q) f0 f1 f3 f4 f5⟩
  self := fun _ _ _ _ _ st h => by
    obtain ⟨⟨_, he⟩, _⟩ := st
    exact wpAny_pyIter_enum he h

def iEnumS (ta : TA) : TI := fun σ H R => ta σ H fun vs H1 => ∃ z, vs = [.str z] ∧ R (IteS z) H1
theorem pi_enumS {X : Cx} {e : Expr} {ta : TA} {p pos tpos : Pos} {elts : List Expr} {kk : Nat} (hg : Gl X "enumerate") (hm : X.mg "enumerate" = none) (ha : PA X [e] ta) (hs : starEach [e] X.env = [(false, eval e X.env)] := by rfl) :
    PI X (.Tuple elts kk tpos) (.Call (.Name "enumerate" p) [e] [] pos) (iEnumS ta) := by
  refine .mk ?_
  intro pins s σ H R I h
  refine Call_ (ld_blt I hg hm boot_enumerate (PyProof.Rows.callWith_type1 (thn (ha.run pos pins s σ H _ I h) fun us s1 z => ?_) hs rfl))
  obtain ⟨vs, H1, I1, r1, z, ex, q⟩ := z
  subst ex
  obtain ⟨u, rfl, t, rfl⟩ := vals1 r1
  refine PySem.call_enumerate_str fun h' he hit hsz hk => wpAny_pyIter_enum he ?_
  have I2 : Inv X pins σ H1 { s1 with heap := h' } := by
    exact I1.kept (t' := s1.toks) hk
  refine ⟨s1.heap.objs.size + 1, [s1.heap.objs.size + 1, s1.heap.objs.size], _, _, H1, rfl, I2, turn_enumS z t (s1.heap.objs.size + 1) s1.heap.objs.size, ⟨⟨.none, he⟩, hit, Nat.succ_ne_self _⟩, fun b hb => ?_, q⟩
  have hb2 : s1.heap.objs.size ≤ b := by
    rcases (show b = s1.heap.objs.size + 1 ∨ b = s1.heap.objs.size by simpa using hb) with q | q
    · exact q ▸ Nat.le_succ _
    · exact q ▸ Nat.le_refl _
  exact I1.fpOk hb2 (I1.hok.fresh hb2)
def iEnumU (K : PySem.W.Frag) (ta : TA) : TI := fun σ H R => iEnum K ta σ H R ∨ iEnumS ta σ H R
theorem pi_enumU {X : Cx} {e : Expr} {ta : TA} {p pos tpos : Pos} {elts : List Expr} {kk : Nat} (hg : Gl X "enumerate") (hm : X.mg "enumerate" = none) (ha : PA X [e] ta) (hs : starEach [e] X.env = [(false, eval e X.env)] := by rfl) :
    PI X (.Tuple elts kk tpos) (.Call (.Name "enumerate" p) [e] [] pos) (iEnumU X.K ta) := by
  refine .mk ?_
  intro pins s σ H R I h
  rcases h with h | h
  · exact (pi_enum hg hm ha hs).run pins s σ H R I h
  · exact (pi_enumS hg hm ha hs).run pins s σ H R I h
/-! ### comprehensions and loops, seen from their turns -/
/-- what an element does to the list under way at D -/
def Snoc (D : Addr) (N : Hp → Prop) : VK := fun y H => ∃ acc : List V, H D = some (.lst acc) ∧ acc.length < sizeLine ∧ N (upd H D (.lst (acc ++ [y])))
/-- one turn of a comprehension -/
def lcT (g : TG) (tt : TT) (te : TE) (vs : List Nat) (σ : L2.St) (D : Addr) (N : Hp → Prop) (x : V) (H : Hp) : Prop :=
  g x (wipe σ vs) H fun τ H2 => wipe τ vs = wipe σ vs ∧ tt τ H2 fun b H3 => if b = true then te τ H3 (Snoc D N) else N H3
/-- turns of an iterator to its end: B x H N is a turn behind which N holds -/
def Laps (J : It) (H0 : Hp) (fin : Hp → Prop) (B : V → Hp → (Hp → Prop) → Prop) : Prop :=
  ∃ W : Nat → Nat → Hp → Prop, (∃ m, W 0 m H0) ∧ ∀ (i m : Nat) (H : Hp), W i m H →
    (J.stop i H ∧ fin H) ∨ (J.go i H ∧ ∃ N : Hp → Prop, (∀ H', N H' → ∃ l, l < m ∧ W (i + 1) l H') ∧ ∀ x H', J.yld i H x H' → B x H' N)
def LcB (J : It) (g : TG) (tt : TT) (te : TE) (vs : List Nat) (σ : L2.St) (H : Hp) (D : Addr) (fin : Hp → Prop) : Prop :=
  Laps J (upd H D (.lst [])) fin fun x H' N => lcT g tt te vs σ D N x H'
end U
namespace U
open PySem PySem.Spec PyProof.Rows L2

/-! ### text[::-1] -/
/-! ### raise C(e) of one's own exceptions, whose __init__ keeps one field -/
/-- what the written part says of such a class -/
def oexB (K : PySem.W.Frag) (C : Addr) : Bool := match K.lookup C with
  | some ⟨.type "type", dd, .cls cd, sl⟩ => (match cd.mro, sl.toList with
    | .ref C' :: bm, [_, _, _, _, some (.builtin n), _] => (C' == C && n == "ValueError.__new__") && (!cd.hasDel && cd.hasDict && PySem.HandSPX.refsVE bm)
    | _, _ => false)
  | _ => false
theorem oexB_ok {K : PySem.W.Frag} {C : Addr} (q : oexB K C = true) : ∃ nm qn N bs bm sn sub ab col dd k0 k1 k2 k3 k5, K.lookup C = some (excClassObj nm qn C N bs bm true sn sub ab col dd k0 k1 k2 k3 k5 "ValueError.__new__") ∧ PySem.HandSPX.refsVE bm = true := by
  unfold oexB at q
  split at q
  · rename_i dd cd sl ho
    split at q
    · rename_i own rest a0 a1 a2 a3 maker a5 order cells
      simp only [Bool.not_eq_true', beq_iff_eq, Bool.and_eq_true] at q
      obtain ⟨⟨eo, em⟩, ⟨nodel, dict1⟩, ground⟩ := q
      subst eo em
      obtain ⟨name, bases, line, space, qname, hasd, sl1, sl2, abst, coll, dels⟩ := cd
      dsimp only at order nodel dict1
      subst order nodel dict1
      have row : sl = #[a0, a1, a2, a3, some (.builtin "ValueError.__new__"), a5] := by
        obtain ⟨l⟩ := sl
        exact congrArg Array.mk cells
      subst row
      exact ⟨name, qname, space, bases, rest, sl1, sl2, abst, coll, dd, a0, a1, a2, a3, a5, ho, ground⟩
    · cases q
  · cases q
/-- all that the head tells of an exception class -/
def excB (K : PySem.W.Frag) (x f : Str) : Bool := oexB K (He.ga K x) && (He.eqO (PySem.W.findIn K (.ref (He.ga K x)) "__setattr__") (some (some (.builtin "object.__setattr__"))) && (decide (PySem.W.subIn K (.ref (He.ga K x)) (.type "BaseException") = some true) &&
  (decide (PySem.W.typeIn K (.ref (He.ga K x)) = some (.type "type")) && (PySem.W.keepIn K (.ref (He.ga K x)) && (He.eqO (PySem.W.findIn K (.ref (He.ga K x)) f) (some none) &&
  (He.eqO (PySem.W.findIn K (.ref (He.ga K x)) "__init__") (some (some (.ref (He.ma K (He.ga K x) "__init__")))) && decide (PySem.W.typeIn K (.ref (He.ma K (He.ga K x) "__init__")) = some (.type "function"))))))))
structure ExcT (K : PySem.W.Frag) (x f : Str) : Prop where
  oc : OexC K (He.ga K x)
  nf : PySem.W.findIn K (.ref (He.ga K x)) f = some none
  ini : PySem.W.findIn K (.ref (He.ga K x)) "__init__" = some (some (.ref (He.ma K (He.ga K x) "__init__")))
  fn : PySem.W.typeIn K (.ref (He.ma K (He.ga K x) "__init__")) = some (.type "function")
theorem excB_ok {K : PySem.W.Frag} {x f : Str} (h : excB K x f = true) : ExcT K x f := by
  unfold excB at h
  simp only [decide_eq_true_eq, Bool.and_eq_true] at h
  obtain ⟨h1, h2, h3, h4, h5, h6, h7, h8⟩ := h
  exact ⟨⟨oexB_ok h1, He.eqO_ok h2, h3, h4, h5⟩, He.eqO_ok h6, He.eqO_ok h7, h8⟩
/-- the promise of its __init__ -/
def spExcI (K : PySem.W.Frag) (x f : Str) : Sp := fun vs H Q _ => ∃ (a : Addr) (v : V), vs = [.ref a, v] ∧ H a = some (exo a (He.ga K x) none) ∧ ∀ dx, H dx = none → dx ≠ a → Q .non (upd (upd H dx (exd dx [(f, v)])) a (exo a (He.ga K x) (some dx)))
theorem spExcI_len {K : PySem.W.Frag} {x f : Str} {n : Str} : ∀ vs H Q E, spExcI K x f vs H Q E → vs.length = (["self", n] : List Str).length := by
  intro vs H Q E h
  obtain ⟨a, v, rfl, _⟩ := h
  rfl
theorem read_excI {K : PySem.W.Frag} {x f : Str} (T : ExcT K x f) {vs : List V} {H : Hp} {Q : VK} {E : XK} (h : spExcI K x f vs H Q E) {n : Str} :
    tOst K f (tVar 0) (tVar 1) { nx := fun _ H' => Q .non H', rt := Q } (start ["self", n] vs) H := by
  obtain ⟨a, v, rfl, ha, q⟩ := h
  exact ⟨v, rfl, .ref a, rfl, a, He.ga K x, rfl, T.oc, T.nf, .inl ⟨ha, q⟩⟩
/-- an own exception class that may be raised -/
structure GoodX (P : Program) (w : World) (K : PySem.W.Frag) (mg : Str → Option Value) (base : Heap) (x f : Str) : Prop where
  fn : ∃ fd, FnOk P w K mg base (L2.CX P w) 1 (He.ma K (He.ga K x) "__init__") fd ["self", f] (spExcI K x f) ∧ Binds K fd ["self", f] []
  t : ExcT K x f
  mg : mg x = some (.ref (He.ga K x))
def tRse (K : PySem.W.Frag) (c f : Str) (E : XK) (ta : TA) : TS := fun _ σ H => tMkO (He.ga K c) (spExcI K c f) [] ta σ H fun cls d H' => E cls d H'
theorem back_one {H1 : Hp} {a dx : Addr} {fs : List (Str × V)} {o1 o2 o3 : HO} (ha : H1 a = none) (hne : dx ≠ a) : upd (del (upd (upd (upd H1 a o1) dx o2) a o3) a) dx (.xd fs) = upd H1 dx (.xd fs) := by
  funext b
  unfold upd del
  by_cases h1 : b = dx
  · rw [if_pos h1, if_pos h1]
  · rw [if_neg h1, if_neg h1]
    by_cases h2 : b = a
    · rw [if_pos h2, h2, ha]
    · simp only [if_neg h2, if_neg h1]
theorem ps_rse {X : Cx} {c f : Str} {E : XK} {e : Expr} {ta : TA} {p pos pos2 : Pos} (g : GoodX X.prog X.w X.K X.mg X.base c f) (hr : Room 2 X.A) (hc : X.calm = true) (tk : Takes X fun cls d _ H => E cls d H) (hg : Gl X c) (ha : PA X [e] ta)
    (hdb : (c == ("__debug__" : Str)) = false := by decide) (he : starEach [e] X.env = [(false, eval e X.env)] := by rfl) :
    PS X (.Raise (some (.Call (.Name c p) [e] [] pos)) none pos2) (tRse X.K c f E ta) := by
  obtain ⟨fd, F, hb⟩ := g.fn
  exact ps_raise hc tk (pmk_oex (es := []) g.t.oc g.t.ini g.t.fn F hr hb .nil passL hg g.mg ha hdb he)
/-- what is asked behind the argument of such a raise -/
theorem rse_of {K : PySem.W.Frag} {c f : Str} {E : XK} {v : V} {H1 : Hp} (h : ∀ d, H1 d = none → E (.ref (He.ga K c)) (some d) (upd H1 d (.xd [(f, v)]))) :
    [v].length ≤ 1000 ∧ ∀ a, H1 a = none → spExcI K c f (.ref a :: ([v] ++ [])) (upd H1 a (exo a (He.ga K c) none))
      (fun x H2 => x = .non ∧ ∃ (d : Addr) (fs : List (Str × V)), H2 a = some (exo a (He.ga K c) (some d)) ∧ H2 d = some (exd d fs) ∧ H1 d = none ∧ E (.ref (He.ga K c)) (some d) (upd (del H2 a) d (.xd fs))) (fun _ _ _ => False) := by
  refine ⟨by simp, fun a ha => ⟨a, v, rfl, upd_same, fun dx hd hne => ?_⟩⟩
  rw [upd_ne hne] at hd
  refine ⟨rfl, dx, [(f, v)], upd_same, ?_, hd, ?_⟩
  · rw [upd_ne hne, upd_same]
  · rw [back_one ha hne]
    exact h dx hd
end U
namespace U
open PySem PySem.Spec PyProof.Rows L2

/-! ### a def of the module, wherever it is called from -/
structure GoodO (P : Program) (w : World) (K : PySem.W.Frag) (mg : Str → Option Value) (base : Heap) (k : Nat) (x : Str) (ps : List Str) (sp : Sp) : Prop where
  fn : ∃ fd, FnOk P w K mg base (L2.CX P w) k (He.ga K x) fd ps sp ∧ Binds K fd ps []
  mg : mg x = some (.ref (He.ga K x))
  kp : PySem.W.keepIn K (.ref (He.ga K x)) = true
section
variable {X : Cx} {k : Nat} {x m : Str} {ps : List Str} {sp : Sp} {E : XK} {p pos apos : Pos} {e o : Expr} {es : List Expr} {ta : TE} {t : TA}
theorem tFn_eq (sp : Sp) (E : XK) (t : TA) : tCall sp [] E t = tFn sp E t := by
  unfold tCall tFn
  simp only [List.append_nil]
theorem pe_fo (g : GoodO X.prog X.w X.K X.mg X.base k x ps sp) (hr : Room k X.A) (hg : Gl X x) (hx : Passes (L2.CX X.prog X.w) X E)
    (hpl : (backTo pos (starEach es X.env)).any (·.1) = false := by rfl) (he : starEach (e :: es) X.env = (false, eval e X.env) :: starEach es X.env := by rfl) (ha : PA X (e :: es) t)
    (hdb : (x == ("__debug__" : Str)) = false := by decide) :
    PE X (.Call (.Name x p) (e :: es) [] pos) (tFn sp E t) := by
  obtain ⟨fd, F, hb⟩ := g.fn
  exact tFn_eq sp E t ▸ pe_call F hr hg g.mg g.kp hb .nil hx ha hdb he hpl
end
/-! ### promises by the number of arguments -/
def sp1 (f : V → Hp → VK → XK → Prop) : Sp := fun vs H Q E => match vs with
  | [x] => f x H Q E
  | _ => False
def sp2 (f : V → V → Hp → VK → XK → Prop) : Sp := fun vs H Q E => match vs with
  | [x, y] => f x y H Q E
  | _ => False
def sp3 (f : V → V → V → Hp → VK → XK → Prop) : Sp := fun vs H Q E => match vs with
  | [x, y, z] => f x y z H Q E
  | _ => False
def sp4 (f : V → V → V → V → Hp → VK → XK → Prop) : Sp := fun vs H Q E => match vs with
  | [x, y, z, u] => f x y z u H Q E
  | _ => False
theorem sp1_len {f : V → Hp → VK → XK → Prop} {a : Str} : ∀ vs H Q E, sp1 f vs H Q E → vs.length = ([a] : List Str).length := fun vs H Q E h => match vs, h with
  | [_], _ => rfl
theorem sp2_len {f : V → V → Hp → VK → XK → Prop} {a b : Str} : ∀ vs H Q E, sp2 f vs H Q E → vs.length = ([a, b] : List Str).length := fun vs H Q E h => match vs, h with
  | [_, _], _ => rfl
theorem sp3_len {f : V → V → V → Hp → VK → XK → Prop} {a b c : Str} : ∀ vs H Q E, sp3 f vs H Q E → vs.length = ([a, b, c] : List Str).length := fun vs H Q E h => match vs, h with
  | [_, _, _], _ => rfl
/-! ### kinds of values -/
inductive Ty where
  | non | bl | int | str | lst | tup | dct | yard
  deriving DecidableEq
def Ty.v (K : PySem.W.Frag) : Ty → Value
  | .non => .type "NoneType"
  | .bl => .type "bool"
  | .int => .type "int"
  | .str => .type "str"
  | .lst => .type "list"
  | .tup => .type "tuple"
  | .dct => .type "dict"
  | .yard => .ref (He.ga K "Yard")
def Ty.all : List Ty := [.non, .bl, .int, .str, .lst, .tup, .dct, .yard]
theorem Ty.mem_all (a : Ty) : a ∈ Ty.all := by cases a <;> decide
def Ty.sub (a b : Ty) : Bool := decide (a = b) || (decide (a = .bl) && decide (b = .int))
/-- a value of a kind -/
def Is (K : PySem.W.Frag) (H : Hp) (x : V) (a : Ty) : Prop := TyX K H x (a.v K)
/-- a tuple of the module without a dict -/
def tupO (K : PySem.W.Frag) (x : Str) : Bool := match K.lookup (He.ga K x) with
  | some o => decide (o.cls = .type "tuple") && o.dict.isNone
  | none => false
theorem tupO_ok {K : PySem.W.Frag} {x : Str} (h : tupO K x = true) (H : Hp) : tyV K "tuple" (.ref (He.ga K x)) H := by
  unfold tupO at h
  split at h
  · rename_i o ho
    simp only [Bool.and_eq_true, decide_eq_true_eq, Option.isNone_iff_eq_none] at h
    exact .inr (.inl ⟨rfl, o, ho, h.1, h.2⟩)
  · cases h
/-- what the head tells, whatever the law -/
def kfB (K : PySem.W.Frag) : Bool := (Ty.all.all fun a => Ty.all.all fun b => decide (PySem.W.kitOne K (a.v K) (b.v K) = some (a.sub b))) &&
  ((He.tupB K "WAYS" [.str "ab", .str "ac", .str "ba", .str "bc", .str "ca", .str "cb"] &&
  ((He.Fa.cls "Yard").ok K && ((He.Fa.noat "Yard" "_rows").ok K && (He.eqO (PySem.W.findIn K (.ref (He.ga K "Yard")) "__class__") (some (some (.builtin "object.__class__"))) &&
  (He.eqO (PySem.W.specialIn K (.builtin "object.__class__") "__get__") (some (some (.builtin "getset_descriptor.__get__"))) && (decide (PySem.W.takesIn K (.builtin "object.__class__") = some true) && (decide (PySem.W.mroIn K (He.ga K "Yard") (.type "object") = some true) && ((tupO K "WAYS" && ((He.Fa.noat "Yard" "_reckoning").ok K && (Ty.all.all fun a => PySem.W.notFirst K (He.ga K "Yard") (a.v K)))))))))))))
structure KF (K : PySem.W.Frag) : Prop where
  kit : ∀ a b : Ty, PySem.W.kitOne K (a.v K) (b.v K) = some (a.sub b)
  ways : ∀ H, SqT K H (He.ga K "WAYS") [.str "ab", .str "ac", .str "ba", .str "bc", .str "ca", .str "cb"]
  cl : Cls K (He.ga K "Yard")
  na : NoAttr K (He.ga K "Yard") "_rows"
  c1 : PySem.W.findIn K (.ref (He.ga K "Yard")) "__class__" = some (some (.builtin "object.__class__"))
  c2 : PySem.W.specialIn K (.builtin "object.__class__") "__get__" = some (some (.builtin "getset_descriptor.__get__"))
  c3 : PySem.W.takesIn K (.builtin "object.__class__") = some true
  c4 : PySem.W.mroIn K (He.ga K "Yard") (.type "object") = some true
  wO : ∀ H, tyV K "tuple" (.ref (He.ga K "WAYS")) H
  na2 : NoAttr K (He.ga K "Yard") "_reckoning"
  nf : ∀ a : Ty, PySem.W.notFirst K (He.ga K "Yard") (a.v K) = true
theorem kfB_ok {K : PySem.W.Frag} (h : kfB K = true) : KF K := by
  unfold kfB at h
  simp only [decide_eq_true_eq, Bool.and_eq_true] at h
  obtain ⟨h1, h3, h4, h5, h6, h7, h8, h9, h11, h12, h13⟩ := h
  refine ⟨fun a b => ?_, fun H => He.tupB_ok h3 H, He.cls_ok h4, He.noat_ok h5, He.eqO_ok h6, He.eqO_ok h7, h8, h9, fun H => tupO_ok h11 H, He.noat_ok h12, fun a => List.all_eq_true.mp h13 a a.mem_all⟩
  have := List.all_eq_true.mp (List.all_eq_true.mp h1 a a.mem_all) b b.mem_all
  exact of_decide_eq_true this
section
variable {K : PySem.W.Frag} {H : Hp} {x : V}
theorem is_non : Is K H .non .non := .base .non
theorem is_bl (b : Bool) : Is K H (.bl b) .bl := .base (.bl b)
theorem is_int (i : Int) : Is K H (.int i) .int := .base (.int i)
theorem is_str (z : Str) : Is K H (.str z) .str := .base (.str z)
theorem is_lst {p : Addr} {xs : List V} (h : H p = some (.lst xs)) : Is K H (.ref p) .lst := .base (.lst h)
theorem is_tup {p : Addr} {xs : List V} (h : H p = some (.tup xs)) : Is K H (.ref p) .tup := .base (.tup h)
theorem is_dct {p : Addr} {xs : List (Key × V)} (h : H p = some (.dK xs)) : Is K H (.ref p) .dct := .base (.dK h)
theorem is_sqL {p : Addr} {xs : List V} (h : SqL K H p xs) : Is K H (.ref p) .lst := by
  rcases h with (h | ⟨o, h⟩) | ⟨o, its, n, h, hc, _⟩
  · exact .base (.lst h)
  · exact .base (.frz h)
  · exact .kList h hc
theorem is_sqT {p : Addr} {xs : List V} (h : SqT K H p xs) : Is K H (.ref p) .tup := by
  rcases h with (h | ⟨o, h⟩) | ⟨o, its, n, h, hc, _⟩
  · exact .base (.tup h)
  · exact .fTuple h
  · exact .kTuple h hc
theorem is_yard (F : KF K) {p dx : Addr} {fs : List (Str × V)} (h : H p = some (.ins (He.ga K "Yard") dx fs)) : Is K H (.ref p) .yard := .base (.ins h F.cl F.c1 F.c2 F.c3 F.c4)
/-- only texts are texts, only integers are integers, and so on -/
theorem Is.str_inv (h : Is K H x .str) : ∃ z, x = .str z := by
  have key : ∀ t, TyX K H x t → t = .type "str" → ∃ z, x = .str z := by
    intro t h e
    cases h with
    | base b => cases b <;> first | exact ⟨_, rfl⟩ | (injection e with e; exact absurd e (by decide)) | cases e
    | _ => injection e with e; exact absurd e (by decide)
  exact key _ h rfl
theorem Is.int_inv (h : Is K H x .int) : ∃ z, x = .int z := by
  have key : ∀ t, TyX K H x t → t = .type "int" → ∃ z, x = .int z := by
    intro t h e
    cases h with
    | base b => cases b <;> first | exact ⟨_, rfl⟩ | (injection e with e; exact absurd e (by decide)) | cases e
    | _ => injection e with e; exact absurd e (by decide)
  exact key _ h rfl
theorem Is.bl_inv (h : Is K H x .bl) : ∃ z, x = .bl z := by
  have key : ∀ t, TyX K H x t → t = .type "bool" → ∃ z, x = .bl z := by
    intro t h e
    cases h with
    | base b => cases b <;> first | exact ⟨_, rfl⟩ | (injection e with e; exact absurd e (by decide)) | cases e
    | _ => injection e with e; exact absurd e (by decide)
  exact key _ h rfl
theorem Is.non_inv (h : Is K H x .non) : x = .non := by
  have key : ∀ t, TyX K H x t → t = .type "NoneType" → x = .non := by
    intro t h e
    cases h with
    | base b => cases b <;> first | rfl | (injection e with e; exact absurd e (by decide)) | cases e
    | _ => injection e with e; exact absurd e (by decide)
  exact key _ h rfl
end
/-! ### heaps that keep what they have -/
theorem same_new {H : Hp} {p : Addr} {o : HO} (h : H p = none) : Same H (upd H p o) := fun b u e => by
  rw [upd_ne (ne_of_none e h)]
  exact e
theorem Same.sqT {K : PySem.W.Frag} {H H' : Hp} {a : Addr} {xs : List V} (e : Same H H') (h : SqT K H a xs) : SqT K H' a xs :=
  h.imp (Or.imp (e _ _) fun ⟨o, z⟩ => ⟨o, e _ _ z⟩) id
end U
namespace U
open PySem PySem.Spec PyProof.Rows L2

/-! ### the module's table of thirds -/
end U
namespace U
open PySem PySem.Spec PyProof.Rows L2

/-! ### sorted(d.values()), fewer than 64 integers -/
end U
namespace U
open PySem PySem.Spec PyProof.Rows L2

/-! ### len(set(text)) -/
section
variable {P : Program} {w : World} {A : Around} {E : Value → Shared → Prop} {z : Str}
local macro_rules | `(tactic| walk_at "g") => `(tactic| repeat (any_goals (first | assumption | wp_step)))
end
section
variable {X : Cx} {p p2 q pos : Pos} {a : Expr} {ta : TE}
end
end U
namespace U
open PySem PySem.Spec PyProof.Rows L2

/-! ### except (A, B, ..): which exceptions such a clause takes -/
section
variable {M : Model} {A : Around} {s : Shared} {E : Value → Shared → Prop}
end
end U
namespace U
open PySem PySem.Spec PyProof.Rows L2

/-! ### try: several clauses, each with or without a name, of one class or of several -/
theorem flying_keep {B h h' : Heap} {l : List Env} {a : Addr} {Z : Obj → Prop} (k : ∀ b o, h.get? b = some o → h'.get? b = some o) (x : HandSPX.FlyingZ B l a Z h) : HandSPX.FlyingZ B l a Z h' := by
  obtain ⟨x1, x2, x3, oe, vs, T, oT, ts, y1, y2, y3, y4, y5, y6, y7, y8⟩ := x
  exact ⟨fun b o e => k _ _ (x1 b o e), x2, x3.of_keeps fun b o e _ => ⟨o, k _ _ e, rfl⟩, oe, vs, T, oT, ts, k _ _ y1, y2, y3, y4, y5, y6, k _ _ y7, y8⟩
/-- the expression of a clause: which classes it takes -/
def TeX (X : Cx) (e : Expr) (m : Value → Option Bool) : Prop := ∀ {a : Addr} {oe : Obj} {cls : Value} {b : Bool} {pn pins : List (Addr × Obj)} {σ : L2.St} {H : Hp} {s : Shared} {Q : Bool → Shared → Prop} {E : Value → Shared → Prop},
  Inv (X.suite a ((a, oe) :: pn)) pins σ H s → s.heap.get? a = some oe → oe.cls = cls → m cls = some b → (∀ h', (∀ c o, s.heap.get? c = some o → h'.get? c = some o) → Q b { s with heap := h' }) →
  wpAny (model X.prog X.w) (X.A.mark (some (.ref a))) (eval e X.env) (fun c s1 => wpAny (model X.prog X.w) (X.A.mark (some (.ref a))) (excMatches (.ref a) c) Q E s1) E s
section
variable {X : Cx}
theorem look_name {a : Addr} {pn pins : List (Addr × Obj)} {σ : L2.St} {H : Hp} {s : Shared} {x : Str} {c : Value} {np : Pos} (hc : Names X x c) (S : Inv (X.suite a pn) pins σ H s) {Q : Value → Shared → Prop} {E : Value → Shared → Prop} (q : Q c s) :
    wpAny (model X.prog X.w) (X.A.mark (some (.ref a))) (eval (.Name x np) X.env) Q E s := by
  obtain ⟨g, nd, m | ⟨m, v, nn⟩⟩ := hc
  · exact ld_glob S g m q nd
  · exact ld_blt S g m v q nn nd
theorem type_looks {M : Model} {h : Heap} {a : Addr} {oe : Obj} (he : h.get? a = some oe) : PySem.W.Looks M h (typeOf (.ref a)) oe.cls := fun A Q E s k q => wpAny_typeOf_ref (k _ _ he) q
theorem te_name {x : Str} {c : Value} {np : Pos} (hc : Names X x c) : TeX X (.Name x np) fun cls => PySem.W.exmOne X.K cls c := by
  intro a oe cls b pn pins σ H s Q E S he ec hm q
  subst ec
  exact look_name hc S ((PySem.W.exm_one S.kIn (type_looks he) hm).here (q s.heap fun _ _ z => z))
end
/-- a clause: what it takes, its name's slot, its suite -/
structure Clz where
  m : Value → Option Bool
  nm : Option Nat
  ts : Addr → Value → Option Addr → TS
def named (i : Option Nat) (a : Addr) (σ : L2.St) : L2.St := match i with
  | none => σ
  | some i => σ.set i (some (.ref a))
def unnamed (i : Option Nat) (σ : L2.St) : L2.St := match i with
  | none => σ
  | some i => σ.set i none
def undone (i : Option Nat) (D : Ends) : Ends := { nx := fun σ H => D.nx (unnamed i σ) H, rt := D.rt, bk := fun σ H => D.bk (unnamed i σ) H, ct := fun σ H => D.ct (unnamed i σ) H }
/-- what is asked of an exception by the clauses in turn -/
def wCl (Wout : WX) (D : Ends) : List Clz → WX
  | [] => Wout
  | c :: r => fun cls d σ H => ∃ b, c.m cls = some b ∧ (b = true → ∀ a, H a = none → c.ts a cls d (undone c.nm D) (named c.nm a σ) H) ∧ (b = false → wCl Wout D r cls d σ H)
def NmOk (X : Cx) : Option Str → Option Nat → Prop
  | none, none => True
  | some n, some i => X.N[i]? = some n ∧ X.env.kindOf n = some .local
  | _, _ => False
inductive ClsOk (X : Cx) : List ExceptHandler → List Clz → Prop
  | nil : ClsOk X [] []
  | cons {e : Expr} {m : Value → Option Bool} {name : Option Str} {nm : Option Nat} {ts : Addr → Value → Option Addr → TS} {b0 : Stmt} {suite : List Stmt} {pos' : Pos} {hds : List ExceptHandler} {l : List Clz} (te : TeX X e m) (hn : NmOk X name nm)
      (su : ∀ (a : Addr) (oe : Obj) (cls : Value) (d : Option Addr) (pn : List (Addr × Obj)), Zc cls d oe → (∃ vs, oe.data = .fields vs) → PSs (X.suite a ((a, oe) :: pn)) (b0 :: suite) (ts a cls d)) (r : ClsOk X hds l) :
      ClsOk X (.ExceptHandler (some e) name (b0 :: suite) pos' :: hds) (⟨m, nm, ts⟩ :: l)
section
variable {X : Cx} {body : List Stmt} {h0 : ExceptHandler} {hds : List ExceptHandler} {l : List Clz} {pos : Pos} {tb : WX → TS} {Wout : WX}
/-- the state behind a suite, seen from around it -/
theorem sp_back {pins : List (Addr × Obj)} {a : Addr} {q : Addr × Obj} {D D' : Ends} {f : Flow} {s : Shared} (ok : X.Ok) (h : SP (X.suite a (q :: (X.pn ++ pins))) [] D' f s)
    (e : ∀ σ H s', Inv X pins σ H s' → s' = s → (D'.nx σ H → D.nx σ H) ∧ (D'.bk σ H → D.bk σ H) ∧ (D'.ct σ H → D.ct σ H)) (er : D'.rt = D.rt) : SP X pins D f s := by
  cases f with
  | next =>
    obtain ⟨σ', H', S, z⟩ := h
    exact ⟨σ', H', S.unsuite ok, (e σ' H' s (S.unsuite ok) rfl).1 z⟩
  | brk =>
    obtain ⟨σ', H', S, z⟩ := h
    exact ⟨σ', H', S.unsuite ok, (e σ' H' s (S.unsuite ok) rfl).2.1 z⟩
  | cont =>
    obtain ⟨σ', H', S, z⟩ := h
    exact ⟨σ', H', S.unsuite ok, (e σ' H' s (S.unsuite ok) rfl).2.2 z⟩
  | ret u =>
    obtain ⟨v, σ', H', S, r, z⟩ := h
    exact ⟨v, σ', H', S.unsuite ok, r, er ▸ z⟩
theorem ps_try_cl (hs : X.stack = X.env :: X.outer) (hf : X.env.frame = some X.env.locals) (hN : X.N.Nodup) (tk : Takes X Wout)
    (hb : ∀ (W : WX) (pn : List (Addr × Obj)) (xe : Value → Shared → Prop), Takes (X.tr pn xe) W → PassesOwn (model X.prog X.w) X.A X.env xe → PSs (X.tr pn xe) body (tb W))
    (hh : ClsOk X (h0 :: hds) l) : PS X (.Try body (h0 :: hds) [] [] pos) (fun D σ H => tb (wCl Wout D l) D σ H) := by
  refine .mk ?_
  intro pins s σ H D I h
  have ok := I.ok
  have frames : X.A.frames = some (X.env :: X.outer) := by rw [ok.frames, hs]
  refine wpAny_Try_except (wpAny_mono ((hb (wCl Wout D l) (X.pn ++ pins) (fun e s1 => wpAny (model X.prog X.w) X.A (noteFrame e X.env) (fun _ s2 => wpAny (model X.prog X.w) X.A (setFlight e none) (fun _ s3 =>
    wpAny (model X.prog X.w) X.A (handleBy e X.env (h0 :: hds)) (SP X pins D) X.xe s3) X.xe s2) X.xe s1) (fun u s' thrown => ?_) PassesOwn.looking).run [] s σ H D (I.toTry _) h) (fun f s1 out => ?_) fun e s1 z => z)
  · obtain ⟨a, B, sI, pins', σ', H', cls, d, rfl, J0, nb, up, sky0, na, os, ag, wish⟩ := thrown
    have J : Inv X pins σ' H' sI := J0.ofTry ok
    have sky : Sky B (X.env :: X.outer) a (Zc cls d) X.env.locals s'.heap := hs ▸ sky0
    change wpAny (model X.prog X.w) X.A (noteFrame (.ref a) X.env) _ _ _
    refine sky.land Zc.steady frames hf fun h3 fl3 up3 => ?_
    -- the clauses, from any heap in which it flies
    have go : ∀ {hds' : List ExceptHandler} {l' : List Clz}, ClsOk X hds' l' → wCl Wout D l' cls d σ' H' → ∀ hx, HandSPX.FlyingZ B (X.env :: X.outer) a (Zc cls d) hx → s'.heap.UpToSlots hx →
        wpAny (model X.prog X.w) X.A (handleBy (.ref a) X.env hds') (SP X pins D) X.xe { s' with heap := hx } := by
      intro hds' l' hk
      induction hk with
      | nil =>
        intro w hx fl upx
        obtain ⟨_, _, _, oe, vs, T, oT, ts', he, hz, hd, h1, _⟩ := id fl
        refine wpAny_handleBy_nil (by
          unfold PySem.passOn
          refine (wpAny_bind (wpAny_field he hd h1 ?_))
          rw [if_neg (show ¬ ((Value.ref T == Value.none) = true) by simp)]
          have out : wpAny (model X.prog X.w) X.A (setFlight (.ref a) X.env.frame) (fun _ s4 => wpAny (model X.prog X.w) X.A (throw (.ref a) : Sem Flow) (SP X pins D) X.xe s4) X.xe { s' with heap := hx } := by
            rw [hf]
            refine HandSPX.setFlight_upZ fl fun h4 held up4 => wpAny_throw (tk _ _ ⟨a, B, sI, pins, σ', H', cls, d, rfl, J, nb, (up.trans upx).trans up4, .inr (.inr (by rw [hs]; exact held)), na, os, ag, w⟩)
          first
            | exact wpAny_bind (wpAny_pure (wpAny_bind out))
            | exact wpAny_bind out)
      | @cons e m name nm ts b0 suite pos' hds2 l2 te hn su r ih =>
        intro w hx fl upx
        obtain ⟨b, hm, yes, no⟩ := w
        rcases fl.there with ⟨oe, vs, he, hz, hd⟩
        have Jx : Inv X pins σ' H' { s' with heap := hx } := J.landed nb fl.1 (up.trans upx) os ag
        have off : ∀ {hy : Heap} {oy : Obj} {vy : Array Value}, hy.FunFrames B (X.env :: X.outer) → hy.get? a = some oy → oy.data = .fields vy → a ≠ X.env.locals ∧ a ∉ X.fs := fun {hy oy vy} ff ey dy => by
          have nfr : a ∉ frs (X.env :: X.outer) := fun hm => by
            rcases ff.mem hm with ⟨_, o', e', hnf⟩
            rw [ey] at e'
            cases e'
            exact hnf _ dy
          refine ⟨fun z => nfr (List.mem_filterMap.mpr ⟨X.env, List.mem_cons_self, by rw [hf, z]⟩), fun hm => ?_⟩
          obtain ⟨e1, h1, q1⟩ := List.mem_filterMap.mp hm
          exact nfr (List.mem_filterMap.mpr ⟨e1, List.mem_cons_of_mem _ h1, q1⟩)
        obtain ⟨nL, nF⟩ := off fl.2.2.1 he hd
        refine wpAny_handleBy_cons (codeAny_handlers_test (te (Jx.suite he hd na nL nF) he hz.1 hm fun h4 kept => ?_)) (fun z => nomatch z)
        have fl4 := flying_keep kept fl
        have up4 : s'.heap.UpToSlots h4 := upx.trans (Heap.UpToSlots.of_keeps kept)
        cases b with
        | false => exact ih (no rfl) h4 fl4 up4
        | true =>
          have land : ∀ h5, HandSPX.FlyingZ B (X.env :: X.outer) a (Zc cls d) h5 → h4.UpToSlots h5 → ∃ oe5, Zc cls d oe5 ∧ (∃ vs, oe5.data = .fields vs) ∧ Inv (X.suite a ((a, oe5) :: (X.pn ++ pins))) [] σ' H' { s' with heap := h5 } := fun h5 fl5 up5 => by
            obtain ⟨oe5, vs5, he5, hz5, hd5⟩ := fl5.there
            obtain ⟨nL5, nF5⟩ := off fl5.2.2.1 he5 hd5
            have J5 : Inv X pins σ' H' { s' with heap := h5 } := J.landed (s' := { s' with heap := h5 }) nb fl5.1 (up.trans (up4.trans up5)) os ag
            exact ⟨oe5, hz5, ⟨_, hd5⟩, J5.suite he5 hd5 na nL5 nF5⟩
          match name, nm, hn with
          | none, none, _ =>
            refine codeAny_handlers_suite (HandSPX.lands_againZ fl4 fun h5 fl5 up5 => ?_)
            obtain ⟨oe5, hz5, hd5, S5⟩ := land h5 fl5 up5
            exact wpAny_mono ((su a oe5 cls d (X.pn ++ pins) hz5 hd5).run [] _ _ H' _ S5 (yes rfl a na)) (fun f s6 out => sp_back ok out (fun _ _ _ _ _ => ⟨id, id, id⟩) rfl) fun _ _ z => z.elim
          | some n, some i, ⟨hi, hln⟩ =>
            refine codeAny_handlers_suite_as (HandSPX.lands_againZ fl4 fun h5 fl5 up5 => ?_)
            obtain ⟨oe5, hz5, hd5, S5⟩ := land h5 fl5 up5
            refine store_ok (X := X.suite a ((a, oe5) :: (X.pn ++ pins))) (v := .ref a) S5 hN hi (.inl hln) rfl (fun s6 S6 => ?_) (.inr hln)
            refine wpAny_mono ((su a oe5 cls d (X.pn ++ pins) hz5 hd5).run [] s6 _ H' _ S6 (yes rfl a na)) (fun f s7 out => ?_) fun _ _ z => z.elim
            have ends : ∀ {σ7 : L2.St} {H7 : Hp} {Q : Shared → Prop}, Inv (X.suite a ((a, oe5) :: (X.pn ++ pins))) [] σ7 H7 s7 → (∀ s8, Inv X pins (σ7.set i none) H7 s8 → Q s8) →
                wpAny (model X.prog X.w) X.A (do bindName X.env n .none; unbindBehindTheSuite X.env n pos') (fun _ s8 => Q s8) X.xe s7 := fun S7 q => gone_ok (S7.unsuite ok) hN hi hln q
            cases f with
            | next => obtain ⟨σ7, H7, S7, q7⟩ := out; exact ends S7 fun s8 J8 => ⟨_, _, J8, q7⟩
            | brk => obtain ⟨σ7, H7, S7, q7⟩ := out; exact ends S7 fun s8 J8 => ⟨_, _, J8, q7⟩
            | cont => obtain ⟨σ7, H7, S7, q7⟩ := out; exact ends S7 fun s8 J8 => ⟨_, _, J8, q7⟩
            | ret u => obtain ⟨v7, σ7, H7, S7, r7, q7⟩ := out; exact ends S7 fun s8 J8 => ⟨_, _, _, J8, r7, q7⟩
    exact go hh wish h3 fl3 up3
  · cases f with
    | next => obtain ⟨σ', H', J, q⟩ := out; exact wpAny_execs_nil ⟨σ', H', J.ofTry ok, q⟩
    | brk => obtain ⟨σ', H', J, q⟩ := out; exact ⟨σ', H', J.ofTry ok, q⟩
    | cont => obtain ⟨σ', H', J, q⟩ := out; exact ⟨σ', H', J.ofTry ok, q⟩
    | ret u => obtain ⟨v, σ', H', J, r, q⟩ := out; exact ⟨v, σ', H', J.ofTry ok, r, q⟩
end
end U
namespace U
open PySem PySem.Spec PySem.Calls PyProof.Rows L2

/-! ### isinstance and fields of a caught exception of one's own, whatever its dict -/
section
variable {P : Program} {w : World} {A : Around} {E : Value → Shared → Prop} {s : Shared} {K : PySem.W.Frag} {x D : Addr} {ox : Obj} {od : Option Obj}
theorem found_data {name : Str} {a g : Value} (hc : (PySem.W.clsIn K D).isSome = true) (ha : PySem.W.findIn K (.ref D) name = some (some a)) (hg : PySem.W.specialIn K a "__get__" = some (some g)) (ht : PySem.W.takesIn K a = some true) : PySem.W.findObj K D od name = some (.bind g a) := by
  rcases Option.isSome_iff_exists.mp hc with ⟨cd, hc⟩
  simp [PySem.W.findObj, hc, ha, hg, ht]
/-- its __class__ -/
theorem class_asked (C : ExcC K D) {Q : Option Value → Shared → Prop} (X : K.In s.heap) (I : PySem.W.InstAt s.heap x ox D od) (h : Q (some (.ref D)) { s with toks := s.toks + 1 }) : wpAny (model P w) A (getAttr? (.ref x) "__class__") Q E s := by
  have is : (PySem.W.clsIn K D).isSome = true := by
    obtain ⟨cd, hc, _⟩ := PySem.W.any_some C.hd
    rw [hc]
    rfl
  have f0 := found_data (od := od) is C.ha C.hn C.ht
  obtain ⟨hp, g, d, t, os⟩ := s
  have l0 := I.type (M := model P w)
  have l1 := PySem.W.looks_findIn (M := model P w) X C.hg
  have l2 := PySem.W.looks_findIn (M := model P w) X C.hk
  have l3 := PySem.W.looks_find (M := model P w) X I f0
  have base : PySem.W.Looks (model P w) hp (isInstance (.ref x) (.type "BaseException")) true := l0.andThen (PySem.W.looks_subIn X C.hs)
  have n2 : (Value.builtin "BaseException.__getattribute__" == Value.builtin "object.__getattribute__") = false := by decide +kernel
  have n1 : (onTheHeap (Value.ref D) && Value.builtin "BaseException.__getattribute__" == Value.builtin "object.__getattribute__") = false := by rw [n2]; rfl
  unfold getAttr?; unfold getAttrBy?; unfold getAttrBy
  refine wpAny_bind (wpAny_mkText (wpAny_bind (wpAny_attempt (wpAny_holding (wpAny_bind (l0.at (wpAny_bind (l1.at ?_))))))))
  change wpAny _ _ (if (onTheHeap (Value.ref D) && Value.builtin "BaseException.__getattribute__" == Value.builtin "object.__getattribute__") = true then _ else _) _ _ _
  rw [n1, if_neg (show ¬ false = true by decide)]
  unfold getAttrByItsOwn; unfold hookBefore
  refine wpAny_bind (by
    rw [if_pos (show onTheHeap (Value.ref D) = true by rfl)]
    refine l2.at (wpAny_bind (wpAny_attempt (wpAny_holding ?_)))
    unfold callGetattribute
    rw [show (false && onTheHeap (Value.builtin "BaseException.__getattribute__")) = false from rfl, if_neg (show ¬ false = true by decide)]
    unfold boundAndCalled
    rw [PySem.F.excAttr_ValueError.ga.bind (Value.ref x)]
    refine wpAny_bind (m := pure _) (wpAny_pure ?_)
    change wpAny _ _ (call (.builtin "BaseException.__getattribute__") [.ref x, .str "__class__" t]) _ _ _
    refine wpAny_call (codeAny_call_builtin (PySem.F.excAttr_ValueError.ga.plain) PySem.F.entry_bexc_ga (@PySem.W.check_slot (model P w) _ _ ⟨hp, g, d, t + 1, os⟩ "BaseException.__getattribute__" "BaseException" "__getattribute__" (.ref x) [.str "__class__" t] [] _ (by decide +kernel) (by decide +kernel) base (PySem.F.args_bexc_ga (.ref x) (.str "__class__" t)) ?_))
    unfold PySem.Builtin.«object.__getattribute__»
    refine wpAny_bind (wpAny_of_eq (a := ((Value.ref x : Value), [Value.str "__class__" t])) (by first | rfl | (simp only [slotArgs]; rfl)) (wpAny_bind (wpAny_pure (wpAny_bind (l0.at (wpAny_bind (l3.at ?_)))))))
    change wpAny _ _ (holding [Value.builtin "object.__class__"] (call (.builtin "getset_descriptor.__get__") [.builtin "object.__class__", .ref x, .ref D]) >>= ret) _ _ _
    refine wpAny_bind (wpAny_holding (wpAny_call (PySem.W.class_get (s := ⟨hp, g, d, t + 1, os⟩) (ox := ox) (od := od) X I C.hm (wpAny_pure ?_))))
    change wpAny _ _ (handedOut (.ref D)) _ _ _
    rw [PySem.W.handedOut_of (v := .ref D) rfl]
    first
      | exact (wpAny_pure (wpAny_pure h))
      | exact wpAny_pure h
      | exact wpAny_pure (wpAny_bind (wpAny_pure (wpAny_pure h))))
theorem kit_exc (C : ExcC K D) : PySem.W.KitX K (.ref x) (.ref D) fun h => ∃ od, PySem.W.InstAt h x ox D od where
  ty := fun _ _ _ I => I.elim fun _ I => I.type
  it := fun _ _ X _ => by
    obtain ⟨cd, hc, _⟩ := PySem.W.any_some C.hd
    unfold PySem.W.clsIn at hc
    split at hc
    · rename_i at_
      intro A' Q' E' s' k q
      unfold isType loadHead
      exact wpAny_bind (wpAny_loadPart (k _ _ (X _ _ at_)) (wpAny_pure q))
    · cases hc
  ne := fun (h) tp dd its n sl X htp => by
    cases q : Value.ref D == .ref tp with
    | false => rfl
    | true =>
      cases Value.ref.inj (beq_iff_eq.mp q)
      obtain ⟨cd, hc, _⟩ := PySem.W.any_some C.hd
      unfold PySem.W.clsIn at hc
      split at hc
      · rename_i at_
        cases (X _ _ at_).symm.trans htp
      · cases hc
  ca := fun X I k => I.elim fun od I => class_asked (od := od) C X I k
end
theorem inst_exc {X : Cx} {a C dd : Addr} {oe : Obj} {pn pins : List (Addr × Obj)} {σ : L2.St} {H : Hp} {s : Shared} {fs : List (Str × V)} (hz : Zc (.ref C) (some dd) oe) (hf : ∃ vs, oe.data = .fields vs) (I : Inv (X.suite a ((a, oe) :: pn)) pins σ H s) (hd : H dd = some (.xd fs)) :
    ∃ od, PySem.W.InstAt s.heap a oe C (some od) ∧ ∀ n v, fs.lookup n = some v → ∃ u, PySem.W.lookIn n od = some (some u) ∧ RelV v u := by
  obtain ⟨vs, dat⟩ := hf
  obtain ⟨here, _⟩ := I.pin (a, oe) (List.mem_append.mpr (.inl (List.mem_cons_self)))
  have ok : ObjOk X.prog X.w H s.heap dd (.xd fs) := I.hok dd _ hd
  obtain ⟨mA, ns, rel⟩ := ok
  obtain ⟨od, ho, look⟩ := lookIn_ns ns
  refine ⟨od, ⟨here, hz.1, by unfold PySem.W.notCls; rw [dat] <;> rfl, by rw [hz.2]; exact ho⟩, fun n v e => ?_⟩
  obtain ⟨u, hu, ru⟩ := RelO.some_of (v := v) (o := mA n) (by rw [← e]; exact rel n)
  exact ⟨u, by rw [look, hu], ru⟩
/-- isinstance(e, c), e the exception of the suite -/
def rIsX (K : PySem.W.Frag) (a : Addr) (cls : Value) (d : Option Addr) : List V → Hp → VK → Prop := fun xs H Q => ∃ (D c dd : Addr) (fs : List (Str × V)) (b : Bool), xs = [.ref a, .ref c] ∧ cls = .ref D ∧ d = some dd ∧ H dd = some (.xd fs) ∧ ExcC K D ∧ PySem.W.kitOne K (.ref D) (.ref c) = some b ∧ Q (.bl b) H
theorem call_isX {X : Cx} {a : Addr} {cls : Value} {d : Option Addr} {oe : Obj} {pn : List (Addr × Obj)} (hz : Zc cls d oe) (hf : ∃ vs, oe.data = .fields vs) : CallR (X.suite a ((a, oe) :: pn)) (.builtin "isinstance") (rIsX X.K a cls d) := by
  intro pins s σ H xs us Q
  intro I r h
  obtain ⟨D, c, dd, fs, b, rfl, rfl, rfl, hd, C, kit, q⟩ := h
  obtain ⟨od, J, _⟩ := inst_exc hz hf I hd
  match us, r with
  | [_, _], .cons r1 (.cons r2 .nil) =>
    cases r1
    cases r2
    exact PySem.W.kia_one (kit_exc C) I.kIn ⟨_, J⟩ kit (fun z => nomatch z) fun tk => ⟨.bl b, H, I.kept (t' := tk) fun _ _ z => z, rfl, q⟩
/-- e.f, e the exception of the suite -/
def tXv (K : PySem.W.Frag) (a : Addr) (cls : Value) (d : Option Addr) (f : Str) (te : TE) : TE := fun σ H Q => te σ H fun x H1 => x = .ref a ∧ ∃ (C dd : Addr) (fs : List (Str × V)) (v : V), cls = .ref C ∧ d = some dd ∧ XfC K C ∧ PySem.W.findIn K (.ref C) f = some none ∧ H1 dd = some (.xd fs) ∧ fs.lookup f = some v ∧ Q v H1
theorem pe_xv {X : Cx} {a : Addr} {cls : Value} {d : Option Addr} {oe : Obj} {pn : List (Addr × Obj)} {e : Expr} {te : TE} {pos : Pos} {f : Str} (hz : Zc cls d oe) (hf : ∃ vs, oe.data = .fields vs) (he : PE (X.suite a ((a, oe) :: pn)) e te) (plain : attributeBase e f X.env (eval e X.env) = eval e X.env := by rfl) :
    PE (X.suite a ((a, oe) :: pn)) (.Attribute e f pos) (tXv X.K a cls d f te) := by
  refine .mk ?_
  intro ps s σ H Q I h
  refine attr_of plain (thn (he.run ps s σ H _ I h) fun u s1 out => ?_)
  obtain ⟨x, H1, I1, rx, rfl, C, dd, fs, v, rfl, rfl, T, no, hd, look, q⟩ := out
  obtain rfl : u = Value.ref a := rx
  obtain ⟨od, J, get⟩ := inst_exc hz hf I1 hd
  obtain ⟨u, hu, ru⟩ := get _ _ look
  exact HandSPX.exc_get I1.kIn J T.ga T.gg T.exC (PySem.W.findObj_own T.hdC no rfl hu) (handed_of ru) ⟨v, H1, I1.tok _, ru, q⟩
/-! ### calls in a try's body: what they may raise is told by the state -/
section
variable {X : Cx} {k : Nat} {x C : Str} {ps : List Str} {sp : Sp} {W : WX} {p pos : Pos} {e : Expr} {es : List Expr} {t : TA}
/-- a new object of one's own class, made in a try's body -/
def tMakeS (C : Addr) (sp : Sp) (W : WX) (t : TA) : TE := fun σ H Q => t σ H fun vs H1 => ∀ x dx, H1 x = none → H1 dx = none → dx ≠ x → sp (.ref x :: vs) (upd (upd H1 dx (.own x)) x (.ins C dx [])) (fun v H2 => v = .non ∧ Q (.ref x) H2) (WE W σ)
theorem pe_mkS (g : GoodM X.prog X.w X.K X.mg X.base k C "__init__" ps sp) (M : Mk X.K (He.ga X.K C) (He.ma X.K (He.ga X.K C) "__init__")) (hm : X.mg C = some (.ref (He.ga X.K C))) (hr : Room (k + 1) X.A) (hg : Gl X C) (tk : Takes X W)
    (hpl : (backTo pos (starEach es X.env)).any (·.1) = false := by rfl) (he : starEach (e :: es) X.env = (false, eval e X.env) :: starEach es X.env := by rfl) (ha : PA X (e :: es) t)
    (hdb : (C == ("__debug__" : Str)) = false := by decide) : PE X (.Call (.Name C p) (e :: es) [] pos) (tMakeS (He.ga X.K C) sp W t) := by
  obtain ⟨fd, F, hb⟩ := g.fn
  refine .mk ?_
  intro pins s σ H Q I h
  refine wpAny_Call_Name_kw (ld_glob I hg hm (PySem.W.callWith_K (h₀ := X.base) I.ok.mod.kin M.kp (thn (ha.run pos pins s σ H _ I h) fun us s1 out => ?_) he hpl) hdb)
  obtain ⟨vs, H1, I1, r, q⟩ := out
  refine ⟨I1.kIn, ?_⟩
  have q1 := q (s1.heap.objs.size + 1) s1.heap.objs.size (I1.hok.fresh (Nat.le_succ _)) (I1.hok.fresh (Nat.le_refl _)) (Nat.ne_of_lt (Nat.lt_succ_self _))
  have I2 := Inv.made (C := He.ga X.K C) I1
  have r2 : Vals (V.ref (s1.heap.objs.size + 1) :: vs) (Value.ref (s1.heap.objs.size + 1) :: us) := .cons rfl r
  have hl : (Value.ref (s1.heap.objs.size + 1) :: us).length = ps.length := (r2.length.symm.trans (F.len _ _ _ _ q1))
  have bb := hb { s1 with heap := _ } (Value.ref (s1.heap.objs.size + 1) :: us) I2.kIn (by rw [List.append_nil]; exact hl)
  rw [List.append_nil] at bb
  refine wpAny_call (make_map (f := He.ma X.K (He.ga X.K C) "__init__") I1.kIn M.makes M.init (beq_iff_eq.mp M.fn) (codeAny_mono (F.run _ X.stack _ _ ⟨Value.ref (s1.heap.objs.size + 1) :: us, []⟩ _ _ _ _ (hr.make (He.ga X.K C) us []) (I2.env0.make (He.ga X.K C) us []) bb r2 q1) fun res s' out => ?_))
  match res, out with
  | .error er, out => exact passAt tk σ pins _ _ er s' I2 out
  | .ok (.ret u), out =>
    obtain ⟨v, H', I3, rv, ev, q3⟩ := I2.after out
    subst ev
    exact ⟨rv, ⟨V.ref (s1.heap.objs.size + 1), H', I3, rfl, q3⟩⟩
  | .ok .next, out => exact out.elim
  | .ok .brk, out => exact out.elim
  | .ok .cont, out => exact out.elim
end
/-- a try as a statement -/
def tTry (Wout : WX) (tb : WX → TS) (l : List Clz) : TS := fun D σ H => tb (wCl Wout D l) D σ H
/-! ### what a law never comes to -/
/-! ### one's own exceptions, all directly under one -/
structure XF (K : PySem.W.Frag) (B : Str) (cs : List Str) : Prop where
  m : ∀ x ∈ cs, ∀ y ∈ B :: cs, PySem.W.exmOne K (.ref (He.ga K x)) (.ref (He.ga K y)) = some (decide (y = B ∨ y = x))
  i : ∀ x ∈ cs, ∀ y ∈ B :: cs, PySem.W.kitOne K (.ref (He.ga K x)) (.ref (He.ga K y)) = some (decide (y = B ∨ y = x))
  c : ∀ x ∈ cs, ExcC K (He.ga K x)
  f : ∀ x ∈ cs, XfC K (He.ga K x)
  v : ∀ x ∈ cs, PySem.W.findIn K (.ref (He.ga K x)) "value" = some none
def excCB (K : PySem.W.Frag) (D : Addr) : Bool := decide (PySem.W.findIn K (.ref D) "__getattribute__" = some (some (.builtin "BaseException.__getattribute__"))) && (decide (PySem.W.findIn K (.ref D) "__getattr__" = some none) && (decide (PySem.W.subIn K (.ref D) (.type "BaseException") = some true) &&
  (PySem.W.hasDictIn K D && (decide (PySem.W.findIn K (.ref D) "__class__" = some (some (.builtin "object.__class__"))) && (decide (PySem.W.specialIn K (.builtin "object.__class__") "__get__" = some (some (.builtin "getset_descriptor.__get__"))) &&
  (decide (PySem.W.takesIn K (.builtin "object.__class__") = some true) && (decide (PySem.W.mroIn K D (.type "object") = some true) && decide (PySem.W.findIn K (.ref D) "value" = some none))))))))
def xFB (B : Str) (cs : List Str) (K : PySem.W.Frag) : Bool := cs.all fun x => excCB K (He.ga K x) && (B :: cs).all fun y => decide (PySem.W.exmOne K (.ref (He.ga K x)) (.ref (He.ga K y)) = some (decide (y = B ∨ y = x))) && decide (PySem.W.kitOne K (.ref (He.ga K x)) (.ref (He.ga K y)) = some (decide (y = B ∨ y = x)))
theorem xF_ok {K : PySem.W.Frag} {B : Str} {cs : List Str} (h : xFB B cs K = true) : XF K B cs := by
  have all : ∀ x ∈ cs, ExcC K (He.ga K x) ∧ PySem.W.findIn K (.ref (He.ga K x)) "value" = some none ∧ ∀ y ∈ B :: cs, PySem.W.exmOne K (.ref (He.ga K x)) (.ref (He.ga K y)) = some (decide (y = B ∨ y = x)) ∧ PySem.W.kitOne K (.ref (He.ga K x)) (.ref (He.ga K y)) = some (decide (y = B ∨ y = x)) := fun x hx => by
    have q := List.all_eq_true.mp h x hx
    rw [Bool.and_eq_true] at q
    obtain ⟨q1, q2⟩ := q
    unfold excCB at q1
    simp only [decide_eq_true_eq, Bool.and_eq_true] at q1
    obtain ⟨a1, a2, a3, a4, a5, a6, a7, a8, a9⟩ := q1
    refine ⟨⟨a1, a2, a3, a4, a5, a6, a7, a8⟩, a9, fun y hy => ?_⟩
    have z := List.all_eq_true.mp q2 y hy
    rw [Bool.and_eq_true] at z
    exact ⟨of_decide_eq_true z.1, of_decide_eq_true z.2⟩
  exact ⟨fun x hx y hy => ((all x hx).2.2 y hy).1, fun x hx y hy => ((all x hx).2.2 y hy).2, fun x hx => (all x hx).1, fun x hx => ⟨(all x hx).1.hg, (all x hx).1.hk, (all x hx).1.hs, (all x hx).1.hd⟩, fun x hx => (all x hx).2.1⟩
end U
namespace U
open PySem PySem.Spec PyProof.Rows L2

theorem ps_tryT {X : Cx} {body : List Stmt} {h0 : ExceptHandler} {hds : List ExceptHandler} {l : List Clz} {pos : Pos} {tb : WX → TS} {Wout : WX} (hs : X.stack = X.env :: X.outer) (hf : X.env.frame = some X.env.locals) (hN : X.N.Nodup) (tk : Takes X Wout)
    (hb : ∀ (W : WX) (pn : List (Addr × Obj)) (xe : Value → Shared → Prop), Takes (X.tr pn xe) W → PassesOwn (model X.prog X.w) X.A X.env xe → PSs (X.tr pn xe) body (tb W))
    (hh : ClsOk X (h0 :: hds) l) : PS X (.Try body (h0 :: hds) [] [] pos) (tTry Wout tb l) := ps_try_cl hs hf hN tk hb hh
/-! ### a classmethod of the module -/
def crB (K : PySem.W.Frag) (C : Addr) : Bool := PySem.W.readsIn K C (.type "type") && He.eqO (PySem.W.specialIn K (.ref C) "__getattribute__") (some (some (.builtin "type.__getattribute__")))
theorem crB_ok {K : PySem.W.Frag} {C : Addr} (h : crB K C = true) : ClX.CRead K C (.type "type") := by
  unfold crB at h
  rw [Bool.and_eq_true] at h
  exact ⟨h.1, He.eqO_ok h.2⟩
def cmB (K : PySem.W.Frag) (C : Addr) (m : Str) : Bool := He5.wrapB K C "classmethod" "classmethod.__get__" m && PySem.W.fnIn K (He5.wf K C "classmethod" m)
theorem cmB_ok {K : PySem.W.Frag} {C : Addr} {m : Str} (h : cmB K C m = true) : ClX.CMet K C (.type "type") m (He.ma K C m) (He5.wf K C "classmethod" m) := by
  unfold cmB at h
  rw [Bool.and_eq_true] at h
  exact He5.cmet_of h.1 h.2
/-- a classmethod that stands -/
structure GoodC (P : Program) (w : World) (K : PySem.W.Frag) (mg : Str → Option Value) (base : Heap) (k : Nat) (C m : Str) (ps : List Str) (sp : Sp) : Prop where
  fn : ∃ fd, FnOk P w K mg base (L2.CX P w) k (He5.wf K (He.ga K C) "classmethod" m) fd ps sp ∧ Binds K fd ps []
  rd : ClX.CRead K (He.ga K C) (.type "type")
  cm : ClX.CMet K (He.ga K C) (.type "type") m (He.ma K (He.ga K C) m) (He5.wf K (He.ga K C) "classmethod" m)
section
variable {X : Cx} {k : Nat} {C m : Str} {ps : List Str} {sp : Sp} {E : XK} {o e : Expr} {es : List Expr} {pos apos : Pos} {ta : TE} {t : TA} {pl : Sem Bool}
theorem pe_cm (g : GoodC X.prog X.w X.K X.mg X.base k C m ps sp) (he : PE X o ta) (hr : Room k X.A) (hx : Passes (L2.CX X.prog X.w) X E)
    (hst : starEach (e :: es) X.env = (false, eval e X.env) :: starEach es X.env := by rfl) (hpl : (backTo pos (starEach es X.env)).any (·.1) = false := by rfl) (ha : PA X (e :: es) t)
    (ht : eval (.Call (.Attribute o m apos) (e :: es) [] pos) X.env = (do
      let ov ← eval o X.env
      standAt apos.atName
      let (f, first) ← holding [ov] (getMethod ov m pl)
      callWith pos f first (backTo pos (starEach (e :: es) X.env)) (backToKw pos (keywordEach [] X.env))) := by rfl) :
    PE X (.Call (.Attribute o m apos) (e :: es) [] pos) (ClX.tCMeth (He.ga X.K C) (fun vs H Q E => sp (vs ++ []) H Q E) E ta t) := by
  obtain ⟨fd, F, hb⟩ := g.fn
  exact ClX.pe_cmeth he g.rd g.cm (F.raw hb .nil) hr hx ha hst hpl ht
end
def tCm (C : Addr) (sp : Sp) (E : XK) (ta : TE) (t : TA) : TE := fun σ H Q => ta σ H fun x H1 => x = .ref C ∧ t σ H1 fun vs H2 => sp (.ref C :: vs) H2 Q E
theorem tCm_eq (C : Addr) (sp : Sp) (E : XK) (ta : TE) (t : TA) : ClX.tCMeth C (fun vs H Q E => sp (vs ++ []) H Q E) E ta t = tCm C sp E ta t := by
  unfold ClX.tCMeth tCm
  simp only [List.append_nil]
theorem pe_cm' {X : Cx} {k : Nat} {C m : Str} {ps : List Str} {sp : Sp} {E : XK} {o e : Expr} {es : List Expr} {pos apos : Pos} {ta : TE} {t : TA} {pl : Sem Bool} (g : GoodC X.prog X.w X.K X.mg X.base k C m ps sp) (he : PE X o ta) (hr : Room k X.A) (hx : Passes (L2.CX X.prog X.w) X E)
    (hst : starEach (e :: es) X.env = (false, eval e X.env) :: starEach es X.env := by rfl) (hpl : (backTo pos (starEach es X.env)).any (·.1) = false := by rfl) (ha : PA X (e :: es) t)
    (ht : eval (.Call (.Attribute o m apos) (e :: es) [] pos) X.env = (do
      let ov ← eval o X.env
      standAt apos.atName
      let (f, first) ← holding [ov] (getMethod ov m pl)
      callWith pos f first (backTo pos (starEach (e :: es) X.env)) (backToKw pos (keywordEach [] X.env))) := by rfl) :
    PE X (.Call (.Attribute o m apos) (e :: es) [] pos) (tCm (He.ga X.K C) sp E ta t) := tCm_eq (He.ga X.K C) sp E ta t ▸ pe_cm g he hr hx hst hpl ha ht
/-! ### sorted(text), fewer than 64 signs -/
end U
namespace U
open PySem PySem.Spec PyProof.Rows L2

/-! ### texts of data are texts -/
/-! ### data with dicts in it -/
def kD : Key → PyData
  | .inl i => .int i
  | .inr x => .str x
mutual
inductive Dq (K : PySem.W.Frag) (H : Hp) : V → PyData → Prop
  | qnon : Dq K H .non .none
  | qbl (b : Bool) : Dq K H (.bl b) (.bool b)
  | qint (i : Int) : Dq K H (.int i) (.int i)
  | qstr (x : Str) : Dq K H (.str x) (.str x)
  | qlst {l : Addr} {vs : List V} {es : List PyData} : SqL K H l vs → DqAll K H vs es → Dq K H (.ref l) (.list es)
  | qtup {l : Addr} {vs : List V} {es : List PyData} : SqT K H l vs → DqAll K H vs es → Dq K H (.ref l) (.tuple es)
  | qdct {l : Addr} {kvs : List (Key × V)} {es : List (PyData × PyData)} : H l = some (.dK kvs) → es.map (·.1) = kvs.map (fun p => kD p.1) → DqAll K H (kvs.map (·.2)) (es.map (·.2)) → Dq K H (.ref l) (.dict es)
inductive DqAll (K : PySem.W.Frag) (H : Hp) : List V → List PyData → Prop
  | qnil : DqAll K H [] []
  | qcons {x : V} {xs : List V} {e : PyData} {es : List PyData} : Dq K H x e → DqAll K H xs es → DqAll K H (x :: xs) (e :: es)
end
/-- the interpreter's own table of modules is a dict -/
def sysB (K : PySem.W.Frag) : Bool := match K.lookup sysModules with
  | some o => decide (o.cls = .type "dict")
  | none => false
def KS (K : PySem.W.Frag) : Prop := ∃ o, K.lookup sysModules = some o ∧ o.cls = .type "dict"
theorem kS_ok {K : PySem.W.Frag} (h : sysB K = true) : KS K := by
  unfold sysB at h
  split at h
  · rename_i o e
    exact ⟨o, e, of_decide_eq_true h⟩
  · cases h
theorem kv_vals {kvs : List (Key × V)} {vs : List (Key × Value)} (h : KV kvs vs) : kvs.map (fun p => kD p.1) = vs.map (fun p => kD p.1) ∧ Vals (kvs.map (·.2)) (vs.map (·.2)) := by
  induction h with
  | nil => exact ⟨rfl, .nil⟩
  | cons r _ ih => exact ⟨by rw [List.map_cons, List.map_cons, r.1, ih.1], .cons r.2 ih.2⟩
theorem keys_read {P : Program} {w : World} {h : Heap} {es : List DictEntry} {vs : List (Key × Value)} (p : Pairs (mixKind P w) es vs) : ReadsAll h (es.map (·.key)) (vs.map fun p => kD p.1) [] ∧ es.map (·.val) = vs.map (·.2) := by
  induction p with
  | nil => exact ⟨.nil, rfl⟩
  | @cons e kv es kvs a b _ ih =>
    refine ⟨?_, by rw [List.map_cons, List.map_cons, b, ih.2]⟩
    have q : Reads h e.key (kD kv.1) [] := by
      rcases keyIs_shape a with ⟨i, t, e1, e2⟩ | ⟨x, t, e1, e2⟩
      · rw [e1, e2]; exact .int i t
      · rw [e1, e2]; exact .str x t
    exact ReadsAll.cons q ih.1
section
variable {X : Cx} {pins : List (Addr × Obj)} {σ : L2.St} {H : Hp} {s : Shared} {v : V} {d : PyData}
theorem Dq.reads (S : KS X.K) (I : Inv X pins σ H s) (h : Dq X.K H v d) : ∀ u, RelV v u → ∃ as, sysModules ∉ as ∧ Reads s.heap u d as := by
  obtain ⟨o0, so, sc⟩ := S
  have here := I.kIn _ _ so
  have other : ∀ l o, s.heap.get? l = some o → o.cls = .type "list" → sysModules ≠ l := by
    intro l o e c q
    rw [← q, here] at e
    cases e
    rw [sc] at c
    exact absurd c (by decide)
  refine Dq.rec (motive_1 := fun v d _ => ∀ u, RelV v u → ∃ as, sysModules ∉ as ∧ Reads s.heap u d as) (motive_2 := fun vs ds _ => ∀ us, Vals vs us → ∃ as, sysModules ∉ as ∧ ReadsAll s.heap us ds as) ?_ ?_ ?_ ?_ ?_ ?_ ?_ ?_ ?_ h
  · intro u r; cases r; exact ⟨_, by simp, .none⟩
  · intro b u r; cases r; exact ⟨_, by simp, .bool b⟩
  · intro i u r; obtain ⟨t, rfl⟩ := r; exact ⟨_, by simp, .int i t⟩
  · intro x u r; obtain ⟨t, rfl⟩ := r; exact ⟨_, by simp, .str x t⟩
  · intro l vs es hs _ ih u r
    cases r
    rcases I.list hs with ⟨its, rv, ⟨o, n, ho, hc, _, hd⟩, _⟩
    obtain ⟨as, na, q⟩ := ih _ rv
    exact ⟨_, fun m => (List.mem_cons.mp m).elim (other l o ho hc) na, Reads.list ho hc hd q⟩
  · intro l vs es hs _ ih u r
    cases r
    rcases I.tuple hs with ⟨its, rv, ⟨o, ho, hc, n, hd⟩, _⟩
    obtain ⟨as, na, q⟩ := ih _ rv
    exact ⟨_, na, Reads.tuple ho hc hd q⟩
  · intro l kvs es e ek _ ih u r
    cases r
    obtain ⟨_, nS, vs, rel, o, ents, ep, ho, hx, hdat, _, hp, _⟩ := dk_of I.hok e
    have kv := kv_vals rel
    obtain ⟨as, na, q⟩ := ih _ kv.2
    have kr := keys_read (h := s.heap) hp
    rw [← kv.1, ← ek] at kr
    rw [← kr.2] at q
    refine ⟨l :: [] ++ as, fun m => ?_, Reads.dict ho hx.1 hdat kr.1 q⟩
    rcases List.mem_cons.mp m with m | m
    · rw [← m] at nS
      exact absurd nS (by decide)
    · exact na m
  · intro us r; cases r; exact ⟨_, by simp, .nil⟩
  · intro x xs e es _ _ i1 i2 us r
    cases r with
    | cons r1 r2 =>
      obtain ⟨as, na, q1⟩ := i1 _ r1
      obtain ⟨bs, nb, q2⟩ := i2 _ r2
      exact ⟨_, fun m => (List.mem_append.mp m).elim na nb, ReadsAll.cons q1 q2⟩
theorem Dq.same {K : PySem.W.Frag} {H H' : Hp} {v : V} {d : PyData} (e : Same H H') (h : Dq K H v d) : Dq K H' v d :=
  Dq.rec (motive_1 := fun v d _ => Dq K H' v d) (motive_2 := fun vs ds _ => DqAll K H' vs ds) .qnon .qbl .qint .qstr (fun s _ ih => .qlst (Same.seq e s) ih) (fun s _ ih => .qtup (Same.sqT e s) ih) (fun at_ k _ ih => .qdct (e _ _ at_) k ih) .qnil (fun _ _ a b => .qcons a b) h
/-- the text of any data, dicts among them -/
def uReprQ (K : PySem.W.Frag) : List V → Hp → VK → Prop := fun xs H Q => ∃ v d, xs = [v] ∧ Dq K H v d ∧ d.showable = true ∧ d.depth ≤ 60 ∧ d.shown.length ≤ sizeLine ∧ Q (.str d.shown) H
theorem call_uReprQ (hA : X.A.guards = some []) (hu : X.A.units + 64 < cLine) (S : KS X.K) : CallR X (.builtin "repr") (uReprQ X.K) := by
  intro ps s σ H xs us R I r h
  obtain ⟨v, d, rfl, hd, hs, hz, hl, q⟩ := h
  cases hd with
  | qnon =>
    obtain ⟨_, rfl, same⟩ := vals1 r
    cases same
    rw [PyData.shown] at q
    exact PySem.P.repr_of_none ⟨.str _, H, I.tok _, ⟨_, rfl⟩, q⟩
  | qbl b =>
    obtain ⟨_, rfl, same⟩ := vals1 r
    cases same
    refine PySem.P.repr_of_bool ⟨.str _, H, I.tok _, ⟨s.toks, ?_⟩, q⟩
    cases b <;> rfl
  | qint i =>
    obtain ⟨_, rfl, t, rfl⟩ := vals1 r
    rw [PyData.shown_int] at q
    refine PySem.P.repr_of_int ?_ ⟨.str _, H, I.tok _, ⟨_, rfl⟩, q⟩
    simpa [PyData.showable] using hs
  | qstr x =>
    obtain ⟨_, rfl, t, rfl⟩ := vals1 r
    rw [PyData.shown_str] at q hl
    exact PySem.P.repr_of_str ⟨.str _, H, I.tok _, ⟨_, rfl⟩, q⟩ hl
  | qlst a b =>
    obtain ⟨_, rfl, same⟩ := vals1 r
    cases same
    obtain ⟨as, na, rr⟩ := Dq.reads S I (.qlst a b) _ rfl
    exact repr_of_reads' rr hs (fun _ => na) hA (by omega) (fun _ _ z => z) (fun h' u tk k => ⟨.str _, H, I.kept (t' := tk) k, ⟨_, rfl⟩, q⟩) hl
  | qtup a b =>
    obtain ⟨_, rfl, same⟩ := vals1 r
    cases same
    obtain ⟨as, na, rr⟩ := Dq.reads S I (.qtup a b) _ rfl
    exact repr_of_reads' rr hs (fun _ => na) hA (by omega) (fun _ _ z => z) (fun h' u tk k => ⟨.str _, H, I.kept (t' := tk) k, ⟨_, rfl⟩, q⟩) hl
  | qdct a b c =>
    obtain ⟨_, rfl, same⟩ := vals1 r
    cases same
    obtain ⟨as, na, rr⟩ := Dq.reads S I (.qdct a b c) _ rfl
    exact repr_of_reads' rr hs (fun _ => na) hA (by omega) (fun _ _ z => z) (fun h' u tk k => ⟨.str _, H, I.kept (t' := tk) k, ⟨_, rfl⟩, q⟩) hl
end
end U
namespace U
open PySem PySem.Spec PySem.Calls PyProof.Rows L2

/-! ### cls(..): an object of one's own class, whose class stands in a local name -/
def tMakeL (i : Nat) (C : Addr) (sp : Sp) (E : XK) (t : TA) : TE := fun σ H Q => σ[i]? = some (some (.ref C)) ∧ t σ H fun vs H1 => ∀ y dy, H1 y = none → H1 dy = none → dy ≠ y → sp (.ref y :: vs) (upd (upd H1 dy (.own y)) y (.ins C dy [])) (fun v H2 => v = .non ∧ Q (.ref y) H2) E
section
variable {X : Cx} {k i : Nat} {x C : Str} {ps : List Str} {sp : Sp} {E : XK} {p pos : Pos} {e : Expr} {es : List Expr} {t : TA}
theorem pe_mkL (g : GoodM X.prog X.w X.K X.mg X.base k C "__init__" ps sp) (M : Mk X.K (He.ga X.K C) (He.ma X.K (He.ga X.K C) "__init__")) (hr : Room (k + 1) X.A) (hN : X.N[i]? = some x) (hv : Vis X.env.scope x) (kp : PySem.W.keepIn X.K (.ref (He.ga X.K C)) = true) (hx : Passes (L2.CX X.prog X.w) X E)
    (hpl : (backTo pos (starEach es X.env)).any (·.1) = false := by rfl) (he : starEach (e :: es) X.env = (false, eval e X.env) :: starEach es X.env := by rfl) (ha : PA X (e :: es) t)
    (hdb : (x == ("__debug__" : Str)) = false := by decide) (hcd : (x == ("__classdict__" : Str)) = false := by decide) : PE X (.Call (.Name x p) (e :: es) [] pos) (tMakeL i (He.ga X.K C) sp E t) := by
  obtain ⟨fd, F, hb⟩ := g.fn
  refine .mk ?_
  intro pins s σ H Q I h
  obtain ⟨here, h⟩ := h
  refine wpAny_Call_Name_kw (thn ((pe_var (pos := p) hN hv hdb hcd).run pins s σ H (fun v H1 => v = .ref (He.ga X.K C) ∧ H1 = H) I ⟨_, here, rfl, rfl⟩) fun u s0 out0 => ?_)
  obtain ⟨v0, H0, I0, r0, e1, e2⟩ := out0
  subst e1 e2
  obtain rfl : u = Value.ref (He.ga X.K C) := r0
  refine PySem.W.callWith_K (h₀ := X.base) I0.ok.mod.kin kp (thn (ha.run pos pins s0 σ _ _ I0 h) fun us s1 out => ?_) he hpl
  obtain ⟨vs, H1, I1, r, q⟩ := out
  refine ⟨I1.kIn, ?_⟩
  have q1 := q (s1.heap.objs.size + 1) s1.heap.objs.size (I1.hok.fresh (Nat.le_succ _)) (I1.hok.fresh (Nat.le_refl _)) (Nat.ne_of_lt (Nat.lt_succ_self _))
  have I2 := Inv.made (C := He.ga X.K C) I1
  have r2 : Vals (V.ref (s1.heap.objs.size + 1) :: vs) (Value.ref (s1.heap.objs.size + 1) :: us) := .cons rfl r
  have hl : (Value.ref (s1.heap.objs.size + 1) :: us).length = ps.length := (r2.length.symm.trans (F.len _ _ _ _ q1))
  have bb := hb { s1 with heap := _ } (Value.ref (s1.heap.objs.size + 1) :: us) I2.kIn (by rw [List.append_nil]; exact hl)
  rw [List.append_nil] at bb
  refine wpAny_call (make_map (f := He.ma X.K (He.ga X.K C) "__init__") I1.kIn M.makes M.init (beq_iff_eq.mp M.fn) (codeAny_mono (F.run _ X.stack _ _ ⟨Value.ref (s1.heap.objs.size + 1) :: us, []⟩ _ _ _ _ (hr.make (He.ga X.K C) us []) (I2.env0.make (He.ga X.K C) us []) bb r2 q1) fun res s' out => ?_))
  match res, out with
  | .error er, out => exact hx pins _ _ _ er s' I2 out
  | .ok (.ret u), out =>
    obtain ⟨v, H', I3, rv, ev, q3⟩ := I2.after out
    subst ev
    exact ⟨rv, ⟨V.ref (s1.heap.objs.size + 1), H', I3, rfl, q3⟩⟩
  | .ok .next, out => exact out.elim
  | .ok .brk, out => exact out.elim
  | .ok .cont, out => exact out.elim
end
/-! ### o.m(k = v, ..): all arguments by their names -/
section
variable {X : Cx} {CX : CXT} {k : Nat} {f C : Addr} {fd : FuncData} {ps ks : List Str} {sp : Sp} {E : XK} {m : Str} {pos apos : Pos} {o : Expr} {kws : List Keyword} {ta : TE} {tk : TA} {g : List Value → List Value → List Value} {gV : List V → List V → List V} {pl : Sem Bool}
end
/-- without defaults: how the names' values come to their places -/
theorem kbN {K : PySem.W.Frag} {x qual : Str} {params : Arguments} {body : List Stmt} {scope : Scope} {kws : List (Str × V)} {f : Addr} {fd : FuncData} {ps : List Str} (F : FunD K x qual params body scope [] kws f fd) (n : Nat) (ks : List Str) (g : {α : Type} → List α → List α → List α)
    (rel : ∀ {vs zs : List V} {us ws : List Value}, Vals vs us → Vals zs ws → Vals (g vs zs) (g us ws))
    (h : ∀ (kV doc pm : Value) (an : Option Addr) (cdv ct : Value) (us ws : List Value), us.length = n → ws.length = ks.length → bindArgs (PySem.W.fnOf x qual params body scope .none kV doc pm an cdv ct) ⟨us, ks.zip ws⟩ = pure (ps.zip (g us ws))) : KBn K fd ps n ks (fun us ws => g us ws) (fun vs zs => g vs zs) := by
  obtain ⟨_, _, _, kV, doc, pm, an, cdv, ct, _, rfl, _, _, hD, _⟩ := F.ex
  rcases hD with ⟨_, rfl⟩ | ⟨ne, _⟩
  · exact ⟨fun s us ws _ l1 l2 => .of_eq (h kV doc pm an cdv ct us ws l1 l2), fun r1 r2 => rel r1 r2⟩
  · exact absurd rfl ne
/-- the written values first, then those that were given by names, in the places' order -/
def kwP {α : Type} (ix : List Nat) (vs zs : List α) : List α := vs ++ ix.filterMap fun i => zs[i]?
theorem vals_get {zs : List V} {ws : List Value} (h : Vals zs ws) : ∀ i : Nat, (zs[i]? = none ∧ ws[i]? = none) ∨ ∃ v u, zs[i]? = some v ∧ ws[i]? = some u ∧ RelV v u := by
  induction h with
  | nil => exact fun i => .inl ⟨rfl, rfl⟩
  | cons r _ ih =>
    intro i
    cases i with
    | zero => exact .inr ⟨_, _, rfl, rfl, r⟩
    | succ j => exact ih j
theorem kwP_rel (ix : List Nat) {vs zs : List V} {us ws : List Value} (h1 : Vals vs us) (h2 : Vals zs ws) : Vals (kwP ix vs zs) (kwP ix us ws) := by
  refine h1.append ?_
  induction ix with
  | nil => exact .nil
  | cons i r ih =>
    rcases vals_get h2 i with ⟨e1, e2⟩ | ⟨v, u, e1, e2, q⟩
    · rw [List.filterMap_cons_none e1, List.filterMap_cons_none e2]
      exact ih
    · rw [List.filterMap_cons_some e1, List.filterMap_cons_some e2]
      exact .cons q ih
end U
namespace U
open PySem PySem.Spec PySem.Calls PyProof.Rows L2

/-! ### x == y where x is of a class with an __eq__ of its own -/
section
variable {X : Cx} {CX : CXT} {n : Nat} {C f : Addr} {fd : FuncData} {ps : List Str} {sp : Sp} {E : XK}
/-- str(x), x of a class with a __str__ of its own -/
def rStrO (C : Addr) (sp : Sp) (E : XK) : List V → Hp → VK → Prop := fun xs H Q => ∃ a dx fs, xs = [.ref a] ∧ H a = some (.ins C dx fs) ∧ sp xs H (fun v H' => ∃ z, v = .str z ∧ Q (.str z) H') E
theorem call_strO (F : FnOk X.prog X.w X.K X.mg X.base CX n f fd ps sp) (hs : PySem.W.findIn X.K (.ref C) "__str__" = some (some (.ref f))) (hf : PySem.W.isFn X.K (.ref f) = true) (hb : Binds X.K fd ps []) (hr : Room (n + 2) X.A) (hx : Passes CX X E) :
    CallR X (.type "str") (rStrO C sp E) := by
  intro ps' s σ H xs us Q I rr h
  rcases h with ⟨a, dx, fs, rfl, ha, q⟩
  obtain rfl := Vals.ref1 rr
  rcases ins_get I.hok ha with ⟨mA, J, _⟩
  obtain ⟨od, J, _⟩ := J.look
  have bb := hb s [.ref a] I.kIn (by rw [List.append_nil]; exact F.len _ _ _ _ q)
  rw [List.append_nil] at bb
  refine PySem.W.kso_call hr.in1.in1.units0 I.kIn J hs hf ?_
  refine wpAny_call (codeAny_mono (F.run X.A.in1.in1 X.stack s H ⟨[.ref a], []⟩ _ _ _ _ hr.in1.in1 I.env0.in1.in1 bb rr q) fun res s' out => ?_)
  match res, out with
  | .error er, out => exact hx ps' σ H s er s' I out
  | .ok (.ret z), out =>
    obtain ⟨vz, H', I', rz, y, ez, qq⟩ := I.after out
    subst ez
    obtain ⟨t, rfl⟩ := rz
    exact ⟨.str y, H', I', ⟨t, rfl⟩, qq⟩
  | .ok .next, out => exact out.elim
  | .ok .brk, out => exact out.elim
  | .ok .cont, out => exact out.elim
end
end U
namespace U
open PySem PySem.Spec PyProof.Rows L2

/-! ### the module's table of columns -/
/-! ### text.strip(signs), text.rfind(sign) -/
def rStrip : V → List V → Hp → VK → Prop := fun x xs H Q => ∃ a b, x = .str a ∧ xs = [.str b] ∧ a.length ≤ sizeLine ∧ Q (.str (Txt.stripChars a b)) H
theorem mt_stripU {X : Cx} : MtR X "str.strip" rStrip := mt_stripChars
theorem tw_mem {g : Nat → Bool} {l : List Nat} {x : Nat} (h : x ∈ l.takeWhile g) : g x = true := by
  induction l with
  | nil => cases h
  | cons a r ih =>
    rw [List.takeWhile_cons] at h
    split at h
    · rename_i e
      rcases List.mem_cons.mp h with rfl | hr
      · exact e
      · exact ih hr
    · cases h
theorem dw_nil {g : Nat → Bool} {l : List Nat} (h : ∀ x ∈ l, g x = true) : l.dropWhile g = [] := by
  induction l with
  | nil => rfl
  | cons a r ih =>
    rw [List.dropWhile_cons, if_pos (h a List.mem_cons_self)]
    exact ih fun x m => h x (List.mem_cons_of_mem _ m)
theorem strip_nil (a b : Str) : Txt.stripChars a b = "" ↔ ∀ c ∈ a.cps.toList, b.cps.contains c = true := by
  unfold Txt.stripChars
  rw [PySem.W.stripBy_eq]
  show Builtin.Str.strSub a (stripLo b.cps.contains true a) (stripHi b.cps.contains true a (stripLo b.cps.contains true a)) = "" ↔ _
  have el : stripLo b.cps.contains true a = (a.cps.toList.takeWhile b.cps.contains).length := rfl
  have eh : stripHi b.cps.contains true a (stripLo b.cps.contains true a) = a.length - ((a.cps.toList.drop (stripLo b.cps.contains true a)).reverse.takeWhile b.cps.contains).length := rfl
  have en : a.length = a.cps.toList.length := by show a.cps.size = _; simp
  rw [eh, el, en, strSub_mk]
  generalize a.cps.toList = L
  generalize b.cps.contains = g
  have e0 : ∀ l : List Nat, (⟨l.toArray⟩ : Str) = "" ↔ l = [] := fun l => by
    constructor
    · intro h
      have h2 : l.toArray = (#[] : Array Nat) := congrArg Str.cps h
      exact congrArg Array.toList h2
    · rintro rfl
      rfl
  rw [e0]
  have hd : L = L.takeWhile g ++ L.dropWhile g := (List.takeWhile_append_dropWhile).symm
  have e1 : L.drop (L.takeWhile g).length = L.dropWhile g := by
    conv => lhs; rw [hd]
    rw [List.drop_append_of_le_length (by simp), List.drop_of_length_le (by simp), List.nil_append]
  have hl : L.length = (L.takeWhile g).length + (L.dropWhile g).length := by
    conv => lhs; rw [hd]
    exact List.length_append
  rw [e1]
  constructor
  · intro h
    cases hD : L.dropWhile g with
    | nil =>
      rw [hD, List.append_nil] at hd
      intro c hc
      rw [hd] at hc
      exact tw_mem hc
    | cons d r =>
      exfalso
      have hgd : g d = false := by
        have := List.head?_dropWhile_not g L
        rw [hD] at this
        simpa using this
      have hlt : ((d :: r).reverse.takeWhile g).length ≤ r.length := by
        rw [List.reverse_cons]
        have hle := (List.takeWhile_prefix (p := g) (l := r.reverse ++ [d])).length_le
        rcases Nat.lt_or_ge ((r.reverse ++ [d]).takeWhile g).length (r.length + 1) with q | q
        · omega
        · have pe := (List.takeWhile_prefix (p := g) (l := r.reverse ++ [d])).eq_of_length (by simp at hle ⊢; omega)
          have hm : d ∈ (r.reverse ++ [d]).takeWhile g := by rw [pe]; simp
          rw [tw_mem hm] at hgd
          cases hgd
      rw [hD] at h hl
      rw [List.take_eq_nil_iff] at h
      rcases h with h | h
      · rw [List.length_cons] at hl
        omega
      · cases h
  · intro h
    have : L.dropWhile g = [] := dw_nil h
    rw [this]
    simp
end U
namespace U
open PySem PySem.Spec PyProof.Rows L2

/-! ### xs[k] += n -/
/-! ### zip(list, tuple) -/
def ItzM (K : PySem.W.Frag) (a b : Addr) : It :=
  ⟨fun i H => ∃ xs ys x y, SqL K H a xs ∧ (SqT K H b ys ∧ (xs[i]? = some x ∧ ys[i]? = some y)),
    fun i H v H' => ∃ T x y, v = .ref T ∧ (H T = none ∧ (H' = upd H T (.tup [x, y]) ∧ ((∀ xs, SqL K H a xs → xs[i]? = some x) ∧ ∀ ys, SqT K H b ys → ys[i]? = some y))),
    fun i H => ∃ xs ys, SqL K H a xs ∧ (SqT K H b ys ∧ (i ≤ xs.length ∧ (i ≤ ys.length ∧ (i = xs.length ∨ i = ys.length))))⟩
/-- the five cells of such a zip, and the two that it reads -/
structure ZCells (z TI TO i1 i2 a b : Addr) : Prop where
  n1 : TI ≠ z
  n2 : TO ≠ z
  n3 : TI ≠ TO
  n4 : TI ≠ i1
  n5 : TI ≠ i2
  n6 : z ≠ i1
  n7 : z ≠ i2
  n8 : TO ≠ i1
  n9 : TO ≠ i2
  n10 : i1 ≠ i2
  a1 : a ≠ z
  a2 : a ≠ TO
  a3 : a ≠ i1
  a4 : a ≠ i2
  b1 : b ≠ z
  b2 : b ≠ TO
  b3 : b ≠ i1
  b4 : b ≠ i2
theorem ZCells.sep {z TI TO i1 i2 a b : Addr} (c : ZCells z TI TO i1 i2 a b) : ZipSep2 z TI TO i1 i2 [i1, a] [i2, b] where
  TIz := c.n1
  TOz := c.n2
  TITO := c.n3
  TIi1 := c.n4
  mem1 := List.mem_cons_self
  zf1 := by simp [c.n6, c.a1.symm]
  Tf1 := by simp [c.n8, c.a2.symm]
  TIi2 := c.n5
  mem2 := List.mem_cons_self
  zf2 := by simp [c.n7, c.b1.symm]
  Tf2 := by simp [c.n9, c.b2.symm]
  sep1_2 := by simp [c.n10, c.b3.symm]
  sep2_1 := by simp [c.n10.symm, c.a4.symm]
theorem zcells_new (n a b : Nat) (la : a < n) (lb : b < n) : ZCells (n + 4) (n + 2) (n + 3) n (n + 1) a b := by
  constructor <;> (show ¬ ((_ : Nat) = _)) <;> omega
theorem five {z TI TO i1 i2 q : Addr} (h : q ∈ [z, TI, TO, i1, i2]) : q = z ∨ (q = TI ∨ (q = TO ∨ (q = i1 ∨ q = i2))) := by simpa using h
theorem turn_zipM {P : Program} {w : World} {K : PySem.W.Frag} {el : List Expr} {kk : Nat} {tp : Pos} {a b z TI TO i1 i2 : Addr} (C : ZCells z TI TO i1 i2 a b) :
    Turn P w K (.Tuple el kk tp) (ItzM K a b) [z, TI, TO, i1, i2] z (fun i h => IsZip h z TI TO .none ∧ (IsTupOf2 h TI (.ref i1) (.ref i2) ∧ ((∃ x y, IsTupOf2 h TO x y) ∧ (h.IsListIter i1 a i ∧ h.IsTupleIter i2 b i)))) where
  mem := by simp
  obj := fun i h st c hc => by
    obtain ⟨g1, g2, ⟨u, v, g3⟩, ⟨o1, e1, _, d1⟩, ⟨o2, e2, _, d2⟩⟩ := st
    rcases five hc with q | q | q | q | q <;> rw [q]
    · exact ⟨_, g1, fun v q => nomatch q⟩
    · exact ⟨_, g2, fun v q => nomatch q⟩
    · exact ⟨_, g3, fun v q => nomatch q⟩
    · refine ⟨o1, e1, fun v q => ?_⟩
      rw [d1] at q
      cases q
    · refine ⟨o2, e2, fun v q => ?_⟩
      rw [d2] at q
      cases q
  keep := fun i h h' st k => by
    obtain ⟨g1, g2, ⟨u, v, g3⟩, g4, g5⟩ := st
    exact ⟨k _ (by simp) _ g1, k _ (by simp) _ g2, ⟨u, v, k _ (by simp) _ g3⟩, g4.at fun o y => k _ (by simp) o y, g5.at fun o y => k _ (by simp) o y⟩
  item := by
    intro X hP hw hK hc
    intro i pins s σ H E I hf st hg
    subst hP hw hK
    obtain ⟨g1, g2, ⟨x0, y0, g3⟩, g4, g5⟩ := st
    obtain ⟨xs, ys, x, y, qx, qy, hx, hy⟩ := hg
    obtain ⟨us, r1, p1, _⟩ := I.list qx
    obtain ⟨vs, r2, p2, _⟩ := I.tuple qy
    obtain ⟨u, hu, ru⟩ := r1.get hx
    obtain ⟨v, hv, rv⟩ := r2.get hy
    have zl : z < s.heap.objs.size := Heap.lt_size g1
    have D1 := Draws.list (prog := X.prog) (w := X.w) (A := X.A.in1) (I.ok.hd hc) i1 a C.a3 us.toArray
    have D2 := Draws.tuple (prog := X.prog) (w := X.w) (A := X.A.in1) (I.ok.hd hc) i2 b C.b4 vs.toArray
    have lu : i < us.toArray.size := by simpa using (List.getElem?_eq_some_iff.mp hu).1
    have lv : i < vs.toArray.size := by simpa using (List.getElem?_eq_some_iff.mp hv).1
    refine wpAny_pyNext_zipD2_item C.sep D1 D2 g1 g2 g3 ⟨g4, p1.isList⟩ ⟨g5, p2⟩ lu lv fun x1 x2 h1 tk ex ey z1 t1 s1 s2 hT hsz hk => ?_
    obtain rfl : x1 = u := by
      have ex : us.toArray[i]? = some x1 := ex
      simp [hu] at ex
      exact ex.symm
    obtain rfl : x2 = v := by
      have ey : vs.toArray[i]? = some x2 := ey
      simp [hv] at ey
      exact ey.symm
    refine ⟨_, rfl, wpAny_letOwnedTupleGo_zip (s := { s with heap := h1, toks := tk }) z1 fun h2 z2 sb => ?_⟩
    have T2 : h2.get? s.heap.objs.size = some { cls := .type "tuple", data := .seq #[x1, x2] } := (sb.2 _ (Nat.ne_of_gt zl)).trans hT
    have new : ObjOk X.prog X.w (upd H s.heap.objs.size (.tup [x, y])) h2 s.heap.objs.size (.tup [x, y]) := ⟨by show 2 ≤ sizeLine; decide, [x1, x2], .cons ru (.cons rv .nil), ⟨_, T2, rfl, _, rfl⟩⟩
    have k2 : ∀ c o, c ≠ z → c ≠ TO → c ≠ i1 → c ≠ i2 → s.heap.get? c = some o → h2.get? c = some o := fun c o c1 c2 c3 c4 e => (sb.2 c c1).trans (hk c o c1 c2 c3 c4 e)
    have I1 : Inv X pins σ (upd H s.heap.objs.size (.tup [x, y])) { s with heap := h2, toks := tk } :=
      I.turnedNew (ch := [z, TI, TO, i1, i2]) (fun c o hb => k2 c o (fun e => hb (by simp [e])) (fun e => hb (by simp [e])) (fun e => hb (by simp [e])) fun e => hb (by simp [e])) hf (Nat.le_refl _) new
    refine ⟨.ref s.heap.objs.size, _, I1, rfl, ⟨_, x, y, rfl, I.hok.fresh (Nat.le_refl _), rfl, fun l hl => ?_, fun l hl => ?_⟩, ⟨z2, k2 _ _ C.n1 C.n3 C.n4 C.n5 g2, ⟨x1, x2, (sb.2 _ C.n2).trans t1⟩, ?_, ?_⟩, fun c hcm => ?_⟩
    · rw [I.list_inj hl qx]
      exact hx
    · rw [I.tuple_inj hl qy]
      exact hy
    · exact s1.1.at fun o q => (sb.2 _ C.n6.symm).trans q
    · exact s2.1.at fun o q => (sb.2 _ C.n7.symm).trans q
    · have below : c < s.heap.objs.size := by
        rcases five hcm with q | q | q | q | q
        · exact q ▸ zl
        · exact q ▸ Heap.lt_size g2
        · exact q ▸ Heap.lt_size g3
        · obtain ⟨_, e, _⟩ := g4
          exact q ▸ Heap.lt_size e
        · obtain ⟨_, e, _⟩ := g5
          exact q ▸ Heap.lt_size e
      rw [upd_ne (Nat.ne_of_lt below)]
      exact (hf c hcm).1
  done := by
    intro X hP hw hK hc
    intro i pins s σ H E I hf st hg
    subst hP hw hK
    obtain ⟨g1, g2, ⟨x0, y0, g3⟩, g4, g5⟩ := st
    obtain ⟨xs, ys, qx, qy, l1, l2, l3⟩ := hg
    obtain ⟨us, r1, p1, _⟩ := I.list qx
    obtain ⟨vs, r2, p2, _⟩ := I.tuple qy
    have e1 := r1.length
    have e2 := r2.length
    have D1 := Draws.list (prog := X.prog) (w := X.w) (A := X.A.in1) (I.ok.hd hc) i1 a C.a3 us.toArray
    have D2 := Draws.tuple (prog := X.prog) (w := X.w) (A := X.A.in1) (I.ok.hd hc) i2 b C.b4 vs.toArray
    refine wpAny_pyNext_zipD2_end C.sep D1 D2 g1 g2 g3 ⟨g4, p1.isList⟩ ⟨g5, p2⟩ (by simp; omega) (by simp; omega) (by simp; omega) fun h1 tk hk => ⟨rfl, I.turnedL (ch := [z, TI, TO, i1, i2]) (fun c o hb => hk c o (fun e => hb (by simp [e])) (fun e => hb (by simp [e])) (fun e => hb (by simp [e])) fun e => hb (by simp [e])) hf⟩
  self := fun _ _ _ _ _ st h => wpAny_pyIter_zip st.1 h
def iZipM (K : PySem.W.Frag) (ta : TA) : TI := fun σ H R => ta σ H fun vs H1 => ∃ a b xs ys, vs = [.ref a, .ref b] ∧ (SqL K H1 a xs ∧ (SqT K H1 b ys ∧ R (ItzM K a b) H1))
theorem pi_zipM {X : Cx} {f1 f2 : Expr} {ta : TA} {p pos tpos : Pos} {elts : List Expr} {kk : Nat} (hg : Gl X "zip") (hm : X.mg "zip" = none) (ha : PA X [f1, f2] ta)
    (hs : starEach [f1, f2] X.env = (false, eval f1 X.env) :: starEach [f2] X.env := by rfl) (hpl : (backTo pos (starEach [f2] X.env)).any (·.1) = false := by rfl) :
    PI X (.Tuple elts kk tpos) (.Call (.Name "zip" p) [f1, f2] [] pos) (iZipM X.K ta) := by
  refine .mk ?_
  intro pins s σ H R I h
  refine Call_ (ld_blt I hg hm boot_zip (PyProof.Rows.callWith_type1 (thn (ha.run pos pins s σ H _ I h) fun us s1 q0 => ?_) hs hpl))
  obtain ⟨vs, H1, I1, r1, a, b, xs, ys, ex, qx, qy, q⟩ := q0
  subst ex
  obtain ⟨v1, v2, rfl, rfl, rfl⟩ : ∃ v1 v2, us = [v1, v2] ∧ v1 = .ref a ∧ v2 = .ref b := by
    cases r1 with
    | cons r r2 =>
      cases r2 with
      | cons r' r3 =>
        cases r3
        cases r
        cases r'
        exact ⟨_, _, rfl, rfl, rfl⟩
  obtain ⟨xv, rv, p1, _⟩ := I1.list qx
  obtain ⟨yv, rw', p2, _⟩ := I1.tuple qy
  have lta : a < s1.heap.objs.size := p1.lt
  have lb : b < s1.heap.objs.size := by
    obtain ⟨o, ho, _⟩ := id p2
    exact Heap.lt_size ho
  refine zip_begins2 (begins_list a xv.toArray) (begins_tuple b yv.toArray) p1.isList p2 fun h1 hz hTI hTO g1 g2 hsz hk => wpAny_pyIter_zip hz ?_
  have I2 : Inv X pins σ H1 { s1 with heap := h1 } := I1.kept (t' := s1.toks) hk
  have C : ZCells (s1.heap.objs.size + 4) (s1.heap.objs.size + 2) (s1.heap.objs.size + 3) s1.heap.objs.size (s1.heap.objs.size + 1) a b := zcells_new s1.heap.objs.size a b lta lb
  refine ⟨s1.heap.objs.size + 4, [s1.heap.objs.size + 4, s1.heap.objs.size + 2, s1.heap.objs.size + 3, s1.heap.objs.size, s1.heap.objs.size + 1], _, _, H1, rfl, I2, turn_zipM C, ⟨hz, hTI, ⟨_, _, hTO⟩, ⟨_, g1, rfl, rfl⟩, ⟨_, g2, rfl, rfl⟩⟩, fun c hcm => ?_, q⟩
  have above : s1.heap.objs.size ≤ c := by
    rcases five hcm with e | e | e | e | e <;> rw [e]
    · exact Nat.le_add_right _ 4
    · exact Nat.le_add_right _ 2
    · exact Nat.le_add_right _ 3
    · exact Nat.le_refl _
    · exact Nat.le_add_right _ 1
  exact I1.fpOk above (I1.hok.fresh above)
/-- zip of a list and a list or a tuple -/
def iZipU (K : PySem.W.Frag) (ta : TA) : TI := fun σ H R => iZip K ta σ H R ∨ iZipM K ta σ H R
theorem pi_zipU {X : Cx} {f1 f2 : Expr} {ta : TA} {p pos tpos : Pos} {elts : List Expr} {kk : Nat} (hg : Gl X "zip") (hm : X.mg "zip" = none) (ha : PA X [f1, f2] ta)
    (hs : starEach [f1, f2] X.env = (false, eval f1 X.env) :: starEach [f2] X.env := by rfl) (hpl : (backTo pos (starEach [f2] X.env)).any (·.1) = false := by rfl) :
    PI X (.Tuple elts kk tpos) (.Call (.Name "zip" p) [f1, f2] [] pos) (iZipU X.K ta) := by
  refine .mk ?_
  intro pins s σ H R I h
  rcases h with h | h
  · exact (pi_zip hg hm ha hs hpl).run pins s σ H R I h
  · exact (pi_zipM hg hm ha hs hpl).run pins s σ H R I h
/-- what yields pairs -/
structure Zipped (J : It) (xs ys : List V) (G : Hp → Prop) : Prop where
  go : ∀ i H, G H → i < xs.length → i < ys.length → J.go i H
  yld : ∀ i H v H', G H → J.yld i H v H' → ∃ T x y, v = .ref T ∧ H T = none ∧ H' = upd H T (.tup [x, y]) ∧ xs[i]? = some x ∧ ys[i]? = some y
  stop : ∀ i H, G H → i ≤ xs.length → i ≤ ys.length → (i = xs.length ∨ i = ys.length) → J.stop i H
theorem zipped_LL {K : PySem.W.Frag} {a b : Addr} {xs ys : List V} : Zipped (Itz K a b) xs ys fun H => SqL K H a xs ∧ SqL K H b ys where
  go := fun i H g l1 l2 => ⟨xs, ys, xs[i], ys[i], g.1, g.2, List.getElem?_eq_getElem l1, List.getElem?_eq_getElem l2⟩
  yld := fun i H v H' g ⟨T, x, y, h1, h2, h3, h4, h5⟩ => ⟨T, x, y, h1, h2, h3, h4 xs g.1, h5 ys g.2⟩
  stop := fun i H g l1 l2 e => ⟨xs, ys, g.1, g.2, by omega⟩
end U
namespace U
open PySem PySem.Spec PyProof.Rows L2

/-! ### lists of small integers: their texts, and whether they are alike -/
theorem dp_ints {K : PySem.W.Frag} {H : Hp} {p : Addr} {ns : List Int} (h : SqL K H p (ns.map V.int)) : Dp K H (.ref p) (.list (ns.map PyData.int)) := by
  refine .lst h ?_
  clear h
  induction ns with
  | nil => exact .nil
  | cons n r ih => exact .cons (.int n) ih
section
variable {K : PySem.W.Frag} {H : Hp} {Q : VK} {p p' : Addr} {ns ms : List Int}
theorem ne_ints (h : SqL K H p (ns.map V.int)) (h' : SqL K H p' (ms.map V.int)) (q : Q (.bl (!decide (ns = ms))) H) : uNe K (.ref p) (.ref p') H Q := by
  refine ⟨_, _, dp_ints h, dp_ints h', PySem.W.ke_shaped_ints _, PySem.W.ke_shaped_ints _, ?_⟩
  rw [PyData.eqv, PySem.W.ked_eqvAll]
  exact q
end
/-! ### lists of texts -/
section
variable {K : PySem.W.Frag} {H : Hp}
end
end U
namespace U
open PySem PySem.Spec PyProof.Rows L2

/-! ### dict(zip(text, tuple)): a zip whose pair is still held by the loop that fills the dict -/
section
variable {P : Program} {w : World} {A : Around} {E : Value → Shared → Prop} {s : Shared} {z TI TO T i1 i2 : Addr} {fa fb : List Addr} {n m i : Nat} {R1 R2 : Nat → Value → Prop} {S1 S2 : Nat → Heap → Prop} {f : Bool} {oT : Obj}
end
end U
namespace U
open PySem PySem.Spec PyProof.Rows L2

/-! ### dict(zip(text, tuple)) -/
end U
namespace U
open PySem PySem.Spec PyProof.Rows L2

/-! ### str(x), by the kinds of x -/
end U
namespace U
open PySem PySem.Spec PyProof.Rows L2

/-! ### enumerate(tuple) -/
section
open Sem (wp)
end
end U
namespace U
open PySem PySem.Spec PyProof.Rows L2

/-! ### y = {k: v for ..} -/
section
variable {X : Cx}
end
end U
namespace U
open PySem PySem.Spec PyProof.Rows L2

/-! ### len(set(texts)), no text twice -/
section
variable {P : Program} {w : World} {A : Around} {E : Value → Shared → Prop} {xs : List Str} {items : Array Value}
local macro_rules | `(tactic| walk_at "g") => `(tactic| repeat (any_goals (first | assumption | wp_step)))
end
section
variable {X : Cx} {p p2 q pos : Pos} {a : Expr} {ta : TE}
end
end U
namespace U
open PySem PySem.Spec PySem.Calls PyProof.Rows L2
open PySem.HandSPX

/-! ### C(..) of an exception class of one's own, arguments by their names: nothing of the names is asked but by its __init__ -/
/-- at C: such a class; bm: what stands behind it in its line -/
def XClass (h : Heap) (C : Addr) (newId : String) (bm : List Value) : Prop := ∃ (nm q : Str) (N : Addr) (bs : List Value) (hd : Bool) (sn : List Str) (sub : List Value) (ab : Bool) (col : Option Bool) (dd : Option Addr) (k0 k1 k2 k3 k5 : Option Value),
  h.get? C = some (excClassObj nm q C N bs bm hd sn sub ab col dd k0 k1 k2 k3 k5 newId)
/-- its line ends as the base's -/
def EndsAs (bm bmB : List Value) : Prop := ∀ Y : String, bm.contains (.type Y) = bmB.contains (.type Y)
section
variable {m : Model} {P : Program} {W0 : World} {O : Around} {X : Value → Shared → Prop} {Z : Result → Shared → Prop} {y : Heap} {ge : Array GenState} {dr : Drawn} {tk : Nat} {os : OsState} {C : Addr} {bm bmB : List Value} {B nI iI : String} {xs : List Value} {kw : List (Str × Value)}
theorem in_line (e : EndsAs bm bmB) {Y : String} {b : Bool} (h : bmB.contains (.type Y) = b) : (Value.ref C :: bm).contains (.type Y) = b := by
  rw [List.contains_cons, e, h]
  rfl
theorem new_checked (fa : ExcBaseFacts B nI iI bmB) (e : EndsAs bm bmB) {R : Unit → Shared → Prop} (c : XClass y C nI bm) (r : R () ⟨y, ge, dr, tk, os⟩) : wpAny m O (checkBuiltinCall nI ⟨.ref C :: xs, kw⟩) R X ⟨y, ge, dr, tk, os⟩ := by
  obtain ⟨_, _, _, _, _, _, _, _, _, _, _, _, _, _, _, c⟩ := c
  have isB := in_line (C := C) e fa.hasB
  have st := fa.noStar
  simp only [checkBuiltinCall, fa.newKind, fa.newSplit, fa.newRow]
  repeat first
    | refine wpAny_loadPart_at c ?_
    | (refine wpAny_isSubtype_exc c ?_; rw [isB])
    | refine wpAny_staticBase_exc c ?_
    | refine wpAny_madeBy_exc c ?_
    | simp only [bne_self_eq_false, Bool.false_eq_true, if_false]
    | wp_step
  exact r
/-- the heap with the new exception and its arguments -/
def newX (y : Heap) (C : Addr) (xs : List Value) : Heap := (y.push (W.kdv_tup xs)).push (excO C y.objs.size)
theorem newX_keeps {y : Heap} {C : Addr} {xs : List Value} : ∀ b o, y.get? b = some o → (newX y C xs).get? b = some o := fun _ _ h => Heap.get?_push_of_some _ (Heap.get?_push_of_some _ h)
theorem newX_here {y : Heap} {C : Addr} {xs : List Value} : (newX y C xs).get? (y.objs.size + 1) = some (excO C y.objs.size) := by
  unfold newX
  heap_get
theorem new_made (fa : ExcBaseFacts B nI iI bmB) (e : EndsAs bm bmB) (c : XClass y C nI bm) (few : xs.length ≤ sizeLine) (r : Z (.ok (.ret (.ref (y.objs.size + 1)))) ⟨newX y C xs, ge, dr, tk, os⟩) : codeAny (model P W0) O (.builtin nI ⟨.ref C :: xs, kw⟩) Z ⟨y, ge, dr, tk, os⟩ := by
  obtain ⟨_, _, _, _, _, _, _, _, _, _, _, _, _, _, _, c⟩ := c
  have en := fa.ends
  have isB := in_line (C := C) e fa.hasB
  have noA := in_line (C := C) e fa.noAttr
  have noN := in_line (C := C) e fa.noName
  refine codeAny_builtinAt (fa.entry) ?_
  unfold PySem.Builtin.«BaseException.__new__»
  refine PySem.wpAt_bind (by
    change PySem.wpAt _ _ _ (stack >>= _) _ _ _
    refine PySem.wpAt_bind (PySem.wpAt_stack fun _ _ => PySem.wpAt_of_wpAny ?_)
    wp_walk
    refine PySem.wpAt_of_wpAny ?_
    rw [fa.owner]
    repeat first
      | with_reducible refine wpAny_madeHere_exc fa.canon c ?_
      | with_reducible refine wpAny_loadPart_at c ?_
      | (with_reducible refine wpAny_isSubtype_exc c ?_; first | rw [isB] | rw [noA] | rw [noN])
      | wp_step
    change Z _ _
    rw [Heap.size_push]
    exact r)
/-- its __init__ is asked with the same names; what it must come back with -/
def BackX (y : Heap) (R : Fin → Shared → Prop) (X : Value → Shared → Prop) : Result → Shared → Prop
  | .ok (.ret v), s => v = .none ∧ R (.done (.ret (.ref (y.objs.size + 1)))) s
  | .ok _, _ => False
  | .error e, s => X e s
theorem type_called (fa : ExcBaseFacts B nI iI bmB) (e : EndsAs bm bmB) (c : XClass y C nI bm) {f : Addr} {R : Fin → Shared → Prop} (hi : W.Looks (model P W0) y (typeLookup (.ref C) "__init__") (some (.ref f)))
    (hb : ∀ self, W.Looks (model P W0) y (bindSpecial (.ref f) self) (.ref f, [self])) (few : xs.length ≤ sizeLine)
    (r : codeAny (model P W0) O (.call (.ref f) ⟨.ref (y.objs.size + 1) :: xs, kw⟩) (BackX y R X) ⟨newX y C xs, ge, dr, tk, os⟩) : wpAny (model P W0) O (Builtin.«type.__call__» ⟨.ref C :: xs, kw⟩) R X ⟨y, ge, dr, tk, os⟩ := by
  obtain ⟨n1, n2, n3, n4, n5, n6, n7, n8, n9, n10, n11, n12, n13, n14, n15, c1⟩ := id c
  repeat first
    | with_reducible refine wpAny_loadPart_at c1 ?_
    | with_reducible refine wpAny_madeBy_exc c1 ?_
    | wp_step
  refine codeAny_call_builtin_code (Code.quiet_builtin _ fa.quiet) (new_checked fa e c (new_made fa e c few ?_))
  change wpAny _ _ _ _ _ _
  have c2 := newX_keeps (C := C) (xs := xs) _ _ c1
  have at_ := newX_here (y := y) (C := C) (xs := xs)
  have isC : (Value.ref C :: bm).contains (.ref C) = true := by simp
  have i2 := hi.keeps (newX_keeps (C := C) (xs := xs))
  have b2 := (hb (.ref (y.objs.size + 1))).keeps (newX_keeps (C := C) (xs := xs))
  unfold isInstance
  repeat first
    | with_reducible refine wpAny_loadPart_at at_ ?_
    | (with_reducible refine wpAny_isSubtype_exc c2 ?_; rw [isC])
    | wp_step
  change wpAny _ _ (typeLookup (.ref C) _) _ _ _
  refine i2.at (wpAny_holding (wpAny_bind (b2.at (wpAny_bind (wpAny_call (codeAny_mono r fun res s z => ?_))))))
  match res, z with
  | .error er, z => exact z
  | .ok .next, z => exact z.elim
  | .ok .brk, z => exact z.elim
  | .ok .cont, z => exact z.elim
  | .ok (.ret v), ⟨ev, z⟩ =>
    subst ev
    first
      | exact (wpAny_pure (wpAny_pure z))
      | (wp_walk; exact z)
theorem typecall_checked (c : XClass y C nI bm) {R : Unit → Shared → Prop} (r : R () ⟨y, ge, dr, tk, os⟩) : wpAny m O (checkBuiltinCall "type.__call__" ⟨.ref C :: xs, kw⟩) R X ⟨y, ge, dr, tk, os⟩ := by
  obtain ⟨_, _, _, _, _, _, _, _, _, _, _, _, _, _, _, c⟩ := c
  have sb := tc_sub
  have isT : (⟨y, ge, dr, tk, os⟩ : Shared).TypeIs (.ref C) "type" := ⟨_, c, rfl⟩
  simp only [checkBuiltinCall, tc_split, tc_kind]
  repeat any_goals first
    | assumption
    | with_reducible refine wpAny_loadPart_at c ?_
    | with_reducible refine wpAny_onRaise ?_
    | with_reducible refine wpAny_map ?_
    | wp_step
theorem exc_called (fa : ExcBaseFacts B nI iI bmB) (e : EndsAs bm bmB) (c : XClass y C nI bm) {f : Addr} (hi : W.Looks (model P W0) y (typeLookup (.ref C) "__init__") (some (.ref f)))
    (hb : ∀ self, W.Looks (model P W0) y (bindSpecial (.ref f) self) (.ref f, [self])) (few : xs.length ≤ sizeLine)
    (r : codeAny (model P W0) (O.under (.builtin "type.__call__" ⟨.ref C :: xs, kw⟩)) (.call (.ref f) ⟨.ref (y.objs.size + 1) :: xs, kw⟩) (W.InitBack (y.objs.size + 1) Z) ⟨newX y C xs, ge, dr, tk, os⟩) : codeAny (model P W0) O (.call (.ref C) ⟨xs, kw⟩) Z ⟨y, ge, dr, tk, os⟩ := by
  obtain ⟨n1, n2, n3, n4, n5, n6, n7, n8, n9, n10, n11, n12, n13, n14, n15, c1⟩ := id c
  have lo := tc_lookup
  have bi := tc_bind (.ref C)
  have isT : (⟨y, ge, dr, tk, os⟩ : Shared).TypeIs (.ref C) "type" := ⟨_, c1, rfl⟩
  refine codeAny_of_tree (by
    change wpAny _ _ (callAny (.ref C) _) _ _ _
    repeat any_goals first
      | assumption
      | with_reducible refine wpAny_loadPart_at c1 ?_
      | wp_step
    refine ⟨rfl, codeAny_call_builtin_at (Code.quiet_builtin _ (by decide +kernel)) entry_typeCall (typecall_checked c (type_called fa e c hi hb few (codeAny_mono r fun res s z => ?_)))⟩
    match res, z with
    | .error er, z => exact z
    | .ok .next, z => exact z
    | .ok .brk, z => exact z
    | .ok .cont, z => exact z
    | .ok (.ret v), z => exact z)
end
end U
namespace U
open PySem PySem.Spec PySem.Calls PyProof.Rows L2

/-- an own exception class whose objects may be made as values; ps: its __init__'s names -/
structure GoodE (P : Program) (w : World) (K : PySem.W.Frag) (mg : Str → Option Value) (base : Heap) (x : Str) (ps : List Str) (sp : Sp) : Prop where
  fn : ∃ fd, FnOk P w K mg base (L2.CX P w) 1 (He.ma K (He.ga K x) "__init__") fd ps sp ∧ Binds K fd ps []
  oc : OexC K (He.ga K x)
  ini : PySem.W.findIn K (.ref (He.ga K x)) "__init__" = some (some (.ref (He.ma K (He.ga K x) "__init__")))
  ty : PySem.W.typeIn K (.ref (He.ma K (He.ga K x) "__init__")) = some (.type "function")
  mg : mg x = some (.ref (He.ga K x))
/-- C(e, ..) as a value -/
def tMkX (K : PySem.W.Frag) (c : Str) (sp : Sp) (t : TA) : TE := fun σ H Q => t σ H fun vs H1 => vs.length ≤ 1000 ∧ ∀ a, H1 a = none → sp (.ref a :: vs) (upd H1 a (exo a (He.ga K c) none)) (fun v H2 => v = .non ∧ Q (.ref a) H2) E0
/-- C(k = v, ..) as a value: ix tells where the names' values go -/
def tMkXK (K : PySem.W.Frag) (c : Str) (m : Nat) (sp : Sp) (ix : List Nat) (t : TA) : TE := fun σ H Q => t σ H fun vs H1 => vs.length = m ∧ ∀ a, H1 a = none → sp (kwP ix [.ref a] vs) (upd H1 a (exo a (He.ga K c) none)) (fun v H2 => v = .non ∧ Q (.ref a) H2) E0
/-- C() of a class without an __init__ of its own -/
def tMkX0 (K : PySem.W.Frag) (c : Str) : TE := fun σ H Q => ∀ a, H a = none → Q (.ref a) (upd H a (exo a (He.ga K c) none))
section
variable {X : Cx} {c : Str} {ps : List Str} {sp : Sp} {p pos : Pos} {e : Expr} {es : List Expr} {t : TA}
/-- the state in which the __init__ begins -/
theorem exc_laid {pins : List (Addr × Obj)} {σ : L2.St} {H : Hp} {hp : Heap} {g : Array GenState} {dr : Drawn} {tk : Nat} {os : OsState} {us : List Value} {C : Addr} (I : Inv X pins σ H ⟨hp, g, dr, tk, os⟩) :
    Inv X pins σ (upd H (hp.objs.size + 1) (exo (hp.objs.size + 1) C none)) ⟨newX hp C us, g, dr, tk, os⟩ := by
  exact I.laid (t' := tk) (a := hp.objs.size + 1) (o := exo (hp.objs.size + 1) C none) (h' := newX hp C us) newX_keeps (Nat.le_succ _) (exo_ok newX_here)
theorem pe_mkX (g : GoodE X.prog X.w X.K X.mg X.base c ps sp) (hr : Room 2 X.A) (hg : Gl X c) (ha : PA X (e :: es) t)
    (hdb : (c == ("__debug__" : Str)) = false := by decide) (he : starEach (e :: es) X.env = (false, eval e X.env) :: starEach es X.env := by rfl) (hpl : (backTo pos (starEach es X.env)).any (·.1) = false := by rfl) :
    PE X (.Call (.Name c p) (e :: es) [] pos) (tMkX X.K c sp t) := by
  obtain ⟨fd, Fo, hb⟩ := g.fn
  refine .mk ?_
  intro pins s σ H Q I h
  obtain ⟨nm, q, N, bs, bm, sn, sub, ab, col, dd, k0, k1, k2, k3, k5, hC, hbm⟩ := g.oc.cls
  refine wpAny_Call_Name_kw (ld_glob I hg g.mg (PySem.W.callWith_K (h₀ := X.base) I.ok.mod.kin g.oc.kC (thn (ha.run pos pins s σ H _ I h) fun us s1 out => ?_) he hpl) hdb)
  obtain ⟨vs, H1, I1, r, few, q1⟩ := out
  refine ⟨I1.kIn, ?_⟩
  show wpAny _ _ (call (.ref (He.ga X.K c)) us) _ _ _
  obtain ⟨hp, gs, dr, tk, os⟩ := s1
  have hq := q1 (hp.objs.size + 1) (I1.hok.fresh (Nat.le_succ _))
  have I2 := exc_laid (us := us) (C := He.ga X.K c) I1
  have r2 : Vals (V.ref (hp.objs.size + 1) :: vs) (Value.ref (hp.objs.size + 1) :: us) := .cons rfl r
  have hl : (Value.ref (hp.objs.size + 1) :: us).length = ps.length := r2.length.symm.trans (Fo.len _ _ _ _ hq)
  have fewU : us.length ≤ sizeLine := Nat.le_trans (Nat.le_of_eq r.length.symm) (Nat.le_trans few (by decide))
  have bb := hb { heap := newX hp (He.ga X.K c) us, gens := gs, drawn := dr, toks := tk, os := os } (Value.ref (hp.objs.size + 1) :: us) I2.kIn (by rw [List.append_nil]; exact hl)
  rw [List.append_nil] at bb
  refine wpAny_call (exc_called F.excBase_ValueError (fun Y => PySem.HandSPX.refsVE_contains Y bm hbm) ⟨nm, q, N, bs, true, sn, sub, ab, col, dd, k0, k1, k2, k3, k5, I1.kIn _ _ hC⟩ (PySem.W.looks_findIn I1.kIn g.ini) (fun self => PySem.W.bind_fn I1.kIn self g.ty) fewU
    (codeAny_mono (Fo.run _ X.stack _ _ ⟨Value.ref (hp.objs.size + 1) :: us, []⟩ _ _ _ _ (hr.make (He.ga X.K c) us []) (I2.env0.make (He.ga X.K c) us []) bb r2 hq) fun res s' out => ?_))
  match res, out with
  | .error er, out => exact passL pins σ _ _ er s' I2 out
  | .ok (.ret u), out =>
    obtain ⟨v, H', I3, rv, ev, q3⟩ := I2.after out
    subst ev
    exact ⟨rv, ⟨V.ref (hp.objs.size + 1), H', I3, rfl, q3⟩⟩
  | .ok .next, out => exact out.elim
  | .ok .brk, out => exact out.elim
  | .ok .cont, out => exact out.elim
theorem pe_mkXK {ks : List Str} {ix : List Nat} {kws : List Keyword} (g : GoodE X.prog X.w X.K X.mg X.base c ps sp) (g2 : ∃ fd, FnOk X.prog X.w X.K X.mg X.base (L2.CX X.prog X.w) 1 (He.ma X.K (He.ga X.K c) "__init__") fd ps sp ∧ KBn X.K fd ps 1 ks (fun us ws => kwP ix us ws) (fun vs zs => kwP ix vs zs)) (hr : Room 2 X.A) (hg : Gl X c) (hkw : PK X kws t)
    (hdb : (c == ("__debug__" : Str)) = false := by decide) (hall : (backToKw pos (keywordEach kws X.env)).all (·.1.isSome) = true := by rfl) (hks : (backToKw pos (keywordEach kws X.env)).filterMap (·.1) = ks := by rfl)
    (hpl : ((backTo pos (starEach [] X.env)).any (·.1) || (backToKw pos (keywordEach kws X.env)).any fun q => q.1.isNone) = false := by rfl) :
    PE X (.Call (.Name c p) [] kws pos) (tMkXK X.K c ks.length sp ix t) := by
  obtain ⟨fd, Fo, hb⟩ := g2
  refine .mk ?_
  intro pins s σ H Q I h
  obtain ⟨nm, q, N, bs, bm, sn, sub, ab, col, dd, k0, k1, k2, k3, k5, hC, hbm⟩ := g.oc.cls
  refine wpAny_Call_Name_kw (ld_glob I hg g.mg (PySem.W.callWith_KW0 (first := []) (h₀ := X.base) I.ok.mod.kin g.oc.kC hall (thn (hkw.run pos pins s σ H _ I h) fun ws s1 out => ?_) hpl) hdb)
  obtain ⟨zs, H1, I1, rz, l2, q1⟩ := out
  refine ⟨I1.kIn, ?_⟩
  rw [hks]
  show wpAny _ _ (call (.ref (He.ga X.K c)) [] (ks.zip ws)) _ _ _
  obtain ⟨hp, gs, dr, tk, os⟩ := s1
  have hq := q1 (hp.objs.size + 1) (I1.hok.fresh (Nat.le_succ _))
  have I2 := exc_laid (us := []) (C := He.ga X.K c) I1
  have r1 : Vals [V.ref (hp.objs.size + 1)] [Value.ref (hp.objs.size + 1)] := .cons rfl .nil
  have r2 := hb.rel r1 rz
  have bb := hb.to { heap := newX hp (He.ga X.K c) [], gens := gs, drawn := dr, toks := tk, os := os } [Value.ref (hp.objs.size + 1)] ws I2.kIn rfl (rz.length.symm.trans l2)
  refine wpAny_call (exc_called F.excBase_ValueError (fun Y => PySem.HandSPX.refsVE_contains Y bm hbm) ⟨nm, q, N, bs, true, sn, sub, ab, col, dd, k0, k1, k2, k3, k5, I1.kIn _ _ hC⟩ (PySem.W.looks_findIn I1.kIn g.ini) (fun self => PySem.W.bind_fn I1.kIn self g.ty) (Nat.zero_le _)
    (codeAny_mono (Fo.run _ X.stack _ _ ⟨[Value.ref (hp.objs.size + 1)], ks.zip ws⟩ _ _ _ _ (hr.make (He.ga X.K c) [] (ks.zip ws)) (I2.env0.make (He.ga X.K c) [] (ks.zip ws)) bb r2 hq) fun res s' out => ?_))
  match res, out with
  | .error er, out => exact passL pins σ _ _ er s' I2 out
  | .ok (.ret u), out =>
    obtain ⟨v, H', I3, rv, ev, q3⟩ := I2.after out
    subst ev
    exact ⟨rv, ⟨V.ref (hp.objs.size + 1), H', I3, rfl, q3⟩⟩
  | .ok .next, out => exact out.elim
  | .ok .brk, out => exact out.elim
  | .ok .cont, out => exact out.elim
abbrev veMro : List Value := [.type "ValueError", .type "Exception", .type "BaseException", .type "object"]
theorem pe_mkX0 (q : PySem.W.excIn X.K (He.ga X.K c) veMro "ValueError.__new__" = true) (hm : X.mg c = some (.ref (He.ga X.K c))) (kC : PySem.W.keepIn X.K (.ref (He.ga X.K c)) = true) (hg : Gl X c)
    (hdb : (c == ("__debug__" : Str)) = false := by decide) : PE X (.Call (.Name c p) [] [] pos) (tMkX0 X.K c) := by
  refine .mk ?_
  intro pins s σ H Q I h
  refine wpAny_Call_Name_kw (ld_glob I hg hm (PySem.W.callWith_K0 I.kIn kC ?_) hdb)
  show wpAny _ _ (call (.ref (He.ga X.K c)) []) _ _ _
  obtain ⟨hp, gs, dr, tk, os⟩ := s
  obtain ⟨bm, N, nm, qn, bs, hdct, sn, sub, ab, col, dd, k0, k1, k2, k3, k5, mN, hC, hN, hni, T⟩ := exc_obj I.kIn q
  refine wpAny_call_exc_subT F.excBase_ValueError T hC hN hni (fun h' e mk => ?_) (Nat.zero_le _)
  obtain ⟨t1, he, _, _⟩ := mk.there
  have n := I.hok.gone mk.new
  exact ⟨.ref e, _, I.laidN (t' := tk) mk.keeps mk.new n (exo_ok he), rfl, h e n⟩
end
end U
namespace U
open PySem PySem.Spec PySem.Calls PyProof.Rows L2

/-! ### exceptions as values: isinstance and fields -/
/-- at a: an exception of the class at C, made, with its fields -/
def Exn (H : Hp) (a C : Addr) (fs : List (Str × V)) : Prop := (H a = some (exo a C none) ∧ fs = []) ∨ ∃ d, H a = some (exo a C (some d)) ∧ H d = some (exd d fs)
theorem Exn.same {H H' : Hp} {a C : Addr} {fs : List (Str × V)} (e : Same H H') (h : Exn H a C fs) : Exn H' a C fs := h.imp (fun ⟨x, y⟩ => ⟨e _ _ x, y⟩) fun ⟨d, x, y⟩ => ⟨d, e _ _ x, e _ _ y⟩
theorem inst_exd {X : Cx} {a C d : Addr} {pins : List (Addr × Obj)} {σ : L2.St} {H : Hp} {s : Shared} {fs : List (Str × V)} (I : Inv X pins σ H s) (ea : H a = some (exo a C (some d))) (ed : H d = some (exd d fs)) :
    ∃ oe od, PySem.W.InstAt s.heap a oe C (some od) ∧ ∀ n v, fs.lookup n = some v → ∃ u, PySem.W.lookIn n od = some (some u) ∧ RelV v u := by
  obtain ⟨t1, ho⟩ := exo_at I.hok ea
  obtain ⟨mA, ns, rel⟩ := exd_at I.hok ed
  obtain ⟨od, hod, look⟩ := lookIn_ns ns
  refine ⟨_, od, ⟨ho, rfl, rfl, hod⟩, fun n v e => ?_⟩
  obtain ⟨u, hu, ru⟩ := RelO.some_of (v := v) (o := mA n) (by rw [← e]; exact rel n)
  exact ⟨u, by rw [look, hu], ru⟩
theorem inst_exn {X : Cx} {a C : Addr} {pins : List (Addr × Obj)} {σ : L2.St} {H : Hp} {s : Shared} {fs : List (Str × V)} (I : Inv X pins σ H s) (h : Exn H a C fs) : ∃ oe od, PySem.W.InstAt s.heap a oe C od := by
  rcases h with ⟨ea, rfl⟩ | ⟨d, ea, ed⟩
  · obtain ⟨t1, ho⟩ := exo_at I.hok ea
    exact ⟨_, none, ho, rfl, rfl, trivial⟩
  · obtain ⟨oe, od, J, _⟩ := inst_exd I ea ed
    exact ⟨oe, some od, J⟩
/-- the kind of a value, exceptions too -/
def TyE (K : PySem.W.Frag) (H : Hp) (x : V) (t : Value) : Prop := TyX K H x t ∨ ∃ a C fs, x = .ref a ∧ t = .ref C ∧ ExcC K C ∧ Exn H a C fs
theorem kit_ofE {X : Cx} {pins : List (Addr × Obj)} {σ : L2.St} {H : Hp} {s : Shared} {x : V} {u t : Value} (I : Inv X pins σ H s) (rx : RelV x u) (ty : TyE X.K H x t) : ∃ P : Heap → Prop, PySem.W.KitX X.K u t P ∧ P s.heap ∧ u ≠ .builtin "__main__.__loader__#opaque" := by
  rcases ty with ty | ⟨a, C, fs, rfl, rfl, c, h⟩
  · exact kit_of I rx ty
  · cases (show u = Value.ref a from rx)
    obtain ⟨oe, od, J⟩ := inst_exn I h
    exact ⟨_, kit_exc c, ⟨od, J⟩, fun z => nomatch z⟩
def uIsiE (K : PySem.W.Frag) : List V → Hp → VK → Prop := fun xs H Q => match xs with
  | [x, .ty T] => ∃ t b, TyE K H x t ∧ PySem.W.kitOne K t (.type T) = some b ∧ Q (.bl b) H
  | [x, .ref c] => (∃ t b, TyE K H x t ∧ PySem.W.kitOne K t (.ref c) = some b ∧ Q (.bl b) H) ∨ ∃ cs us t b, H c = some (.tup cs) ∧ Paired ClsV cs us ∧ TyE K H x t ∧ PySem.W.kitAny K t us = some b ∧ Q (.bl b) H
  | _ => False
theorem call_uIsiE {X : Cx} : CallR X (.builtin "isinstance") (uIsiE X.K) := by
  intro ps s σ H xs us Q I r h
  have one : ∀ (x c : V) (t u : Value) (b : Bool), Vals [x, c] us → ClsV c u → TyE X.K H x t → PySem.W.kitOne X.K t u = some b → Q (.bl b) H → wpAny (model X.prog X.w) X.A (call (.builtin "isinstance") us) (EP X ps σ Q) X.xe s := by
    intro x c t u b r k ty e q
    rcases vals2 r with ⟨w, cw, rfl, rw', rc⟩
    cases k.eq rc
    rcases kit_ofE I rw' ty with ⟨P, Z, p, far⟩
    exact PySem.W.kia_one Z I.kIn p e far fun t2 => ⟨.bl b, H, I.tok t2, rfl, q⟩
  match xs, h with
  | [x, .ty T], ⟨t, b, h1, h2, q⟩ => exact one x _ t _ b r (.ty T) h1 h2 q
  | [x, .ref c], .inl ⟨t, b, h1, h2, q⟩ => exact one x _ t _ b r (.own c) h1 h2 q
  | [x, .ref tp], .inr ⟨cs, ws, t, b, hT, k, ty, e, q⟩ =>
    rcases vals2 r with ⟨w, cw, rfl, rw', rc⟩
    have ec : cw = Value.ref tp := rc
    subst ec
    rcases kit_ofE I rw' ty with ⟨P, Z, p, far⟩
    have tupOk : ObjOk X.prog X.w H s.heap tp (.tup cs) := I.hok tp _ hT
    rcases tupOk with ⟨_, its, rv, ⟨oc, od, dt, sl⟩, at_, isC, n, isD⟩
    cases ClsV.all k rv
    cases isC
    cases isD
    exact PySem.W.kia_tup Z I.kIn p at_ e far fun t2 => ⟨.bl b, H, I.tok t2, rfl, q⟩
/-- e.f of such an exception -/
def tXfE (K : PySem.W.Frag) (f : Str) (te : TE) : TE := fun σ H Q => te σ H fun x H1 => ∃ (a C : Addr) (fs : List (Str × V)) (v : V), x = .ref a ∧ XfC K C ∧ PySem.W.findIn K (.ref C) f = some none ∧ Exn H1 a C fs ∧ fs.lookup f = some v ∧ Q v H1
theorem pe_xfE {X : Cx} {e : Expr} {te : TE} {pos : Pos} {f : Str} (he : PE X e te) (plain : attributeBase e f X.env (eval e X.env) = eval e X.env := by rfl) : PE X (.Attribute e f pos) (tXfE X.K f te) := by
  refine .mk ?_
  intro ps s σ H Q I h
  refine attr_of plain (thn (he.run ps s σ H _ I h) fun u s1 out => ?_)
  obtain ⟨x, H1, I1, rx, a, C, fs, v, rfl, T, no, ex, look, q⟩ := out
  obtain rfl : u = Value.ref a := rx
  rcases ex with ⟨_, rfl⟩ | ⟨d, ea, ed⟩
  · cases look
  obtain ⟨oe, od, J, get⟩ := inst_exd I1 ea ed
  obtain ⟨u, hu, ru⟩ := get _ _ look
  exact HandSPX.exc_get I1.kIn J T.ga T.gg T.exC (PySem.W.findObj_own T.hdC no rfl hu) (handed_of ru) ⟨v, H1, I1.tok _, ru, q⟩
/-! ### the exceptions of the package -/
def excN : List Str := ["InvalidYard", "InvalidCount", "InvalidText"]
def excL : List Str := ["InvalidYard", "InvalidPrice", "InvalidText", "InvalidArrangement", "InvalidPlace", "InvalidWay", "InvalidCrate", "InvalidMove", "InvalidRow", "InvalidCount", "InvalidPattern", "InvalidPaper", "InvalidLot", "InvalidCosts", "InvalidLine", "NotAllowed", "TooMany", "NoWay", "UnlikeYards", "NoYard", "NothingToUndo", "NothingToRedo"]
def fldOf (x : Str) : List Str := if x = "NotAllowed" then ["index"] else if x = "TooMany" then ["count"] else if x = "NoWay" then ["start", "goal"] else ["value"]
/-- at the class of that name: a class of the ordinary kind -/
def tyAt (K : PySem.W.Frag) (x : Str) : Bool := (PySem.W.clsIn K (He.ga K x)).isSome && PySem.W.typeIn K (.ref (He.ga K x)) == some (.type "type")
/-- its line -/
def mroAt (K : PySem.W.Frag) (x : Str) (l : List Value) : Bool := (PySem.W.clsIn K (He.ga K x)).any fun cd => decide (cd.mro = l)
def veL (K : PySem.W.Frag) (x : Str) : List Value := [.ref (He.ga K x), .ref (He.ga K "CratesError"), .type "ValueError", .type "Exception", .type "BaseException", .type "object"]
def oneB (K : PySem.W.Frag) (x : Str) : Bool := tyAt K x && (mroAt K x (veL K x) && (decide (PySem.W.findIn K (.ref (He.ga K x)) "__getattribute__" = some (some (.builtin "BaseException.__getattribute__"))) && (decide (PySem.W.findIn K (.ref (He.ga K x)) "__getattr__" = some none) &&
  (PySem.W.hasDictIn K (He.ga K x) && (decide (PySem.W.findIn K (.ref (He.ga K x)) "__class__" = some (some (.builtin "object.__class__"))) && (fldOf x).all fun f => decide (PySem.W.findIn K (.ref (He.ga K x)) f = some none))))))
def clsNames : List Str := "Yard" :: "CratesError" :: excL
def xgB (K : PySem.W.Frag) : Bool := tyAt K "CratesError" && (tyAt K "Yard" && (mroAt K "Yard" [.ref (He.ga K "Yard"), .type "object"] && (decide (PySem.W.specialIn K (.builtin "object.__class__") "__get__" = some (some (.builtin "getset_descriptor.__get__"))) && (decide (PySem.W.takesIn K (.builtin "object.__class__") = some true) &&
  (decide ((clsNames.map (He.ga K)).Nodup) && excL.all (oneB K))))))
structure XG (K : PySem.W.Frag) : Prop where
  i : ∀ x ∈ excL, ∀ y ∈ excL, PySem.W.kitOne K (.ref (He.ga K x)) (.ref (He.ga K y)) = some (decide (y = x))
  b : ∀ x ∈ excL, PySem.W.kitOne K (.ref (He.ga K x)) (.ref (He.ga K "CratesError")) = some true
  ve : ∀ x ∈ excL, PySem.W.kitOne K (.ref (He.ga K x)) (.type "ValueError") = some true
  k : ∀ x ∈ excL, ∀ a : Ty, PySem.W.kitOne K (.ref (He.ga K x)) (a.v K) = some false
  p : ∀ a : Ty, ∀ x ∈ excL, PySem.W.kitOne K (a.v K) (.ref (He.ga K x)) = some false
  c : ∀ x ∈ excL, ExcC K (He.ga K x)
  f : ∀ x ∈ excL, XfC K (He.ga K x)
  v : ∀ x ∈ excL, ∀ f ∈ fldOf x, PySem.W.findIn K (.ref (He.ga K x)) f = some none
theorem mro_in {K : PySem.W.Frag} {x : Str} {l : List Value} (h : mroAt K x l = true) (ne : l.isEmpty = false) (b : Value) : PySem.W.mroIn K (He.ga K x) b = some (l.contains b) := by
  unfold mroAt at h
  obtain ⟨cd, hc, hd⟩ := PySem.W.any_some h
  have e := of_decide_eq_true hd
  unfold PySem.W.mroIn
  rw [hc, Option.bind_some, e, ne]
  rfl
theorem kit_at {K : PySem.W.Frag} {y : Str} {t : Value} {b : Bool} (h : tyAt K y = true) (ne : (t == .ref (He.ga K y)) = false) (s : PySem.W.subIn K t (.ref (He.ga K y)) = some b) : PySem.W.kitOne K t (.ref (He.ga K y)) = some b := by
  unfold PySem.W.kitOne
  rw [ne, if_neg (by decide)]
  show (if tyAt K y = true then PySem.W.subIn K t (.ref (He.ga K y)) else none) = some b
  rw [if_pos h, s]
theorem ga_inj {K : PySem.W.Frag} (h : (clsNames.map (He.ga K)).Nodup) {x y : Str} (hx : x ∈ clsNames) (hy : y ∈ clsNames) (n : x ≠ y) : He.ga K x ≠ He.ga K y := by
  obtain ⟨i, li, ei⟩ := List.mem_iff_getElem.mp hx
  obtain ⟨j, lj, ej⟩ := List.mem_iff_getElem.mp hy
  have key : ∀ (i j : Nat) (li : i < clsNames.length) (lj : j < clsNames.length), i < j → He.ga K clsNames[i] ≠ He.ga K clsNames[j] := fun i j li lj lt => by
    have := List.pairwise_iff_getElem.mp h i j (by rw [List.length_map]; exact li) (by rw [List.length_map]; exact lj) lt
    rw [List.getElem_map, List.getElem_map] at this
    exact this
  have ne : i ≠ j := by
    rintro rfl
    exact n (ei.symm.trans ej)
  rw [← ei, ← ej]
  rcases Nat.lt_or_gt_of_ne ne with lt | lt
  · exact key i j li lj lt
  · exact (key j i lj li lt).symm
theorem ref_ne {a b : Addr} (h : a ≠ b) : (Value.ref a == Value.ref b) = false := beq_eq_false_iff_ne.mpr fun z => h (Value.ref.inj z)
theorem ref_ty {a : Addr} {T : String} : (Value.ref a == Value.type T) = false := beq_eq_false_iff_ne.mpr fun z => nomatch z
theorem ty_ref {a : Addr} {T : String} : (Value.type T == Value.ref a) = false := beq_eq_false_iff_ne.mpr fun z => nomatch z
theorem exc_all : ∀ x ∈ excL, x ∈ clsNames ∧ x ≠ ("CratesError" : Str) ∧ x ≠ ("Yard" : Str) := by decide +kernel
theorem bas_all : ("CratesError" : Str) ∈ clsNames ∧ ("Yard" : Str) ∈ clsNames := by decide +kernel
theorem fast_no (T : String) (l : List Value) (h : PySem.fastBuiltinMro T = some l) (q : l.all (fun v => match v with | .type _ => true | _ => false) = true) (a : Addr) : l.contains (.ref a) = false := by
  refine Bool.eq_false_iff.mpr fun z => ?_
  have m := List.contains_iff_mem.mp z
  have := List.all_eq_true.mp q _ m
  cases this
theorem xG_ok {K : PySem.W.Frag} (h : xgB K = true) : XG K := by
  unfold xgB at h
  simp only [decide_eq_true_eq, Bool.and_eq_true] at h
  obtain ⟨hC, hY, mY, s1, s2, nd, all⟩ := h
  have one : ∀ x ∈ excL, tyAt K x = true ∧ mroAt K x (veL K x) = true ∧ PySem.W.findIn K (.ref (He.ga K x)) "__getattribute__" = some (some (.builtin "BaseException.__getattribute__")) ∧ PySem.W.findIn K (.ref (He.ga K x)) "__getattr__" = some none ∧ PySem.W.hasDictIn K (He.ga K x) = true ∧
      PySem.W.findIn K (.ref (He.ga K x)) "__class__" = some (some (.builtin "object.__class__")) ∧ ∀ f ∈ fldOf x, PySem.W.findIn K (.ref (He.ga K x)) f = some none := fun x hx => by
    have q := List.all_eq_true.mp all x hx
    unfold oneB at q
    simp only [decide_eq_true_eq, Bool.and_eq_true, List.all_eq_true] at q
    exact q
  have inj := fun {x y : Str} => ga_inj (K := K) nd (x := x) (y := y)
  have line : ∀ x ∈ excL, ∀ b, PySem.W.subIn K (.ref (He.ga K x)) b = some ((veL K x).contains b) := fun x hx b => mro_in (one x hx).2.1 rfl b
  have hs : ∀ x ∈ excL, PySem.W.subIn K (.ref (He.ga K x)) (.type "BaseException") = some true := fun x hx => by
    rw [line x hx]
    unfold veL
    simp only [List.contains_cons, beq_self_eq_true, Bool.true_or, Bool.or_true]
  have c : ∀ x ∈ excL, ExcC K (He.ga K x) := fun x hx => ⟨(one x hx).2.2.1, (one x hx).2.2.2.1, hs x hx, (one x hx).2.2.2.2.1, (one x hx).2.2.2.2.2.1, s1, s2, by
    have := line x hx (.type "object")
    unfold veL at this
    simp only [List.contains_cons, beq_self_eq_true, Bool.true_or, Bool.or_true] at this
    exact this⟩
  refine ⟨fun x hx y hy => ?_, fun x hx => ?_, fun x hx => ?_, fun x hx a => ?_, fun a x hx => ?_, c, fun x hx => ⟨(c x hx).hg, (c x hx).hk, (c x hx).hs, (c x hx).hd⟩, fun x hx => (one x hx).2.2.2.2.2.2⟩
  · by_cases e : y = x
    · subst e
      unfold PySem.W.kitOne
      rw [beq_self_eq_true, if_pos rfl, decide_eq_true rfl]
    · have n1 := inj (exc_all x hx).1 (exc_all y hy).1 fun z => e z.symm
      have n2 := inj (exc_all y hy).1 bas_all.1 (exc_all y hy).2.1
      refine kit_at (one y hy).1 (ref_ne n1) ?_
      rw [line x hx, decide_eq_false e]
      unfold veL
      simp only [List.contains_cons, List.contains_nil, ref_ne n1.symm, ref_ne n2, ref_ty, Bool.or_false]
  · have n1 := inj (exc_all x hx).1 bas_all.1 (exc_all x hx).2.1
    refine kit_at hC (ref_ne n1) ?_
    rw [line x hx]
    unfold veL
    simp only [List.contains_cons, beq_self_eq_true, Bool.true_or, Bool.or_true]
  · unfold PySem.W.kitOne
    rw [ref_ty, if_neg (by decide)]
    unfold PySem.W.kitCls
    dsimp only
    rw [if_pos (by decide +kernel), line x hx]
    unfold veL
    simp only [List.contains_cons, beq_self_eq_true, Bool.true_or, Bool.or_true]
  · have ty : ∀ T : String, PySem.W.kitMeta T = true → ([.type "ValueError", .type "Exception", .type "BaseException", .type "object"] : List Value).contains (.type T) = false → PySem.W.kitOne K (.ref (He.ga K x)) (.type T) = some false := fun T m q => by
      unfold PySem.W.kitOne
      rw [ref_ty, if_neg (by decide)]
      unfold PySem.W.kitCls
      dsimp only
      rw [if_pos m, line x hx]
      unfold veL
      rw [List.contains_cons, List.contains_cons, q, ty_ref, ty_ref]
      rfl
    cases a
    case yard =>
      have n1 := inj (exc_all x hx).1 bas_all.2 (exc_all x hx).2.2
      have n2 := inj bas_all.2 bas_all.1 (by decide +kernel)
      refine kit_at hY (ref_ne n1) ?_
      rw [line x hx]
      unfold veL
      simp only [List.contains_cons, List.contains_nil, ref_ne n1.symm, ref_ne n2, ref_ty, Bool.or_false]
    all_goals exact ty _ (by decide +kernel) (by decide +kernel)
  · have ty : ∀ (T : String) (l : List Value), PySem.fastBuiltinMro T = some l → l.all (fun v => match v with | .type _ => true | _ => false) = true → PySem.W.kitOne K (.type T) (.ref (He.ga K x)) = some false := fun T l e q => by
      refine kit_at (one x hx).1 ty_ref ?_
      unfold PySem.W.subIn
      dsimp only
      rw [e, Option.map_some, fast_no T l e q]
    cases a
    case yard =>
      have n1 := inj (exc_all x hx).1 bas_all.2 (exc_all x hx).2.2
      refine kit_at (one x hx).1 (ref_ne n1.symm) ?_
      show PySem.W.mroIn K (He.ga K "Yard") _ = _
      rw [mro_in mY rfl]
      simp only [List.contains_cons, List.contains_nil, ref_ne n1, ref_ty, Bool.or_false]
    all_goals exact ty _ _ (by rfl) (by rfl)
/-- y in d, d a dict -/
def rDIn : R2 := fun y x H Q => ∃ a o, x = .ref a ∧ DGet H a y o ∧ Q (.bl o.isSome) H
theorem op_dIn {X : Cx} (hu : X.A.units + 1 < cLine) : OpR X (compareOp .In) rDIn := by
  intro pins s σ H y x v u Q I ry rx h
  obtain ⟨a, o, rfl, g, q⟩ := h
  obtain rfl : u = Value.ref a := rx
  exact d_in hu I g ry fun s3 I3 => ⟨.bl o.isSome, H, I3, rfl, q⟩
end U
namespace U
open PySem PySem.Spec PyProof.Rows L2
def top (i : Nat) : Stmt := PySem.Challenge.pw_cratetowers_k01_exceptions.main.body.getD i (.Pass ⟨0, 0, 0, 0⟩)
abbrev s_InvalidYard_init : Stmt := inClass (top 3) 0
abbrev s_InvalidPrice_init : Stmt := inClass (top 4) 0
abbrev s_InvalidText_init : Stmt := inClass (top 5) 0
abbrev s_InvalidArrangement_init : Stmt := inClass (top 6) 0
abbrev s_InvalidPlace_init : Stmt := inClass (top 7) 0
abbrev s_InvalidWay_init : Stmt := inClass (top 8) 0
abbrev s_InvalidCrate_init : Stmt := inClass (top 9) 0
abbrev s_InvalidMove_init : Stmt := inClass (top 10) 0
abbrev s_InvalidRow_init : Stmt := inClass (top 11) 0
abbrev s_InvalidCount_init : Stmt := inClass (top 12) 0
abbrev s_InvalidPattern_init : Stmt := inClass (top 13) 0
abbrev s_InvalidPaper_init : Stmt := inClass (top 14) 0
abbrev s_InvalidLot_init : Stmt := inClass (top 15) 0
abbrev s_InvalidCosts_init : Stmt := inClass (top 16) 0
abbrev s_InvalidLine_init : Stmt := inClass (top 17) 0
abbrev s_NotAllowed_init : Stmt := inClass (top 18) 0
abbrev s_TooMany_init : Stmt := inClass (top 19) 0
abbrev s_NoWay_init : Stmt := inClass (top 20) 0
abbrev s_is_price : Stmt := top 32
abbrev s_is_integer : Stmt := top 33
abbrev s_is_integer_within : Stmt := top 34
abbrev s_is_numeral : Stmt := top 35
abbrev s_Yard_init : Stmt := inClass (top 38) 0
abbrev s_Yard_read : Stmt := inClass (top 38) 1
abbrev s_Yard_even : Stmt := inClass (top 38) 2
abbrev s_Yard_str : Stmt := inClass (top 38) 5
abbrev s__are_rows : Stmt := top 39
abbrev s__is_price_row : Stmt := top 40
abbrev s__is_yard_text : Stmt := top 41
abbrev s__is_line : Stmt := top 42
abbrev s__is_price_text : Stmt := top 43
abbrev s__price_text : Stmt := top 44
abbrev s__price_of : Stmt := top 45
abbrev s__law_cell : Stmt := top 47
abbrev s__law_bag : Stmt := top 48
abbrev s__law_take : Stmt := top 49
abbrev s__law_thing : Stmt := top 50
abbrev s__law_made : Stmt := top 51
abbrev s__law_named : Stmt := top 52
abbrev s__law_field : Stmt := top 53
abbrev s__law_kinds : Stmt := top 54
abbrev s__law_inner : Stmt := top 55
abbrev s__law_alike : Stmt := top 56
abbrev s__law_right : Stmt := top 57
abbrev s__law_raised : Stmt := top 58
abbrev s_law : Stmt := top 59
abbrev mkD (at_ : PySem.W.Frag → Addr) (nm qual : Str) (st : Stmt) : He5.DefA := ⟨at_, nm, qual, defArgs st, defBody st, defScope st, [], []⟩
def d_InvalidYard_init : He5.DefA := mkD (fun K => He.ma K (He.ga K "InvalidYard") "__init__") "__init__" "InvalidYard.__init__" s_InvalidYard_init
def d_InvalidPrice_init : He5.DefA := mkD (fun K => He.ma K (He.ga K "InvalidPrice") "__init__") "__init__" "InvalidPrice.__init__" s_InvalidPrice_init
def d_InvalidText_init : He5.DefA := mkD (fun K => He.ma K (He.ga K "InvalidText") "__init__") "__init__" "InvalidText.__init__" s_InvalidText_init
def d_InvalidArrangement_init : He5.DefA := mkD (fun K => He.ma K (He.ga K "InvalidArrangement") "__init__") "__init__" "InvalidArrangement.__init__" s_InvalidArrangement_init
def d_InvalidPlace_init : He5.DefA := mkD (fun K => He.ma K (He.ga K "InvalidPlace") "__init__") "__init__" "InvalidPlace.__init__" s_InvalidPlace_init
def d_InvalidWay_init : He5.DefA := mkD (fun K => He.ma K (He.ga K "InvalidWay") "__init__") "__init__" "InvalidWay.__init__" s_InvalidWay_init
def d_InvalidCrate_init : He5.DefA := mkD (fun K => He.ma K (He.ga K "InvalidCrate") "__init__") "__init__" "InvalidCrate.__init__" s_InvalidCrate_init
def d_InvalidMove_init : He5.DefA := mkD (fun K => He.ma K (He.ga K "InvalidMove") "__init__") "__init__" "InvalidMove.__init__" s_InvalidMove_init
def d_InvalidRow_init : He5.DefA := mkD (fun K => He.ma K (He.ga K "InvalidRow") "__init__") "__init__" "InvalidRow.__init__" s_InvalidRow_init
def d_InvalidCount_init : He5.DefA := mkD (fun K => He.ma K (He.ga K "InvalidCount") "__init__") "__init__" "InvalidCount.__init__" s_InvalidCount_init
def d_InvalidPattern_init : He5.DefA := mkD (fun K => He.ma K (He.ga K "InvalidPattern") "__init__") "__init__" "InvalidPattern.__init__" s_InvalidPattern_init
def d_InvalidPaper_init : He5.DefA := mkD (fun K => He.ma K (He.ga K "InvalidPaper") "__init__") "__init__" "InvalidPaper.__init__" s_InvalidPaper_init
def d_InvalidLot_init : He5.DefA := mkD (fun K => He.ma K (He.ga K "InvalidLot") "__init__") "__init__" "InvalidLot.__init__" s_InvalidLot_init
def d_InvalidCosts_init : He5.DefA := mkD (fun K => He.ma K (He.ga K "InvalidCosts") "__init__") "__init__" "InvalidCosts.__init__" s_InvalidCosts_init
def d_InvalidLine_init : He5.DefA := mkD (fun K => He.ma K (He.ga K "InvalidLine") "__init__") "__init__" "InvalidLine.__init__" s_InvalidLine_init
def d_NotAllowed_init : He5.DefA := mkD (fun K => He.ma K (He.ga K "NotAllowed") "__init__") "__init__" "NotAllowed.__init__" s_NotAllowed_init
def d_TooMany_init : He5.DefA := mkD (fun K => He.ma K (He.ga K "TooMany") "__init__") "__init__" "TooMany.__init__" s_TooMany_init
def d_NoWay_init : He5.DefA := mkD (fun K => He.ma K (He.ga K "NoWay") "__init__") "__init__" "NoWay.__init__" s_NoWay_init
def d_is_price : He5.DefA := mkD (fun K => He.ga K "is_price") "is_price" "is_price" s_is_price
def d_is_integer : He5.DefA := mkD (fun K => He.ga K "is_integer") "is_integer" "is_integer" s_is_integer
def d_is_integer_within : He5.DefA := mkD (fun K => He.ga K "is_integer_within") "is_integer_within" "is_integer_within" s_is_integer_within
def d_is_numeral : He5.DefA := mkD (fun K => He.ga K "is_numeral") "is_numeral" "is_numeral" s_is_numeral
def d_Yard_init : He5.DefA := mkD (fun K => He.ma K (He.ga K "Yard") "__init__") "__init__" "Yard.__init__" s_Yard_init
def d_Yard_read : He5.DefA := mkD (fun K => He5.wf K (He.ga K "Yard") "classmethod" "read") "read" "Yard.read" s_Yard_read
def d_Yard_even : He5.DefA := mkD (fun K => He5.wf K (He.ga K "Yard") "classmethod" "even") "even" "Yard.even" s_Yard_even
def d_Yard_str : He5.DefA := mkD (fun K => He.ma K (He.ga K "Yard") "__str__") "__str__" "Yard.__str__" s_Yard_str
def d__are_rows : He5.DefA := mkD (fun K => He.ga K "_are_rows") "_are_rows" "_are_rows" s__are_rows
def d__is_price_row : He5.DefA := mkD (fun K => He.ga K "_is_price_row") "_is_price_row" "_is_price_row" s__is_price_row
def d__is_yard_text : He5.DefA := mkD (fun K => He.ga K "_is_yard_text") "_is_yard_text" "_is_yard_text" s__is_yard_text
def d__is_line : He5.DefA := mkD (fun K => He.ga K "_is_line") "_is_line" "_is_line" s__is_line
def d__is_price_text : He5.DefA := mkD (fun K => He.ga K "_is_price_text") "_is_price_text" "_is_price_text" s__is_price_text
def d__price_text : He5.DefA := mkD (fun K => He.ga K "_price_text") "_price_text" "_price_text" s__price_text
def d__price_of : He5.DefA := mkD (fun K => He.ga K "_price_of") "_price_of" "_price_of" s__price_of
def d__law_cell : He5.DefA := mkD (fun K => He.ga K "_law_cell") "_law_cell" "_law_cell" s__law_cell
def d__law_bag : He5.DefA := mkD (fun K => He.ga K "_law_bag") "_law_bag" "_law_bag" s__law_bag
def d__law_take : He5.DefA := mkD (fun K => He.ga K "_law_take") "_law_take" "_law_take" s__law_take
def d__law_thing : He5.DefA := mkD (fun K => He.ga K "_law_thing") "_law_thing" "_law_thing" s__law_thing
def d__law_made : He5.DefA := mkD (fun K => He.ga K "_law_made") "_law_made" "_law_made" s__law_made
def d__law_named : He5.DefA := mkD (fun K => He.ga K "_law_named") "_law_named" "_law_named" s__law_named
def d__law_field : He5.DefA := mkD (fun K => He.ga K "_law_field") "_law_field" "_law_field" s__law_field
def d__law_kinds : He5.DefA := mkD (fun K => He.ga K "_law_kinds") "_law_kinds" "_law_kinds" s__law_kinds
def d__law_inner : He5.DefA := mkD (fun K => He.ga K "_law_inner") "_law_inner" "_law_inner" s__law_inner
def d__law_alike : He5.DefA := mkD (fun K => He.ga K "_law_alike") "_law_alike" "_law_alike" s__law_alike
def d__law_right : He5.DefA := mkD (fun K => He.ga K "_law_right") "_law_right" "_law_right" s__law_right
def d__law_raised : He5.DefA := mkD (fun K => He.ga K "_law_raised") "_law_raised" "_law_raised" s__law_raised
def d_law : He5.DefA := mkD (fun K => He.ga K "law") "law" "law" s_law
def fn : List He5.DefA := [d_InvalidYard_init, d_InvalidPrice_init, d_InvalidText_init, d_InvalidArrangement_init, d_InvalidPlace_init, d_InvalidWay_init, d_InvalidCrate_init, d_InvalidMove_init, d_InvalidRow_init, d_InvalidCount_init, d_InvalidPattern_init, d_InvalidPaper_init, d_InvalidLot_init, d_InvalidCosts_init, d_InvalidLine_init, d_NotAllowed_init, d_TooMany_init, d_NoWay_init, d_is_price, d_is_integer, d_is_integer_within, d_is_numeral, d_Yard_init, d_Yard_read, d_Yard_even, d_Yard_str, d__are_rows, d__is_price_row, d__is_yard_text, d__is_line, d__is_price_text, d__price_text, d__price_of, d__law_cell, d__law_bag, d__law_take, d__law_thing, d__law_made, d__law_named, d__law_field, d__law_kinds, d__law_inner, d__law_alike, d__law_right, d__law_raised, d_law]
def fa : List He.Fa := [.glo "CratesError", .glo "InvalidArrangement", .glo "InvalidCosts", .glo "InvalidCount", .glo "InvalidCrate", .glo "InvalidLine", .glo "InvalidLot", .glo "InvalidMove", .glo "InvalidPaper", .glo "InvalidPattern", .glo "InvalidPlace", .glo "InvalidPrice", .glo "InvalidRow", .glo "InvalidText", .glo "InvalidWay", .glo "InvalidYard", .glo "NoWay", .glo "NoYard", .glo "NotAllowed", .glo "NothingToRedo", .glo "NothingToUndo", .glo "TooMany", .glo "UnlikeYards", .glo "WAYS", .glo "Yard", .glo "_are_rows", .glo "_is_line", .glo "_is_price_row", .glo "_is_price_text", .glo "_is_yard_text", .glo "_law_alike", .glo "_law_bag", .glo "_law_cell", .glo "_law_field", .glo "_law_inner", .glo "_law_kinds", .glo "_law_made", .glo "_law_named", .glo "_law_raised", .glo "_law_right", .glo "_law_take", .glo "_law_thing", .glo "_price_of", .glo "_price_text", .glo "is_integer", .glo "is_integer_within", .glo "is_numeral", .glo "is_price", .glo "law", .int "MOST_CRATES" 60, .str "_BAR" "-", .str "_DIGITS" "0123456789", .free "ValueError", .free "all", .free "bool", .free "dict", .free "enumerate", .free "int", .free "isinstance", .free "len", .free "list", .free "max", .free "min", .free "range", .free "repr", .free "str", .free "tuple", .free "zip", .mkr "Yard", .meth "Yard" "__init__", .meth "Yard" "__str__"]
def ts : List He.Tab := []
def ex (K : PySem.W.Frag) : Bool := kfB K && sysB K && xFB "CratesError" excN K && crB K (He.ga K "Yard") && cmB K (He.ga K "Yard") "read" && crB K (He.ga K "Yard") && cmB K (He.ga K "Yard") "even" && excB K "InvalidArrangement" "value" && excB K "InvalidCosts" "value" && excB K "InvalidCount" "value" && excB K "InvalidCrate" "value" && excB K "InvalidLine" "value" && excB K "InvalidLot" "value" && excB K "InvalidMove" "value" && excB K "InvalidPaper" "value" && excB K "InvalidPattern" "value" && excB K "InvalidPlace" "value" && excB K "InvalidPrice" "value" && excB K "InvalidRow" "value" && excB K "InvalidText" "value" && excB K "InvalidWay" "value" && excB K "InvalidYard" "value" && excB K "NoWay" "start" && excB K "NotAllowed" "index" && excB K "TooMany" "count" && (xgB K && (decide (PySem.W.findIn K (.ref (He.ga K "NoWay")) "goal" = some none) && (PySem.W.excIn K (He.ga K "NoYard") veMro "ValueError.__new__" && PySem.W.keepIn K (.ref (He.ga K "NoYard"))) && (PySem.W.excIn K (He.ga K "NothingToRedo") veMro "ValueError.__new__" && PySem.W.keepIn K (.ref (He.ga K "NothingToRedo"))) && (PySem.W.excIn K (He.ga K "NothingToUndo") veMro "ValueError.__new__" && PySem.W.keepIn K (.ref (He.ga K "NothingToUndo"))) && (PySem.W.excIn K (He.ga K "UnlikeYards") veMro "ValueError.__new__" && PySem.W.keepIn K (.ref (He.ga K "UnlikeYards")))))
abbrev AlM : Type := (He.AlD × List (Option (List (Option (Str × Int))))) × Bool
def asM (g : Addr → Option Obj) (n : Nat) : List Addr := He5.asA g n ++ [sysModules]
def tabsM (ts : List He.Tab) (K : PySem.W.Frag) : List (Option (List (Option (Str × Int)))) := ts.map fun t => He.dicW K (t.1 K)
def keysM (ts : List He.Tab) (w : World) : List (Option (List (Option (Str × Int)))) := ts.map fun t => some (He.keysIn w.params t.2)
def obsM (n : Nat) (fa : List He.Fa) (fn : List He5.DefA) (ts : List He.Tab) (ex : PySem.W.Frag → Bool) (g : Addr → Option Obj) : AlM := ((He5.obsA fa fn (He.frG g (asM g n)), tabsM ts (He.frG g (asM g n))), ex (He.frG g (asM g n)))
def hookM (n : Nat) (fa : List He.Fa) (fn : List He5.DefA) (ts : List He.Tab) (ex : PySem.W.Frag → Bool) : PySem.W.Hook where
  α := AlM
  obs := fun s => obsM n fa fn ts ex s.heap.get?
  val := fun w => ((He5.valA fn, keysM ts w), true)
  says := fun w h => ∃ K : PySem.W.Frag, K.In h ∧ (He5.SaysA fa fn K ∧ tabsM ts K = keysM ts w) ∧ ex K = true
  of := fun _ _ e => ⟨_, He.frG_in, ⟨congrArg (fun z : AlM => z.1.1) e, congrArg (fun z : AlM => z.1.2) e⟩, congrArg (fun z : AlM => z.2) e⟩
  keeps := fun _ _ _ held kept => held.elim fun K z => ⟨K, z.1.keeps kept, z.2⟩
theorem obsM_eq {n : Nat} {fa : List He.Fa} {fn : List He5.DefA} {ts : List He.Tab} {ex : PySem.W.Frag → Bool} {g : Addr → Option Obj} {s : Shared} (h : ∀ a, g a = s.heap.get? a) : obsM n fa fn ts ex g = (hookM n fa fn ts ex).obs s := by
  obtain rfl : g = s.heap.get? := funext h
  rfl
abbrev RowR : PySem.W.OpenRow := PySem.W.OpenLaw.row PySem.Challenge.rw_cratetowers_k01_exceptions
abbrev hk : PySem.W.Hook := hookM 6 fa fn ts ex
def ob (s : PySem.W.SharedT) : AlM := obsM 6 fa fn ts ex (HandSHeadRun.getT s)
theorem ob_eq (s : PySem.W.SharedT) : ob s = hk.obs s.abs := obsM_eq (HandSHeadRun.getT_eq s)
def loose0 : List Str := [PySem.Str.ofString "_wall", PySem.Str.ofString "CratesError", PySem.Str.ofString "InvalidYard", PySem.Str.ofString "InvalidPrice", PySem.Str.ofString "InvalidText", PySem.Str.ofString "InvalidArrangement", PySem.Str.ofString "InvalidPlace", PySem.Str.ofString "InvalidWay", PySem.Str.ofString "InvalidCrate", PySem.Str.ofString "InvalidMove", PySem.Str.ofString "InvalidRow", PySem.Str.ofString "InvalidCount", PySem.Str.ofString "InvalidPattern", PySem.Str.ofString "InvalidPaper", PySem.Str.ofString "InvalidLot", PySem.Str.ofString "InvalidCosts", PySem.Str.ofString "InvalidLine", PySem.Str.ofString "NotAllowed", PySem.Str.ofString "TooMany", PySem.Str.ofString "NoWay", PySem.Str.ofString "UnlikeYards", PySem.Str.ofString "NoYard", PySem.Str.ofString "NothingToUndo", PySem.Str.ofString "NothingToRedo", PySem.Str.ofString "WAYS", PySem.Str.ofString "COLUMNS", PySem.Str.ofString "MOST_CRATES", PySem.Str.ofString "_DIGITS", PySem.Str.ofString "_BAR", PySem.Str.ofString "is_way"]
def loose1 : List Str := [PySem.Str.ofString "is_price", PySem.Str.ofString "is_integer", PySem.Str.ofString "is_integer_within", PySem.Str.ofString "is_numeral", PySem.Str.ofString "check_way", PySem.Str.ofString "check_crate", PySem.Str.ofString "Yard", PySem.Str.ofString "_are_rows", PySem.Str.ofString "_is_price_row", PySem.Str.ofString "_is_yard_text", PySem.Str.ofString "_is_line", PySem.Str.ofString "_is_price_text", PySem.Str.ofString "_price_text", PySem.Str.ofString "_price_of", PySem.Str.ofString "_law_cell", PySem.Str.ofString "_law_bag", PySem.Str.ofString "_law_take", PySem.Str.ofString "_law_thing", PySem.Str.ofString "_law_made", PySem.Str.ofString "_law_named", PySem.Str.ofString "_law_field", PySem.Str.ofString "_law_kinds", PySem.Str.ofString "_law_inner", PySem.Str.ofString "_law_alike", PySem.Str.ofString "_law_right", PySem.Str.ofString "_law_raised"]
def loose : List Str := loose0 ++ loose1
theorem run_f (w : World) : HandSHeadRun.RunEq RowR (PySem.W.view RowR.prog [59]) hk ob 20000 loose (w.withFollow "special-get-raises" false) := by
  intro os
  kernel_rfl
theorem run_t (w : World) : HandSHeadRun.RunEq RowR (PySem.W.view RowR.prog [59]) hk ob 20000 loose (w.withFollow "special-get-raises" true) := by
  intro os
  kernel_rfl
theorem run (w : World) : HandSHeadRun.RunEq RowR (PySem.W.view RowR.prog [59]) hk ob 20000 loose w :=
  PySem.W.byRow2 "special-get-raises" (P := fun w => HandSHeadRun.RunEq RowR (PySem.W.view RowR.prog [59]) hk ob 20000 loose w) run_f run_t w
end U
namespace U
open PySem PySem.Spec PyProof.Rows L2

/-! ### yards -/
def pV : Option Int → V
  | none => .non
  | some i => .int i
def SqA (K : PySem.W.Frag) (H : Hp) (p : Addr) (xs : List V) : Prop := SqL K H p xs ∨ SqT K H p xs
def okP : Option Int → Bool
  | none => true
  | some i => decide (0 < i)
/-- at y a yard of these rows -/
def Yd (K : PySem.W.Frag) (H : Hp) (y : Addr) (rows : List (List (Option Int))) : Prop :=
  ∃ (dx t : Addr) (as : List Addr), H y = some (.ins (He.ga K "Yard") dx [("_rows", .ref t), ("_reckoning", .non)]) ∧ SqT K H t (as.map V.ref) ∧ as.length = rows.length ∧ rows.length ≤ 60 ∧ 1 ≤ rows.length ∧
    (∀ (i : Nat) (a : Addr) (r : List (Option Int)), as[i]? = some a → rows[i]? = some r → SqT K H a (r.map pV)) ∧ ∀ r ∈ rows, r.length = 6 ∧ r.all okP = true
section
variable {K : PySem.W.Frag} {H H' : Hp}
theorem SqA.same {p : Addr} {xs : List V} (e : Same H H') (h : SqA K H p xs) : SqA K H' p xs := h.imp (Same.seq e) (Same.sqT e)
theorem Yd.same {y : Addr} {rows : List (List (Option Int))} (e : Same H H') (h : Yd K H y rows) : Yd K H' y rows := by
  obtain ⟨dx, t, as, h1, h2, h3, h4, h5, h6, h7⟩ := h
  exact ⟨dx, t, as, e _ _ h1, Same.sqT e h2, h3, h4, h5, fun i a r q1 q2 => Same.sqT e (h6 i a r q1 q2), h7⟩
theorem Is.same {x : V} {a : Ty} (e : Same H H') (h : Is K H x a) : Is K H' x a := by
  have key : ∀ t, TyX K H x t → TyX K H' x t := by
    intro t h
    cases h with
    | base b =>
      refine .base ?_
      cases b with
      | non => exact .non
      | bl b => exact .bl b
      | int i => exact .int i
      | str z => exact .str z
      | flt z => exact .flt z
      | lst q => exact .lst (e _ _ q)
      | frz q => exact .frz (e _ _ q)
      | tup q => exact .tup (e _ _ q)
      | dK q => exact .dK (e _ _ q)
      | dT q => exact .dT (e _ _ q)
      | ins q a b c d f => exact .ins (e _ _ q) a b c d f
    | byt b => exact .byt b
    | set q => exact .set (e _ _ q)
    | kList q c => exact .kList q c
    | kTuple q c => exact .kTuple q c
    | kDict q c => exact .kDict q c
    | fTuple q => exact .fTuple (e _ _ q)
    | fDict q => exact .fDict (e _ _ q)
  exact key _ h
end
/-- an exception c with the value v, from any later heap -/
def Rz (K : PySem.W.Frag) (c f : Str) (v : V) (H : Hp) (E : XK) : Prop := ∀ d H', Same H H' → H' d = none → E (.ref (He.ga K c)) (some d) (upd H' d (.xd [(f, v)]))
theorem Rz.same {K : PySem.W.Frag} {c f : Str} {v : V} {H H' : Hp} {E : XK} (e : Same H H') (h : Rz K c f v H E) : Rz K c f v H' E := fun d H2 s n => h d H2 (e.trans s) n
/-- raise C(x), x the i-th name -/
theorem rse_var {K : PySem.W.Frag} {c f : Str} {E : XK} {i : Nat} {v : V} {σ : L2.St} {H : Hp} {D : Ends} (hv : σ[i]? = some (some v)) (h : Rz K c f v H E) : tRse K c f E (tCons (tVar i) tNil) D σ H :=
  ⟨v, hv, rse_of fun d hd => h d H (Same.refl H) hd⟩

/-! ### what the small judges answer -/
def isI : V → Bool
  | .int _ => true
  | _ => false
def isIn (x : V) (l h : Int) : Bool := match x with
  | .int i => decide (l ≤ i) && decide (i ≤ h)
  | _ => false
def isPr : V → Bool
  | .int i => decide (0 < i)
  | _ => false
def isPB : V → Bool
  | .non => true
  | .int i => decide (0 < i)
  | _ => false
def sp_is_integer (K : PySem.W.Frag) : Sp := sp1 fun x H Q _ => ∃ a, Is K H x a ∧ Q (.bl (isI x)) H
def sp_is_integer_within (K : PySem.W.Frag) : Sp := sp3 fun x lo hi H Q _ => ∃ a l h, Is K H x a ∧ lo = .int l ∧ hi = .int h ∧ Q (.bl (isIn x l h)) H
def sp_is_price (K : PySem.W.Frag) : Sp := sp1 fun x H Q _ => ∃ a, Is K H x a ∧ Q (.bl (isPr x)) H
def t_is_integer (K : PySem.W.Frag) (E : XK) : TS := (tRet (tAndV (tCB (uIsi K) (tCons (tVar 0) (tCons (tC (.ty "int")) tNil))) (tNotV (tCB (uIsi K) (tCons (tVar 0) (tCons (tC (.ty "bool")) tNil))))))
def t_is_integer_within (K : PySem.W.Frag) (E : XK) : TS := (tRet (tAndV (tFn (sp_is_integer K) E (tCons (tVar 0) tNil)) (tChain uLe uLe (tVar 1) (tVar 0) (tVar 2))))
def t_is_price (K : PySem.W.Frag) (E : XK) : TS := (tRet (tAndV (tFn (sp_is_integer K) E (tCons (tVar 0) tNil)) (tOp uGt (tVar 0) (tC (.int 0)))))
section
variable {K : PySem.W.Frag} (F : KF K) {vs : List V} {H : Hp} {Q : VK} {E : XK}
theorem isi_ty {x : V} {a b : Ty} {T : String} (F : KF K) (hT : b.v K = .type T) (h : Is K H x a) (q : Q (.bl (a.sub b)) H) : uIsi K [x, .ty T] H Q := by
  have k := F.kit a b
  rw [hT] at k
  exact ⟨a.v K, a.sub b, h, k, q⟩
theorem Is.of_str {z : Str} {a : Ty} (h : Is K H (.str z) a) : a = .str := by
  have key : ∀ t, TyX K H (.str z) t → t = a.v K → a = .str := by
    intro t h e
    cases h with
    | base b =>
      cases b
      cases a <;> first | rfl | (injection e with e; exact absurd e (by decide)) | cases e
  exact key _ h rfl
theorem Is.of_int {z : Int} {a : Ty} (h : Is K H (.int z) a) : a = .int := by
  have key : ∀ t, TyX K H (.int z) t → t = a.v K → a = .int := by
    intro t h e
    cases h with
    | base b =>
      cases b
      cases a <;> first | rfl | (injection e with e; exact absurd e (by decide)) | cases e
  exact key _ h rfl
theorem Is.of_bl {z : Bool} {a : Ty} (h : Is K H (.bl z) a) : a = .bl := by
  have key : ∀ t, TyX K H (.bl z) t → t = a.v K → a = .bl := by
    intro t h e
    cases h with
    | base b =>
      cases b
      cases a <;> first | rfl | (injection e with e; exact absurd e (by decide)) | cases e
  exact key _ h rfl
/-! one step of a reading -/
local macro_rules | `(tactic| walk_at "w") => `(tactic| simp only [tRet, tAndV, tOrV, tNotV, tCB, tCons, tVar, tNil, tC, tOp, tSeq, tAsg, gName, tIfS, tDrop, tFn, tTup, tLst, tNext, tB, tTest, tNot, tAnd, tOr, tIf, tChain, tUn, rU, tFld,
  L2.start, List.map_cons, List.map_nil, List.length_cons, List.length_nil, List.replicate_succ, List.replicate_zero, List.append_nil, List.nil_append, List.cons_append, List.singleton_append, Nat.sub_self, Nat.zero_add, Nat.reduceAdd, Nat.reduceSub,
  List.getElem?_cons_zero, List.getElem?_cons_succ, List.set_cons_zero, List.set_cons_succ, Option.some.injEq, exists_eq_left, exists_eq_left', V.int.injEq, V.bl.injEq, V.str.injEq, V.ref.injEq,
  uAdd, uSub, uMul, uDiv, uMod, uPow, uCmp, uLt, uLe, uGt, uGe, uIs, uNis, sp1, sp2, sp3, sp4])

theorem isI_of {x : V} {a : Ty} (ha : Is K H x a) : isI x = (a.sub .int && !a.sub .bl) := by
  cases x with
  | int i => rw [ha.of_int]; rfl
  | bl b => rw [ha.of_bl]; rfl
  | _ =>
    have h1 : a ≠ .int := by
      rintro rfl
      obtain ⟨i, e⟩ := ha.int_inv
      cases e
    have h2 : a ≠ .bl := by
      rintro rfl
      obtain ⟨i, e⟩ := ha.bl_inv
      cases e
    simp [isI, Ty.sub, h1, h2]
include F in
theorem read_is_integer (h : sp_is_integer K vs H Q E) : t_is_integer K E { nx := fun _ H' => Q .non H', rt := Q } (start ["value"] vs) H := by
  match vs, h with
  | [x], ⟨a, ha, q⟩ =>
    unfold t_is_integer
    rw [isI_of ha] at q
    walk_at "w"
    refine isi_ty (b := .int) F rfl ha ?_
    walk_at "w"
    cases e : a.sub .int with
    | false => simpa [e] using q
    | true =>
      simp only [if_true]
      refine isi_ty (b := .bl) F rfl ha ?_
      simpa [e, TruV] using q
include F in
theorem read_is_integer_within (h : sp_is_integer_within K vs H Q E) : t_is_integer_within K E { nx := fun _ H' => Q .non H', rt := Q } (start ["value", "low", "high"] vs) H := by
  match vs, h with
  | [x, _, _], ⟨a, l, hi, ha, rfl, rfl, q⟩ =>
    unfold t_is_integer_within sp_is_integer
    walk_at "w"
    refine ⟨a, ha, ?_⟩
    cases x with
    | int i =>
      simp only [isI, V.bl.injEq, exists_eq_left', if_true]
      by_cases h1 : l ≤ i <;> by_cases h2 : i ≤ hi <;> simpa [isIn, h1, h2] using q
    | _ => simpa [isI, isIn] using q
include F in
theorem read_is_price (h : sp_is_price K vs H Q E) : t_is_price K E { nx := fun _ H' => Q .non H', rt := Q } (start ["value"] vs) H := by
  match vs, h with
  | [x], ⟨a, ha, q⟩ =>
    unfold t_is_price sp_is_integer
    walk_at "w"
    refine ⟨a, ha, ?_⟩
    cases x with
    | int i => simpa [isI, isPr] using q
    | _ => simpa [isI, isPr] using q
end
end U
namespace U
open PySem PySem.Spec PyProof.Rows L2

/-! ### heaps that keep all but one -/
def Off (D : Addr) (H H' : Hp) : Prop := ∀ b o, b ≠ D → H b = some o → H' b = some o
section
variable {K : PySem.W.Frag} {H H' H2 : Hp} {D a p : Addr} {xs l : List V} {o : HO}
theorem Same.off (h : Same H H') : Off D H H' := fun b o _ e => h b o e
theorem Off.trans (h : Off D H H') (g : Off D H' H2) : Off D H H2 := fun b o n e => g b o n (h b o n e)
theorem off_upd : Off D H (upd H D o) := fun b u n e => by rw [upd_ne n]; exact e
theorem Off.same (h : Off D H H') (n : H D = none) : Same H H' := fun b o e => h b o (ne_of_none e n) e
theorem Off.sqT (h : Off D H H') (hD : H D = some (.lst l)) (q : SqT K H a xs) : SqT K H' a xs := by
  rcases q with (q | ⟨o, q⟩) | q
  · exact .inl (.inl (h _ _ (by rintro rfl; rw [hD] at q; cases q) q))
  · exact .inl (.inr ⟨o, h _ _ (by rintro rfl; rw [hD] at q; cases q) q⟩)
  · exact .inr q
end
/-! ### what is walked without a change of the heap -/
structure Plain (J : It) (xs : List V) (G : Hp → Prop) : Prop where
  go : ∀ i H, G H → i < xs.length → J.go i H
  yld : ∀ i H x H', G H → J.yld i H x H' → H' = H ∧ (i < xs.length → xs[i]? = some x)
  stop : ∀ i H, G H → i = xs.length → J.stop i H
section
variable {K : PySem.W.Frag} {a : Addr} {xs : List V}
theorem plain_L : Plain (Itl K a) xs fun H => SqL K H a xs :=
  ⟨fun i H h lt => ⟨xs, xs[i], h, List.getElem?_eq_getElem lt⟩, fun i H x H' h ⟨e, q⟩ => ⟨e, fun _ => q xs h⟩, fun i H h e => ⟨xs, h, Nat.le_of_eq e.symm⟩⟩
theorem plain_T : Plain (Itt K a) xs fun H => SqT K H a xs :=
  ⟨fun i H h lt => ⟨xs, xs[i], h, List.getElem?_eq_getElem lt⟩, fun i H x H' h ⟨e, q⟩ => ⟨e, fun _ => q xs h⟩, fun i H h e => ⟨xs, h, Nat.le_of_eq e.symm⟩⟩
def intsL (lo : Int) (n : Nat) : List V := (List.range n).map fun (i : Nat) => V.int (lo + (i : Int))
theorem plain_R {lo : Int} {n : Nat} : Plain (Itr lo n) (intsL lo n) fun _ => True :=
  ⟨fun i H h lt => by
    have lt : i < n := by simpa [intsL] using lt
    exact lt, fun i H x H' h ⟨e, q2⟩ => ⟨e, fun lt => by
    subst q2
    have lt : i < n := by simpa [intsL] using lt
    simp [intsL, lt]⟩, fun i H h e => by
    have : i = n := by simpa [intsL] using e
    exact Nat.le_of_eq this.symm⟩
/-- the ends of a loop's body: N behind it -/
abbrev turnE (D : Ends) (N : L2.St → Hp → Prop) : Ends := { D with nx := N, ct := N, bk := D.nx }
theorem for_plain {J : It} {G : Hp → Prop} (P : Plain J xs G) {wi : TI} {g : TG} {tb : TS} {D : Ends} {σ : L2.St} {H : Hp} (hw : ∀ R : It → Hp → Prop, R J H → wi σ H R) (Pv : Nat → L2.St → Hp → Prop) (h0 : Pv 0 σ H) (hG : ∀ i σ H, Pv i σ H → G H)
    (hs : ∀ i x τ H, xs[i]? = some x → Pv i τ H → g x τ H fun ρ H2 => tb (turnE D (Pv (i + 1))) ρ H2) (hd : ∀ τ H, Pv xs.length τ H → D.nx τ H) : tFor wi g tb D σ H := by
  refine hw _ ?_
  have start0 : xs.length = xs.length - 0 ∧ 0 ≤ xs.length ∧ Pv 0 σ H := ⟨rfl, Nat.zero_le _, h0⟩
  refine ⟨fun i m τ H => m = xs.length - i ∧ i ≤ xs.length ∧ Pv i τ H, ⟨_, start0⟩, ?_⟩
  rintro i m σ H ⟨rfl, hi, p⟩
  have q := hG i σ H p
  by_cases hlt : i < xs.length
  · refine .inr ⟨P.go i H q hlt, Pv (i + 1), fun σ' H' p' => ⟨xs.length - (i + 1), by omega, rfl, hlt, p'⟩, fun x H' y => ?_⟩
    obtain ⟨rfl, hx⟩ := P.yld i H x H' q y
    exact hs i x σ H' (hx hlt) p
  · have atEnd : i = xs.length := Nat.le_antisymm hi (Nat.le_of_not_lt hlt)
    exact .inl ⟨P.stop i H q atEnd, hd σ H (atEnd ▸ p)⟩
theorem it_plain {J : It} {G : Hp → Prop} (P : Plain J xs G) {B : V → Hp → (Hp → Prop) → Prop} {H0 : Hp} {fin : Hp → Prop} (Pv : Nat → Hp → Prop) (h0 : Pv 0 H0) (hG : ∀ i H, Pv i H → G H)
    (hs : ∀ i x H, xs[i]? = some x → Pv i H → B x H (Pv (i + 1))) (hd : ∀ H, Pv xs.length H → fin H) : Laps J H0 fin B := by
  have start0 : xs.length = xs.length - 0 ∧ 0 ≤ xs.length ∧ Pv 0 H0 := ⟨rfl, Nat.zero_le _, h0⟩
  refine ⟨fun i m H => m = xs.length - i ∧ i ≤ xs.length ∧ Pv i H, ⟨_, start0⟩, ?_⟩
  rintro i m H ⟨rfl, hi, p⟩
  have q := hG i H p
  by_cases hlt : i < xs.length
  · refine .inr ⟨P.go i H q hlt, Pv (i + 1), fun H' p' => ⟨xs.length - (i + 1), by omega, rfl, hlt, p'⟩, fun x H' y => ?_⟩
    obtain ⟨rfl, hx⟩ := P.yld i H x H' q y
    exact hs i x H' (hx hlt) p
  · have atEnd : i = xs.length := Nat.le_antisymm hi (Nat.le_of_not_lt hlt)
    exact .inl ⟨P.stop i H q atEnd, hd H (atEnd ▸ p)⟩
theorem lc_plain {J : It} {G : Hp → Prop} (P : Plain J xs G) {g : TG} {tt : TT} {te : TE} {vs : List Nat} {σ : L2.St} {H1 : Hp} {D : Addr} {Qd : Hp → Prop} (Pv : Nat → Hp → Prop) (h0 : Pv 0 (upd H1 D (.lst []))) (hG : ∀ i H, Pv i H → G H)
    (hs : ∀ i x H, xs[i]? = some x → Pv i H → lcT g tt te vs σ D (Pv (i + 1)) x H) (hd : ∀ H, Pv xs.length H → Qd H) : LcB J g tt te vs σ H1 D Qd :=
  it_plain P Pv h0 hG hs hd
/-- [te for name j in ..], whose turns only make new things -/
theorem lc_grow {J : It} {G : Hp → Prop} (P : Plain J xs G) {te : TE} {j : Nat} {σ : L2.St} {H1 : Hp} {D : Addr} {Qd : Hp → Prop} (R : List V → Hp → Prop) (hD : H1 D = none) (hlen : xs.length ≤ sizeLine)
    (hG : ∀ H, Same H1 H → G H) (h0 : ∀ H, Same H1 H → R [] H) (hup : ∀ acc l H H', H D = some (.lst l) → Off D H H' → R acc H → R acc H')
    (hs : ∀ i x acc H (Q : VK), xs[i]? = some x → Same H1 H → acc.length = i → R acc H → (∀ y H4, Same H H4 → R (acc ++ [y]) H4 → Q y H4) → te (σ.set j (some x)) H Q)
    (hd : ∀ acc H, acc.length = xs.length → Same H1 H → H D = some (.lst acc) → R acc H → Qd H) : LcB J (gName j) tYes te [j] σ H1 D Qd := by
  refine lc_plain P (fun i H => ∃ acc, acc.length = i ∧ H D = some (.lst acc) ∧ Same H1 H ∧ R acc H) ⟨[], rfl, upd_same, same_new hD, h0 _ (same_new hD)⟩ (fun i H ⟨_, _, _, s, _⟩ => hG H s) ?_ (fun H ⟨acc, h1, h2, h3, h4⟩ => hd acc H h1 h3 h2 h4)
  rintro i x H hx ⟨acc, h1, h2, h3, h4⟩
  show wipe _ [j] = wipe σ [j] ∧ _
  refine ⟨by simp only [wipe, List.set_set], ?_⟩
  show te ((σ.set j none).set j (some x)) H _
  rw [List.set_set]
  have lt : i < xs.length := by
    rcases Nat.lt_or_ge i xs.length with q | q
    · exact q
    · rw [List.getElem?_eq_none q] at hx; cases hx
  refine hs i x acc H _ hx h3 h1 h4 fun y H4 s r => ⟨acc, s _ _ h2, by omega, acc ++ [y], by simp [h1], upd_same, ?_, ?_⟩
  · exact (Off.trans (Same.off (h3.trans s)) off_upd).same hD
  · exact hup _ acc _ _ (s _ _ h2) off_upd r
theorem for_rng1 {ta : TA} {g : TG} {tb : TS} {D : Ends} {σ : L2.St} {H : Hp} {n : Nat} (h : ∀ R : List V → Hp → Prop, R [.int n] H → ta σ H R) (hn : n ≤ 1000000000) (Pv : Nat → L2.St → Hp → Prop) (h0 : Pv 0 σ H)
    (hs : ∀ (i : Nat) σ H, i < n → Pv i σ H → g (.int i) σ H fun σ2 H2 => tb (turnE D (Pv (i + 1))) σ2 H2) (hd : ∀ σ H, Pv n σ H → D.nx σ H) : tFor (iRng1 ta) g tb D σ H := by
  have e : (intsL 0 n).length = n := by simp [intsL]
  have hw : ∀ R : It → Hp → Prop, R (Itr 0 n) H → iRng1 ta σ H R := fun R r => h _ ⟨_, rfl, by omega, by omega, by rw [Int.toNat_natCast]; exact r⟩
  refine for_plain plain_R hw Pv h0 (fun _ _ _ _ => trivial) (fun i x σ H hx p => ?_) (by rw [e]; exact hd)
  have lt : i < n := e ▸ (List.getElem?_eq_some_iff.mp hx).1
  have : x = .int i := by
    simp [intsL, lt] at hx
    exact hx.symm
  subst this
  exact hs i σ H lt p
end
end U
namespace U
open PySem PySem.Spec PyProof.Rows L2

theorem take_snoc {α : Type} (f : α → V) {acc : List V} {bs : List α} {i : Nat} {c : α} (ha : acc = (bs.take acc.length).map f) (hl : acc.length = i) (hc : bs[i]? = some c) : acc ++ [f c] = (bs.take (acc ++ [f c]).length).map f := by
  subst hl
  rw [List.length_append, List.length_singleton, List.take_succ, List.map_append, ← ha, hc]
  rfl
/-! ### rows of prices -/
def RowB (K : PySem.W.Frag) (H : Hp) (x : V) (b : Bool) : Prop := (∃ a, Is K H x a ∧ a ≠ .lst ∧ a ≠ .tup ∧ b = false) ∨
  ∃ p xs, x = .ref p ∧ SqA K H p xs ∧ (∀ v ∈ xs, ∃ a, Is K H v a) ∧ b = (decide (xs.length = 6) && xs.all isPB)
def RowsB (K : PySem.W.Frag) (H : Hp) (x : V) (b : Bool) : Prop := (∃ a, Is K H x a ∧ a ≠ .lst ∧ a ≠ .tup ∧ b = false) ∨
  ∃ (p : Addr) (xs : List V) (bs : List Bool), x = .ref p ∧ SqA K H p xs ∧ bs.length = xs.length ∧ (∀ (i : Nat) (v : V) (c : Bool), xs[i]? = some v → bs[i]? = some c → RowB K H v c) ∧ b = (decide (1 ≤ xs.length) && (decide (xs.length ≤ 60) && bs.all id))
section
variable {K : PySem.W.Frag} {H H' : Hp} {x : V} {b : Bool}
theorem RowB.same (e : Same H H') (h : RowB K H x b) : RowB K H' x b := by
  rcases h with ⟨a, h, r⟩ | ⟨p, xs, r, h, g, q⟩
  · exact .inl ⟨a, h.same e, r⟩
  · exact .inr ⟨p, xs, r, h.same e, fun v m => by
      obtain ⟨a, z⟩ := g v m
      exact ⟨a, z.same e⟩, q⟩
theorem RowsB.same (e : Same H H') (h : RowsB K H x b) : RowsB K H' x b := by
  rcases h with ⟨a, h, r⟩ | ⟨p, xs, bs, r, h, g, z, q⟩
  · exact .inl ⟨a, h.same e, r⟩
  · exact .inr ⟨p, xs, bs, r, h.same e, g, fun i v c h1 h2 => (z i v c h1 h2).same e, q⟩
theorem SqA.kind {p : Addr} {xs : List V} (h : SqA K H p xs) : ∃ a, Is K H (.ref p) a ∧ (a.sub .lst || a.sub .tup) = true := by
  rcases h with h | h
  · exact ⟨.lst, is_sqL h, rfl⟩
  · exact ⟨.tup, is_sqT h, rfl⟩
theorem isi_seq (F : KF K) {a : Ty} {p : Addr} {Q : VK} (hp : H p = some (.tup [.ty "list", .ty "tuple"])) (h : Is K H x a) (q : Q (.bl (a.sub .lst || a.sub .tup)) H) : uIsi K [x, .ref p] H Q := by
  refine .inr ⟨_, [.type "list", .type "tuple"], a.v K, _, hp, .cons (.ty _) (.cons (.ty _) .nil), h, ?_, q⟩
  show PySem.W.kitAny K (a.v K) [Ty.v K .lst, Ty.v K .tup] = _
  unfold PySem.W.kitAny
  rw [F.kit a .lst]
  cases a.sub .lst with
  | true => rfl
  | false =>
    show PySem.W.kitAny K (a.v K) [Ty.v K .tup] = _
    unfold PySem.W.kitAny
    rw [F.kit a .tup]
    cases a.sub .tup <;> rfl
theorem uLen_seq {p : Addr} {xs : List V} {Q : VK} (h : SqA K H p xs) (q : Q (.int xs.length) H) : uLen K [.ref p] H Q := ⟨xs, h, q⟩
theorem uEq_int {i j : Int} {Q : VK} : uEq K (.int i) (.int j) H Q = Q (.bl (decide (i = j))) H := rfl
theorem uEq_str {i j : Str} {Q : VK} : uEq K (.str i) (.str j) H Q = Q (.bl (decide (i = j))) H := rfl
theorem uNe_int {i j : Int} {Q : VK} : uNe K (.int i) (.int j) H Q = Q (.bl (!decide (i = j))) H := rfl
theorem uNe_str {i j : Str} {Q : VK} : uNe K (.str i) (.str j) H Q = Q (.bl (!decide (i = j))) H := rfl
theorem uAdd_int {i j : Int} {Q : VK} : uAdd (.int i) (.int j) H Q = Q (.int (i + j)) H := rfl
theorem uSub_int {i j : Int} {Q : VK} : uSub (.int i) (.int j) H Q = Q (.int (i - j)) H := rfl
theorem uMul_int {i j : Int} {Q : VK} : uMul (.int i) (.int j) H Q = (CMul i j ∧ Q (.int (i * j)) H) := rfl
theorem uDiv_int {i j : Int} {Q : VK} : uDiv (.int i) (.int j) H Q = (CDivW i j ∧ Q (.int (i / j)) H) := rfl
theorem uMod_int {i j : Int} {Q : VK} : uMod (.int i) (.int j) H Q = (0 < j ∧ Q (.int (i % j)) H) := rfl
theorem uPow_int {i j : Int} {Q : VK} : uPow (.int i) (.int j) H Q = (CPow i j ∧ Q (.int (i ^ j.toNat)) H) := rfl
theorem uLt_int {i j : Int} {Q : VK} : uLt (.int i) (.int j) H Q = Q (.bl (decide (i < j))) H := rfl
theorem uLe_int {i j : Int} {Q : VK} : uLe (.int i) (.int j) H Q = Q (.bl (decide (i ≤ j))) H := rfl
theorem uGt_int {i j : Int} {Q : VK} : uGt (.int i) (.int j) H Q = Q (.bl (decide (j < i))) H := rfl
theorem uGe_int {i j : Int} {Q : VK} : uGe (.int i) (.int j) H Q = Q (.bl (decide (j ≤ i))) H := rfl
theorem uAdd_str {i j : Str} {Q : VK} : uAdd (.str i) (.str j) H Q = (i.length + j.length ≤ sizeLine ∧ Q (.str (i ++ j)) H) := rfl
theorem uMul_str {i : Str} {n : Int} {Q : VK} : uMul (.str i) (.int n) H Q = (0 ≤ n ∧ n ≤ 1000 ∧ i.length ≤ 10000 ∧ Q (.str (Txt.mul i n)) H) := rfl
theorem uIs_non {Q : VK} : uIs x .non H Q = Q (.bl (decide (x = .non))) H := rfl
theorem uNis_non {Q : VK} : uNis x .non H Q = Q (.bl (!decide (x = .non))) H := rfl
theorem uIs_bl {a c : Bool} {Q : VK} : uIs (.bl a) (.bl c) H Q = Q (.bl (decide (a = c))) H := rfl
theorem uNis_bl {a c : Bool} {Q : VK} : uNis (.bl a) (.bl c) H Q = Q (.bl (!decide (a = c))) H := rfl
theorem uSl_str {z : Str} {lo hi : Option Int} {Q : VK} : uSl K (.str z) lo hi H Q = (z.length ≤ sizeLine ∧ Q (.str (cutS z lo hi)) H) := rfl
theorem uLen_str {z : Str} {Q : VK} : uLen K [.str z] H Q = (z.length ≤ sizeLine ∧ Q (.int z.length) H) := rfl
theorem seq_ {a b : TS} {D : Ends} {σ : L2.St} {H : Hp} (h : a { D with nx := b D } σ H) : tSeq a b D σ H := h
theorem tVar_eq {i : Nat} {σ : L2.St} {v : V} (h : σ[i]? = some (some v)) (Q : VK) : tVar i σ H Q = Q v H := by
  unfold tVar
  simp [h]
theorem tLc_seq {t : TE} {σ : L2.St} {g : TG} {tt : TT} {te : TE} {vs : List Nat} {Q : VK} {p : Addr} {xs : List V} (h : SqA K H p xs) (ht : ∀ Q, t σ H Q = Q (.ref p) H)
    (hc : ∀ (J : It) (G : Hp → Prop), Plain J xs G → (∀ H', Same H H' → G H') → ∀ D, H D = none → LcB J g tt te vs σ H D (Q (.ref D))) : tLc (iSeq K t) g tt te vs σ H Q := by
  rcases h with h | h
  · refine .inl ?_
    show t σ H _
    rw [ht]
    exact ⟨p, rfl, ⟨xs, h⟩, hc _ _ plain_L fun H' e => Same.seq e h⟩
  · refine .inr ?_
    show t σ H _
    rw [ht]
    exact ⟨p, rfl, ⟨xs, h⟩, hc _ _ plain_T fun H' e => Same.sqT e h⟩
end
def sp__is_price_row (K : PySem.W.Frag) : Sp := sp1 fun x H Q _ => ∃ b, RowB K H x b ∧ ∀ H', Same H H' → Q (.bl b) H'
def sp__are_rows (K : PySem.W.Frag) : Sp := sp1 fun x H Q _ => ∃ b, RowsB K H x b ∧ ∀ H', Same H H' → Q (.bl b) H'
def t__is_price_row (K : PySem.W.Frag) (E : XK) : TS := (tRet (tAndV (tCB (uIsi K) (tCons (tVar 0) (tCons (tTup (tCons (tC (.ty "list")) (tCons (tC (.ty "tuple")) tNil))) tNil))) (tAndV (tOp (uEq K) (tCB (uLen K) (tCons (tVar 0) tNil)) (tCB (uLen K) (tCons (tC (.ref (He.ga K "WAYS"))) tNil))) (tCB (rAll K) (tCons (tLc (iSeq K (tVar 0)) (gName 1) tYes (tOrV (tOp uIs (tVar 1) (tC .non)) (tFn (sp_is_price K) E0 (tCons (tVar 1) tNil))) [1]) tNil)))))
def t__are_rows (K : PySem.W.Frag) (E : XK) : TS := (tRet (tAndV (tCB (uIsi K) (tCons (tVar 0) (tCons (tTup (tCons (tC (.ty "list")) (tCons (tC (.ty "tuple")) tNil))) tNil))) (tAndV (tChain uLe uLe (tC (.int 1)) (tCB (uLen K) (tCons (tVar 0) tNil)) (tC (.int 60))) (tCB (rAll K) (tCons (tLc (iSeq K (tVar 0)) (gName 1) tYes (tFn (sp__is_price_row K) E0 (tCons (tVar 1) tNil)) [1]) tNil)))))
section
variable {K : PySem.W.Frag} (F : KF K) {vs : List V} {H : Hp} {Q : VK} {E : XK}
local macro_rules | `(tactic| walk_at "w") => `(tactic| try simp only [turnE, lcT, Snoc, tRet, tRetN, tAndV, tOrV, tNotV, tCB, tCons, tVar, tNil, tC, tOp, tSeq, tAsg, gName, gSub, tIfS, tDrop, tFn, tTup, tLst, tNext, tB, tTest, tNot, tAnd, tOr, tIf, tChain, tUn, rU, tFld, tPart, tNoPart, L2.tSl, tBM, tPar, tPar3, tTruth, tDNewK,
  L2.start, List.map_cons, List.map_nil, List.length_cons, List.length_nil, List.replicate_succ, List.replicate_zero, List.append_nil, List.nil_append, List.cons_append, List.singleton_append, Nat.sub_self, Nat.zero_add, Nat.reduceAdd, Nat.reduceSub,
  List.getElem?_cons_zero, List.getElem?_cons_succ, List.set_cons_zero, List.set_cons_succ, Option.some.injEq, exists_eq_left, exists_eq_left', V.int.injEq, V.bl.injEq, V.str.injEq, V.ref.injEq,
  uAdd_int, uAdd_str, uSub_int, uMul_int, uMul_str, uDiv_int, uMod_int, uPow_int, uLt_int, uLe_int, uGt_int, uGe_int, uIs_non, uNis_non, uIs_bl, uNis_bl, sp1, sp2, sp3, sp4, uEq_int, uEq_str, uNe_int, uNe_str, uSl_str, uLen_str, decide_eq_true_eq])
local macro_rules | `(tactic| walk_at "1") => `(tactic| try simp only [turnE, lcT, Snoc, tRet, tRetN, tAndV, tOrV, tNotV, tCB, tCons, tVar, tNil, tC, tOp, tAsg, gName, gSub, tIfS, tDrop, tFn, tTup, tLst, tNext, tB, tTest, tNot, tAnd, tOr, tIf, tChain, tUn, rU, tFld, tPart, tNoPart, L2.tSl, tBM, tPar, tPar3, tTruth, tDNewK,
  L2.start, List.map_cons, List.map_nil, List.length_cons, List.length_nil, List.replicate_succ, List.replicate_zero, List.append_nil, List.nil_append, List.cons_append, List.singleton_append, Nat.sub_self, Nat.zero_add, Nat.reduceAdd, Nat.reduceSub,
  List.getElem?_cons_zero, List.getElem?_cons_succ, List.set_cons_zero, List.set_cons_succ, Option.some.injEq, exists_eq_left, exists_eq_left', V.int.injEq, V.bl.injEq, V.str.injEq, V.ref.injEq,
  uAdd_int, uAdd_str, uSub_int, uMul_int, uMul_str, uDiv_int, uMod_int, uPow_int, uLt_int, uLe_int, uGt_int, uGe_int, uIs_non, uNis_non, uIs_bl, uNis_bl, sp1, sp2, sp3, sp4, uEq_int, uEq_str, uNe_int, uNe_str, uSl_str, uLen_str, decide_eq_true_eq])
local macro_rules | `(tactic| walk_at "s") => `(tactic| ((try dsimp only [turnE]); with_reducible refine seq_ ?_))

include F in
theorem read__is_price_row (h : sp__is_price_row K vs H Q E) : t__is_price_row K E { nx := fun _ H' => Q .non H', rt := Q } (start ["value", "price"] vs) H := by
  match vs, h with
  | [x], ⟨b, hb, q⟩ =>
    unfold t__is_price_row
    walk_at "w"
    refine ⟨by decide, fun p hp => ?_⟩
    have e1 : Same H (upd H p (.tup [.ty "list", .ty "tuple"])) := same_new hp
    have hb1 := hb.same e1
    have hp1 : upd H p (.tup [.ty "list", .ty "tuple"]) p = some (.tup [.ty "list", .ty "tuple"]) := upd_same
    generalize upd H p (.tup [.ty "list", .ty "tuple"]) = H1 at *
    rcases hb1 with ⟨a, h1, h2, h3, rfl⟩ | ⟨r, xs, rfl, h1, h2, rfl⟩
    · refine isi_seq F hp1 h1 ?_
      have : (a.sub .lst || a.sub .tup) = false := by cases a <;> first | rfl | exact absurd rfl h2 | exact absurd rfl h3
      rw [this]
      exact ⟨_, rfl, q _ e1⟩
    · obtain ⟨a, ka, ks⟩ := h1.kind
      refine isi_seq F hp1 ka ?_
      rw [ks]
      refine ⟨_, rfl, ?_⟩
      rw [if_pos rfl]
      refine uLen_seq h1 (uLen_seq (.inr (F.ways H1)) ⟨_, rfl, ?_⟩)
      by_cases e : xs.length = 6
      · rw [decide_eq_true (by simp [e]), if_pos rfl]
        refine tLc_seq (p := r) h1 (tVar_eq rfl) fun J G P hG D hD => ?_
        refine lc_grow P (fun acc _ => acc = ((xs.map isPB).take acc.length).map V.bl) hD (by rw [e]; decide) hG (fun _ _ => rfl) (fun _ _ _ _ _ _ h => h) ?_ ?_
        · rintro i y acc H2 Q' hy s hl ha k
          obtain ⟨a, z⟩ := h2 y (List.mem_of_getElem? hy)
          have k := k (.bl (isPB y)) H2 (Same.refl _) (take_snoc V.bl ha hl (by simp [hy]))
          unfold sp_is_price
          walk_at "w"
          cases y with
          | non => simpa [isPB] using k
          | _ =>
            simp only [reduceCtorEq, decide_false, Bool.false_eq_true, if_false]
            refine ⟨a, z.same s, ?_⟩
            simpa [isPB, isPr] using k
        · rintro acc H2 hl s hD2 ha
          have hm : acc = (xs.map isPB).map V.bl := by
            rw [ha, hl, List.take_of_length_le (by simp)]
          refine ⟨D, xs.map isPB, rfl, .inl (.inl (by rw [hD2, hm])), ?_⟩
          have := q H2 (e1.trans s)
          simpa [e, List.all_map, Function.comp_def] using this
      · rw [decide_eq_false (by simp; omega)]
        simpa [e] using q _ e1
include F in
theorem read__are_rows (h : sp__are_rows K vs H Q E) : t__are_rows K E { nx := fun _ H' => Q .non H', rt := Q } (start ["value", "row"] vs) H := by
  match vs, h with
  | [x], ⟨b, hb, q⟩ =>
    unfold t__are_rows
    walk_at "w"
    refine ⟨by decide, fun p hp => ?_⟩
    have e1 : Same H (upd H p (.tup [.ty "list", .ty "tuple"])) := same_new hp
    have hb1 := hb.same e1
    have hp1 : upd H p (.tup [.ty "list", .ty "tuple"]) p = some (.tup [.ty "list", .ty "tuple"]) := upd_same
    generalize upd H p (.tup [.ty "list", .ty "tuple"]) = H1 at *
    rcases hb1 with ⟨a, h1, h2, h3, rfl⟩ | ⟨r, xs, bs, rfl, h1, hbl, h2, rfl⟩
    · refine isi_seq F hp1 h1 ?_
      have : (a.sub .lst || a.sub .tup) = false := by cases a <;> first | rfl | exact absurd rfl h2 | exact absurd rfl h3
      rw [this]
      exact ⟨_, rfl, q _ e1⟩
    · obtain ⟨a, ka, ks⟩ := h1.kind
      refine isi_seq F hp1 ka ?_
      rw [ks]
      refine ⟨_, rfl, ?_⟩
      rw [if_pos rfl]
      refine uLen_seq h1 ?_
      walk_at "w"
      by_cases l1 : 1 ≤ xs.length
      · rw [if_pos (show (1 : Int) ≤ xs.length by omega)]
        by_cases l2 : xs.length ≤ 60
        · rw [if_pos (show (xs.length : Int) ≤ 60 by omega)]
          refine tLc_seq (p := r) h1 (tVar_eq rfl) fun J G P hG D hD => ?_
          refine lc_grow P (fun acc _ => acc = (bs.take acc.length).map V.bl) hD (Nat.le_trans l2 (by decide)) hG (fun _ _ => rfl) (fun _ _ _ _ _ _ h => h) ?_ ?_
          · rintro i y acc H2 Q' hy s hl ha k
            have lt : i < xs.length := (List.getElem?_eq_some_iff.mp hy).1
            have hc : bs[i]? = some bs[i] := List.getElem?_eq_getElem (by omega)
            have z := (h2 i y _ hy hc).same s
            unfold sp__is_price_row
            walk_at "w"
            refine ⟨_, z, fun H3 s3 => k _ _ s3 ?_⟩
            exact take_snoc V.bl ha hl hc
          · rintro acc H2 hl s hD2 ha
            have hm : acc = bs.map V.bl := by rw [ha, hl, List.take_of_length_le (by omega)]
            refine ⟨D, bs, rfl, .inl (.inl (by rw [hD2, hm])), ?_⟩
            have := q H2 (e1.trans s)
            simpa [l1, l2] using this
        · rw [if_neg (show ¬ (xs.length : Int) ≤ 60 by omega)]
          simpa [l2] using q _ e1
      · rw [if_neg (show ¬ (1 : Int) ≤ xs.length by omega)]
        simpa [l1] using q _ e1
end
/-! ### making a yard -/
def RowV (K : PySem.W.Frag) (H : Hp) (x : V) (rows : List (List (Option Int))) : Prop := ∃ (p : Addr) (xs : List V), x = .ref p ∧ SqA K H p xs ∧ xs.length = rows.length ∧
  ∀ (i : Nat) (v : V) (r : List (Option Int)), xs[i]? = some v → rows[i]? = some r → ∃ q, v = .ref q ∧ SqA K H q (r.map pV)
def RowsOk (rows : List (List (Option Int))) : Prop := 1 ≤ rows.length ∧ rows.length ≤ 60 ∧ ∀ r ∈ rows, r.length = 6 ∧ r.all okP = true
theorem isPB_pV (p : Option Int) : isPB (pV p) = okP p := by cases p <;> rfl
theorem is_pV {K : PySem.W.Frag} {H : Hp} (p : Option Int) : ∃ a, Is K H (pV p) a := by
  cases p with
  | none => exact ⟨_, is_non⟩
  | some i => exact ⟨_, is_int i⟩
section
variable {K : PySem.W.Frag} {H H' : Hp} {x : V} {rows : List (List (Option Int))}
theorem RowV.same (e : Same H H') (h : RowV K H x rows) : RowV K H' x rows := by
  obtain ⟨p, xs, h1, h2, h3, h4⟩ := h
  refine ⟨p, xs, h1, h2.same e, h3, fun i v r g1 g2 => ?_⟩
  obtain ⟨q, z1, z2⟩ := h4 i v r g1 g2
  exact ⟨q, z1, z2.same e⟩
theorem RowV.rowsB (h : RowV K H x rows) (o : RowsOk rows) : RowsB K H x true := by
  obtain ⟨p, xs, h1, h2, h3, h4⟩ := h
  obtain ⟨o1, o2, o3⟩ := o
  refine .inr ⟨p, xs, xs.map fun _ => true, h1, h2, by simp, fun i v c g1 g2 => ?_, by simp; omega⟩
  rw [List.getElem?_map, g1] at g2
  cases g2
  have lt : i < rows.length := h3 ▸ (List.getElem?_eq_some_iff.mp g1).1
  obtain ⟨q, rfl, z⟩ := h4 i v rows[i] g1 (List.getElem?_eq_getElem lt)
  obtain ⟨k1, k2⟩ := o3 rows[i] (List.getElem_mem lt)
  refine .inr ⟨q, _, rfl, z, fun v m => ?_, ?_⟩
  · obtain ⟨p, _, rfl⟩ := List.mem_map.mp m
    exact is_pV p
  · rw [List.length_map, k1, List.all_map]
    have : (isPB ∘ pV) = okP := funext isPB_pV
    rw [this, k2]
    rfl
theorem Off.sqT_ins {a D : Addr} {xs : List V} {C dx : Addr} {fs : List (Str × V)} (h : Off D H H') (hD : H D = some (.ins C dx fs)) (q : SqT K H a xs) : SqT K H' a xs := by
  rcases q with (q | ⟨o, q⟩) | q
  · exact .inl (.inl (h _ _ (by rintro rfl; rw [hD] at q; cases q) q))
  · exact .inl (.inr ⟨o, h _ _ (by rintro rfl; rw [hD] at q; cases q) q⟩)
  · exact .inr q
end
def sp_Yard_init (K : PySem.W.Frag) : Sp := sp2 fun s x H Q E => ∃ a dx, s = .ref a ∧ H a = some (.ins (He.ga K "Yard") dx []) ∧
  ((∃ rows, RowV K H x rows ∧ RowsOk rows ∧ ∀ H', Off a H H' → Yd K H' a rows → Q .non H') ∨ (RowsB K H x false ∧ Rz K "InvalidYard" "value" x H E))
def t_Yard_init (K : PySem.W.Frag) (E : XK) : TS := (tSeq (tIfS (tNot (tB (tFn (sp__are_rows K) E (tCons (tVar 1) tNil)))) (tRse K "InvalidYard" "value" E (tCons (tVar 1) tNil)) tNext) (tSeq (sFld K (tVar 0) (tCB (uTup K) (tCons (tLc (iSeq K (tVar 1)) (gName 2) tYes (tCB (uTup K) (tCons (tVar 2) tNil)) [2]) tNil)) "_rows") (sFld K (tVar 0) (tC .non) "_reckoning")))
section
variable {K : PySem.W.Frag} (F : KF K) {vs : List V} {H : Hp} {Q : VK} {E : XK}
local macro_rules | `(tactic| walk_at "w") => `(tactic| try simp only [turnE, lcT, Snoc, tRet, tRetN, tAndV, tOrV, tNotV, tCB, tCons, tVar, tNil, tC, tOp, tSeq, tAsg, gName, gSub, tIfS, tDrop, tFn, tTup, tLst, tNext, tB, tTest, tNot, tAnd, tOr, tIf, tChain, tUn, rU, tFld, tPart, tNoPart, L2.tSl, tBM, tPar, tPar3, tTruth, tDNewK,
  L2.start, List.map_cons, List.map_nil, List.length_cons, List.length_nil, List.replicate_succ, List.replicate_zero, List.append_nil, List.nil_append, List.cons_append, List.singleton_append, Nat.sub_self, Nat.zero_add, Nat.reduceAdd, Nat.reduceSub,
  List.getElem?_cons_zero, List.getElem?_cons_succ, List.set_cons_zero, List.set_cons_succ, Option.some.injEq, exists_eq_left, exists_eq_left', V.int.injEq, V.bl.injEq, V.str.injEq, V.ref.injEq,
  uAdd_int, uAdd_str, uSub_int, uMul_int, uMul_str, uDiv_int, uMod_int, uPow_int, uLt_int, uLe_int, uGt_int, uGe_int, uIs_non, uNis_non, uIs_bl, uNis_bl, sp1, sp2, sp3, sp4, uEq_int, uEq_str, uNe_int, uNe_str, uSl_str, uLen_str, decide_eq_true_eq])
local macro_rules | `(tactic| walk_at "1") => `(tactic| try simp only [turnE, lcT, Snoc, tRet, tRetN, tAndV, tOrV, tNotV, tCB, tCons, tVar, tNil, tC, tOp, tAsg, gName, gSub, tIfS, tDrop, tFn, tTup, tLst, tNext, tB, tTest, tNot, tAnd, tOr, tIf, tChain, tUn, rU, tFld, tPart, tNoPart, L2.tSl, tBM, tPar, tPar3, tTruth, tDNewK,
  L2.start, List.map_cons, List.map_nil, List.length_cons, List.length_nil, List.replicate_succ, List.replicate_zero, List.append_nil, List.nil_append, List.cons_append, List.singleton_append, Nat.sub_self, Nat.zero_add, Nat.reduceAdd, Nat.reduceSub,
  List.getElem?_cons_zero, List.getElem?_cons_succ, List.set_cons_zero, List.set_cons_succ, Option.some.injEq, exists_eq_left, exists_eq_left', V.int.injEq, V.bl.injEq, V.str.injEq, V.ref.injEq,
  uAdd_int, uAdd_str, uSub_int, uMul_int, uMul_str, uDiv_int, uMod_int, uPow_int, uLt_int, uLe_int, uGt_int, uGe_int, uIs_non, uNis_non, uIs_bl, uNis_bl, sp1, sp2, sp3, sp4, uEq_int, uEq_str, uNe_int, uNe_str, uSl_str, uLen_str, decide_eq_true_eq])
local macro_rules | `(tactic| walk_at "s") => `(tactic| ((try dsimp only [turnE]); with_reducible refine seq_ ?_))

include F in
theorem read_Yard_init (h : sp_Yard_init K vs H Q E) : t_Yard_init K E { nx := fun _ H' => Q .non H', rt := Q } (start ["self", "rows", "row"] vs) H := by
  match vs, h with
  | [_, x], ⟨a, dx, rfl, ha, h⟩ =>
    unfold t_Yard_init sp__are_rows
    walk_at "w"
    rcases h with ⟨rows, hr, ho, q⟩ | ⟨hb, rz⟩
    · refine ⟨true, hr.rowsB ho, fun H1 s1 => ?_⟩
      simp only [Bool.not_true, Bool.false_eq_true, if_false, sFld, tCB]
      obtain ⟨p, xs, rfl, h2, h3, h4⟩ := hr.same s1
      refine tLc_seq (p := p) h2 (tVar_eq rfl) fun J G P hG D hD => ?_
      refine lc_grow P (fun acc H => ∃ as : List Addr, acc = as.map V.ref ∧ as.length ≤ rows.length ∧ ∀ (i : Nat) (a : Addr) (r : List (Option Int)), as[i]? = some a → rows[i]? = some r → SqT K H a (r.map pV)) hD
        (by rw [h3]; exact Nat.le_trans ho.2.1 (by decide)) hG (fun _ _ => ⟨[], rfl, Nat.zero_le _, fun i a r z => by simp at z⟩) ?_ ?_ ?_
      · rintro acc l H2 H3 hl o ⟨as, e1, e2, e3⟩
        exact ⟨as, e1, e2, fun i a r z1 z2 => o.sqT hl (e3 i a r z1 z2)⟩
      · rintro i y acc H2 Q' hy s hl ⟨as, e1, e2, e3⟩ k
        have lt : i < rows.length := h3 ▸ (List.getElem?_eq_some_iff.mp hy).1
        obtain ⟨b, rfl, z⟩ := h4 i y rows[i] hy (List.getElem?_eq_getElem lt)
        have z := z.same s
        walk_at "w"
        have hl2 : as.length = i := by rw [e1, List.length_map] at hl; exact hl
        have step : ∀ (c : Addr) (H3 : Hp), Same H2 H3 → SqT K H3 c (rows[i].map pV) → Q' (.ref c) H3 := fun c H3 s3 hc => by
          refine k _ _ s3 ⟨as ++ [c], by simp [e1], by simp; omega, fun j d r z1 z2 => ?_⟩
          by_cases e : j = i
          · subst e
            rw [List.getElem?_append_right (by omega), hl2] at z1
            simp at z1
            subst z1
            rw [List.getElem?_eq_getElem lt] at z2
            cases z2
            exact hc
          · have : j < as.length := by
              have := (List.getElem?_eq_some_iff.mp z1).1
              simp at this
              omega
            rw [List.getElem?_append_left this] at z1
            exact Same.sqT s3 (e3 j d r z1 z2)
        rcases z with z | z
        · exact ⟨_, .inl ⟨z, fun l hl => step l _ (same_new hl) (.inl (.inl upd_same))⟩⟩
        · exact ⟨_, .inr ⟨z, step b _ (Same.refl _) z⟩⟩
      · rintro acc H2 hl s hD2 ⟨as, e1, e2, e3⟩
        have hla : as.length = rows.length := by rw [e1, List.length_map] at hl; omega
        refine ⟨acc, .inl ⟨.inl (.inl hD2), fun t ht => ?_⟩⟩
        have st : Same H2 (upd H2 t (.tup acc)) := same_new ht
        have hat : upd H2 t (.tup acc) a = some (.ins (He.ga K "Yard") dx []) := st _ _ (s _ _ (s1 _ _ ha))
        have htt : upd H2 t (.tup acc) t = some (.tup acc) := upd_same
        have sall : Same H (upd H2 t (.tup acc)) := (s1.trans s).trans st
        have e3' : ∀ (i : Nat) (a : Addr) (r : List (Option Int)), as[i]? = some a → rows[i]? = some r → SqT K (upd H2 t (.tup acc)) a (r.map pV) := fun i a r z1 z2 => Same.sqT st (e3 i a r z1 z2)
        generalize upd H2 t (.tup acc) = H4 at *
        refine ⟨.ref a, rfl, a, _, dx, [], rfl, hat, F.cl, F.na, by simp, ?_⟩
        refine ⟨.ref a, rfl, a, _, dx, _, rfl, upd_same, F.cl, F.na2, by simp [putF], ?_⟩
        have of : Off a H4 (upd (upd H4 a (.ins (He.ga K "Yard") dx (putF "_rows" (.ref t) []))) a (.ins (He.ga K "Yard") dx (putF "_reckoning" .non (putF "_rows" (.ref t) [])))) := Off.trans off_upd off_upd
        refine q _ (Off.trans (Same.off sall) of) ⟨dx, t, as, upd_same, of.sqT_ins hat (.inl (.inl (by rw [htt, e1]))), hla, ho.2.1, ho.1, fun i b r z1 z2 => of.sqT_ins hat (e3' i b r z1 z2), ho.2.2⟩
    · refine ⟨false, hb, fun H1 s1 => ?_⟩
      simp only [if_true, Bool.not_false]
      exact rse_var (K := K) (c := "InvalidYard") (f := "value") (E := E) (i := 1) rfl (rz.same s1)
end
end U
namespace U
open PySem PySem.Spec PyProof.Rows L2

/-! ### arrangements as lists of digits -/
section
variable {K : PySem.W.Frag} (F : KF K) {vs : List V} {H : Hp} {Q : VK} {E : XK}
local macro_rules | `(tactic| walk_at "w") => `(tactic| try simp only [turnE, lcT, Snoc, tRet, tRetN, tAndV, tOrV, tNotV, tCB, tCons, tVar, tNil, tC, tOp, tSeq, tAsg, gName, gSub, tIfS, tDrop, tFn, tTup, tLst, tNext, tB, tTest, tNot, tAnd, tOr, tIf, tChain, tUn, rU, tFld, tPart, tNoPart, L2.tSl, tBM, tPar, tPar3, tTruth, tDNewK,
  L2.start, List.map_cons, List.map_nil, List.length_cons, List.length_nil, List.replicate_succ, List.replicate_zero, List.append_nil, List.nil_append, List.cons_append, List.singleton_append, Nat.sub_self, Nat.zero_add, Nat.reduceAdd, Nat.reduceSub,
  List.getElem?_cons_zero, List.getElem?_cons_succ, List.set_cons_zero, List.set_cons_succ, Option.some.injEq, exists_eq_left, exists_eq_left', V.int.injEq, V.bl.injEq, V.str.injEq, V.ref.injEq,
  uAdd_int, uAdd_str, uSub_int, uMul_int, uMul_str, uDiv_int, uMod_int, uPow_int, uLt_int, uLe_int, uGt_int, uGe_int, uIs_non, uNis_non, uIs_bl, uNis_bl, sp1, sp2, sp3, sp4, uEq_int, uEq_str, uNe_int, uNe_str, uSl_str, uLen_str, decide_eq_true_eq])
local macro_rules | `(tactic| walk_at "1") => `(tactic| try simp only [turnE, lcT, Snoc, tRet, tRetN, tAndV, tOrV, tNotV, tCB, tCons, tVar, tNil, tC, tOp, tAsg, gName, gSub, tIfS, tDrop, tFn, tTup, tLst, tNext, tB, tTest, tNot, tAnd, tOr, tIf, tChain, tUn, rU, tFld, tPart, tNoPart, L2.tSl, tBM, tPar, tPar3, tTruth, tDNewK,
  L2.start, List.map_cons, List.map_nil, List.length_cons, List.length_nil, List.replicate_succ, List.replicate_zero, List.append_nil, List.nil_append, List.cons_append, List.singleton_append, Nat.sub_self, Nat.zero_add, Nat.reduceAdd, Nat.reduceSub,
  List.getElem?_cons_zero, List.getElem?_cons_succ, List.set_cons_zero, List.set_cons_succ, Option.some.injEq, exists_eq_left, exists_eq_left', V.int.injEq, V.bl.injEq, V.str.injEq, V.ref.injEq,
  uAdd_int, uAdd_str, uSub_int, uMul_int, uMul_str, uDiv_int, uMod_int, uPow_int, uLt_int, uLe_int, uGt_int, uGe_int, uIs_non, uNis_non, uIs_bl, uNis_bl, sp1, sp2, sp3, sp4, uEq_int, uEq_str, uNe_int, uNe_str, uSl_str, uLen_str, decide_eq_true_eq])
local macro_rules | `(tactic| walk_at "s") => `(tactic| ((try dsimp only [turnE]); with_reducible refine seq_ ?_))

end
theorem uIx_str {K : PySem.W.Frag} {z : Str} {i : Int} {c : Nat} {H : Hp} {Q : VK} (h : z.length ≤ sizeLine) (hi : atI z.cps.toList i = some c) (q : Q (.str ⟨#[c]⟩) H) : uIx K (.str z) (.int i) H Q := ⟨h, c, hi, q⟩
end U
namespace U
open PySem PySem.Spec PyProof.Rows L2

/-! ### ways, prices, moves -/
section
variable {K : PySem.W.Frag} (F : KF K) {vs : List V} {H : Hp} {Q : VK} {E : XK}
local macro_rules | `(tactic| walk_at "w") => `(tactic| try simp only [turnE, lcT, Snoc, tRet, tRetN, tAndV, tOrV, tNotV, tCB, tCons, tVar, tNil, tC, tOp, tSeq, tAsg, gName, gSub, tIfS, tDrop, tFn, tTup, tLst, tNext, tB, tTest, tNot, tAnd, tOr, tIf, tChain, tUn, rU, tFld, tPart, tNoPart, L2.tSl, tBM, tPar, tPar3, tTruth, tDNewK,
  L2.start, List.map_cons, List.map_nil, List.length_cons, List.length_nil, List.replicate_succ, List.replicate_zero, List.append_nil, List.nil_append, List.cons_append, List.singleton_append, Nat.sub_self, Nat.zero_add, Nat.reduceAdd, Nat.reduceSub,
  List.getElem?_cons_zero, List.getElem?_cons_succ, List.set_cons_zero, List.set_cons_succ, Option.some.injEq, exists_eq_left, exists_eq_left', V.int.injEq, V.bl.injEq, V.str.injEq, V.ref.injEq,
  uAdd_int, uAdd_str, uSub_int, uMul_int, uMul_str, uDiv_int, uMod_int, uPow_int, uLt_int, uLe_int, uGt_int, uGe_int, uIs_non, uNis_non, uIs_bl, uNis_bl, sp1, sp2, sp3, sp4, uEq_int, uEq_str, uNe_int, uNe_str, uSl_str, uLen_str, decide_eq_true_eq])
local macro_rules | `(tactic| walk_at "1") => `(tactic| try simp only [turnE, lcT, Snoc, tRet, tRetN, tAndV, tOrV, tNotV, tCB, tCons, tVar, tNil, tC, tOp, tAsg, gName, gSub, tIfS, tDrop, tFn, tTup, tLst, tNext, tB, tTest, tNot, tAnd, tOr, tIf, tChain, tUn, rU, tFld, tPart, tNoPart, L2.tSl, tBM, tPar, tPar3, tTruth, tDNewK,
  L2.start, List.map_cons, List.map_nil, List.length_cons, List.length_nil, List.replicate_succ, List.replicate_zero, List.append_nil, List.nil_append, List.cons_append, List.singleton_append, Nat.sub_self, Nat.zero_add, Nat.reduceAdd, Nat.reduceSub,
  List.getElem?_cons_zero, List.getElem?_cons_succ, List.set_cons_zero, List.set_cons_succ, Option.some.injEq, exists_eq_left, exists_eq_left', V.int.injEq, V.bl.injEq, V.str.injEq, V.ref.injEq,
  uAdd_int, uAdd_str, uSub_int, uMul_int, uMul_str, uDiv_int, uMod_int, uPow_int, uLt_int, uLe_int, uGt_int, uGe_int, uIs_non, uNis_non, uIs_bl, uNis_bl, sp1, sp2, sp3, sp4, uEq_int, uEq_str, uNe_int, uNe_str, uSl_str, uLen_str, decide_eq_true_eq])
local macro_rules | `(tactic| walk_at "s") => `(tactic| ((try dsimp only [turnE]); with_reducible refine seq_ ?_))

end
end U
namespace U
open PySem PySem.Spec PyProof.Rows L2

/-! ### a yard's lists, and other yards made of one -/
section
variable {K : PySem.W.Frag} (F : KF K) {vs : List V} {H : Hp} {Q : VK} {E : XK}
local macro_rules | `(tactic| walk_at "w") => `(tactic| try simp only [turnE, lcT, Snoc, tRet, tRetN, tAndV, tOrV, tNotV, tCB, tCons, tVar, tNil, tC, tOp, tSeq, tAsg, gName, gSub, tIfS, tDrop, tFn, tTup, tLst, tNext, tB, tTest, tNot, tAnd, tOr, tIf, tChain, tUn, rU, tFld, tPart, tNoPart, L2.tSl, tBM, tPar, tPar3, tTruth, tDNewK,
  L2.start, List.map_cons, List.map_nil, List.length_cons, List.length_nil, List.replicate_succ, List.replicate_zero, List.append_nil, List.nil_append, List.cons_append, List.singleton_append, Nat.sub_self, Nat.zero_add, Nat.reduceAdd, Nat.reduceSub,
  List.getElem?_cons_zero, List.getElem?_cons_succ, List.set_cons_zero, List.set_cons_succ, Option.some.injEq, exists_eq_left, exists_eq_left', V.int.injEq, V.bl.injEq, V.str.injEq, V.ref.injEq,
  uAdd_int, uAdd_str, uSub_int, uMul_int, uMul_str, uDiv_int, uMod_int, uPow_int, uLt_int, uLe_int, uGt_int, uGe_int, uIs_non, uNis_non, uIs_bl, uNis_bl, sp1, sp2, sp3, sp4, uEq_int, uEq_str, uNe_int, uNe_str, uSl_str, uLen_str, decide_eq_true_eq])
local macro_rules | `(tactic| walk_at "1") => `(tactic| try simp only [turnE, lcT, Snoc, tRet, tRetN, tAndV, tOrV, tNotV, tCB, tCons, tVar, tNil, tC, tOp, tAsg, gName, gSub, tIfS, tDrop, tFn, tTup, tLst, tNext, tB, tTest, tNot, tAnd, tOr, tIf, tChain, tUn, rU, tFld, tPart, tNoPart, L2.tSl, tBM, tPar, tPar3, tTruth, tDNewK,
  L2.start, List.map_cons, List.map_nil, List.length_cons, List.length_nil, List.replicate_succ, List.replicate_zero, List.append_nil, List.nil_append, List.cons_append, List.singleton_append, Nat.sub_self, Nat.zero_add, Nat.reduceAdd, Nat.reduceSub,
  List.getElem?_cons_zero, List.getElem?_cons_succ, List.set_cons_zero, List.set_cons_succ, Option.some.injEq, exists_eq_left, exists_eq_left', V.int.injEq, V.bl.injEq, V.str.injEq, V.ref.injEq,
  uAdd_int, uAdd_str, uSub_int, uMul_int, uMul_str, uDiv_int, uMod_int, uPow_int, uLt_int, uLe_int, uGt_int, uGe_int, uIs_non, uNis_non, uIs_bl, uNis_bl, sp1, sp2, sp3, sp4, uEq_int, uEq_str, uNe_int, uNe_str, uSl_str, uLen_str, decide_eq_true_eq])
local macro_rules | `(tactic| walk_at "s") => `(tactic| ((try dsimp only [turnE]); with_reducible refine seq_ ?_))

theorem tLc_inT {t : TE} {g : TG} {tt : TT} {te : TE} {ws : List Nat} {σ : L2.St} {H : Hp} (h : t σ H fun x H1 => ∃ a, x = .ref a ∧ (∃ xs, SqT K H1 a xs) ∧ ∀ D, H1 D = none → LcB (Itt K a) g tt te ws σ H1 D (Q (.ref D))) : tLc (iSeq K t) g tt te ws σ H Q := .inr h
theorem make_yd {H : Hp} {E : XK} {rows : List (List (Option Int))} {v : V} {Q : Addr → Hp → Prop} (hr : RowV K H v rows) (ho : RowsOk rows) (q : ∀ x H', Same H H' → H x = none → Yd K H' x rows → Q x H') :
    ∀ x dx, H x = none → H dx = none → dx ≠ x → sp_Yard_init K [.ref x, v] (upd (upd H dx (.own x)) x (.ins (He.ga K "Yard") dx [])) (fun v H2 => v = .non ∧ Q x H2) E := by
  intro x dx hx hdx hne
  have s1 : Same H (upd H dx (.own x)) := same_new hdx
  have hx1 : upd H dx (.own x) x = none := by rw [upd_ne hne.symm]; exact hx
  have s2 : Same (upd H dx (.own x)) (upd (upd H dx (.own x)) x (.ins (He.ga K "Yard") dx [])) := same_new hx1
  refine ⟨x, dx, rfl, upd_same, .inl ⟨rows, hr.same (s1.trans s2), ho, fun H' o hy => ⟨rfl, q x H' ?_ hx hy⟩⟩⟩
  exact Off.same (Off.trans (Same.off (s1.trans s2)) o) hx
end
end U
namespace U
open PySem PySem.Spec PyProof.Rows L2

/-! ### rows of prices as data, in lists and in tuples -/
section
variable {K : PySem.W.Frag} {H H' : Hp} {Q : VK}
end
end U
namespace U
open PySem PySem.Spec PyProof.Rows L2

/-! ### other yards made of one -/
def priceT : Option Int → Str
  | none => "-"
  | some i => ((toString i : String) : Str)
def lineT (r : List (Option Int)) : Str := Txt.join " " (r.map priceT)
def gridT (rows : List (List (Option Int))) : Str := Txt.join "\n" (rows.map lineT)
def sp_Yard_even (K : PySem.W.Frag) : Sp := sp3 fun c n x H Q E => (∃ (k : Nat) (i : Int), c = .ref (He.ga K "Yard") ∧ n = .int (k : Nat) ∧ x = .int i ∧ 1 ≤ k ∧ k ≤ 60 ∧ 0 < i ∧ ∀ z H', Same H H' → H z = none → Yd K H' z (List.replicate k (List.replicate 6 (some i))) → Q (.ref z) H') ∨ ∃ a, Is K H n a ∧ isIn n 1 60 = false ∧ Rz K "InvalidCount" "value" n H E
def lowQ : Option Int → Bool
  | none => true
  | some i => decide (0 < i ∧ i < 10 ^ 32)
def sp__price_text (_K : PySem.W.Frag) : Sp := sp1 fun x H Q _ => ∃ o, x = pV o ∧ lowQ o = true ∧ Q (.str (priceT o)) H
def sp_Yard_str (K : PySem.W.Frag) : Sp := sp1 fun x H Q _ => ∃ p rows, x = .ref p ∧ Yd K H p rows ∧ (∀ r ∈ rows, r.all lowQ = true) ∧ ∀ H', Same H H' → Q (.str (gridT rows)) H'
def t_Yard_even (K : PySem.W.Frag) (E : XK) : TS := (tSeq (tIfS (tNot (tB (tFn (sp_is_integer_within K) E (tCons (tVar 1) (tCons (tC (.int 1)) (tCons (tC (.int 60)) tNil)))))) (tRse K "InvalidCount" "value" E (tCons (tVar 1) tNil)) tNext) (tSeq (tIfS (tNot (tB (tFn (sp_is_price K) E (tCons (tVar 2) tNil)))) (tRse K "InvalidPrice" "value" E (tCons (tVar 2) tNil)) tNext) (tRet (tMakeL 0 (He.ga K "Yard") (sp_Yard_init K) E (tCons (tOp uMul (tLst (tCons (tOp uMul (tLst (tCons (tVar 2) tNil)) (tCB (uLen K) (tCons (tC (.ref (He.ga K "WAYS"))) tNil))) tNil)) (tVar 1)) tNil)))))
def t__price_text (K : PySem.W.Frag) (E : XK) : TS := (tRet (tIf (tTest (tOp uIs (tVar 0) (tC .non))) (tC (.str "-")) (tCB rStrI (tCons (tVar 0) tNil))))
def t_Yard_str (K : PySem.W.Frag) (E : XK) : TS := (tRet (tJoin K (tC (.str "\n")) (tLc (iSeq K (tFld K (tVar 0) "_rows")) (gName 1) tYes (tJoin K (tC (.str " ")) (tLc (iSeq K (tVar 1)) (gName 2) tYes (tFn (sp__price_text K) E0 (tCons (tVar 2) tNil)) [2])) [1])))
section
variable {K : PySem.W.Frag} (F : KF K) {vs : List V} {H : Hp} {Q : VK} {E : XK}
local macro_rules | `(tactic| walk_at "w") => `(tactic| try simp only [turnE, lcT, Snoc, tRet, tRetN, tAndV, tOrV, tNotV, tCB, tCons, tVar, tNil, tC, tOp, tSeq, tAsg, gName, gSub, tIfS, tDrop, tFn, tTup, tLst, tNext, tB, tTest, tNot, tAnd, tOr, tIf, tChain, tUn, rU, tFld, tPart, tNoPart, L2.tSl, tBM, tPar, tPar3, tTruth, tDNewK,
  L2.start, List.map_cons, List.map_nil, List.length_cons, List.length_nil, List.replicate_succ, List.replicate_zero, List.append_nil, List.nil_append, List.cons_append, List.singleton_append, Nat.sub_self, Nat.zero_add, Nat.reduceAdd, Nat.reduceSub,
  List.getElem?_cons_zero, List.getElem?_cons_succ, List.set_cons_zero, List.set_cons_succ, Option.some.injEq, exists_eq_left, exists_eq_left', V.int.injEq, V.bl.injEq, V.str.injEq, V.ref.injEq,
  uAdd_int, uAdd_str, uSub_int, uMul_int, uMul_str, uDiv_int, uMod_int, uPow_int, uLt_int, uLe_int, uGt_int, uGe_int, uIs_non, uNis_non, uIs_bl, uNis_bl, sp1, sp2, sp3, sp4, uEq_int, uEq_str, uNe_int, uNe_str, uSl_str, uLen_str, decide_eq_true_eq])
local macro_rules | `(tactic| walk_at "1") => `(tactic| try simp only [turnE, lcT, Snoc, tRet, tRetN, tAndV, tOrV, tNotV, tCB, tCons, tVar, tNil, tC, tOp, tAsg, gName, gSub, tIfS, tDrop, tFn, tTup, tLst, tNext, tB, tTest, tNot, tAnd, tOr, tIf, tChain, tUn, rU, tFld, tPart, tNoPart, L2.tSl, tBM, tPar, tPar3, tTruth, tDNewK,
  L2.start, List.map_cons, List.map_nil, List.length_cons, List.length_nil, List.replicate_succ, List.replicate_zero, List.append_nil, List.nil_append, List.cons_append, List.singleton_append, Nat.sub_self, Nat.zero_add, Nat.reduceAdd, Nat.reduceSub,
  List.getElem?_cons_zero, List.getElem?_cons_succ, List.set_cons_zero, List.set_cons_succ, Option.some.injEq, exists_eq_left, exists_eq_left', V.int.injEq, V.bl.injEq, V.str.injEq, V.ref.injEq,
  uAdd_int, uAdd_str, uSub_int, uMul_int, uMul_str, uDiv_int, uMod_int, uPow_int, uLt_int, uLe_int, uGt_int, uGe_int, uIs_non, uNis_non, uIs_bl, uNis_bl, sp1, sp2, sp3, sp4, uEq_int, uEq_str, uNe_int, uNe_str, uSl_str, uLen_str, decide_eq_true_eq])
local macro_rules | `(tactic| walk_at "s") => `(tactic| ((try dsimp only [turnE]); with_reducible refine seq_ ?_))

theorem Yd.ok {p : Addr} {rows : List (List (Option Int))} (h : Yd K H p rows) : RowsOk rows := by
  obtain ⟨_, _, _, _, _, _, l1, l2, _, l3⟩ := h
  exact ⟨l2, l1, l3⟩
/-- a comprehension whose turns make new lists -/
theorem lc_fresh {J : It} {G : Hp → Prop} {xs : List V} (P : Plain J xs G) (f : Nat → List V) {te : TE} {j : Nat} {σ : L2.St} {H : Hp} {D : Addr} {Qd : Hp → Prop} (hD : H D = none) (hl : xs.length ≤ 1000) (hG : ∀ H', Same H H' → G H')
    (hs : ∀ i x H2 (Q : VK), xs[i]? = some x → Same H H2 → (∀ l H3, H2 l = none → Same H2 H3 → H3 l = some (.lst (f i)) → Q (.ref l) H3) → te (σ.set j (some x)) H2 Q)
    (hd : ∀ (H2 : Hp) (ls : List Addr), Same H H2 → ls.length = xs.length → H2 D = some (.lst (ls.map V.ref)) → (∀ (i : Nat) (l : Addr), ls[i]? = some l → H2 l = some (.lst (f i))) → ls.Nodup → D ∉ ls → (∀ l ∈ ls, H l = none) → Qd H2) : LcB J (gName j) tYes te [j] σ H D Qd := by
  refine lc_plain P (fun i H' => Same H H' ∧ ∃ ls : List Addr, H' D = some (.lst (ls.map V.ref)) ∧ ls.length = i ∧ D ∉ ls ∧ (∀ (j : Nat) (a : Addr), ls[j]? = some a → H' a = some (.lst (f j))) ∧ ls.Nodup ∧ ∀ l ∈ ls, H l = none)
    ⟨same_new hD, [], upd_same, rfl, (fun m => nomatch m), (fun j a z => nomatch z), .nil, fun l m => nomatch m⟩ (fun i H' z => hG _ z.1) ?_ (fun H2 ⟨s2, ls, gD, hl, nD, at_, nd, fr⟩ => hd H2 ls s2 hl gD at_ nd nD fr)
  rintro i x H2 hx ⟨s2, ls, gD, hll, nD, at_, nd, fr⟩
  have hi : i < xs.length := (List.getElem?_eq_some_iff.mp hx).1
  show wipe _ [j] = wipe σ [j] ∧ _
  refine ⟨by simp only [wipe, List.set_set], ?_⟩
  show te ((σ.set j none).set j (some x)) H2 _
  rw [List.set_set]
  refine hs i x H2 _ hx s2 fun l H3 nl s3 gl => ?_
  have lD : l ≠ D := by rintro rfl; rw [gD] at nl; cases nl
  have lls : l ∉ ls := fun m => by
    obtain ⟨k, lt, e⟩ := List.mem_iff_getElem.mp m
    have := at_ k l (by rw [← e]; exact List.getElem?_eq_getElem lt)
    rw [this] at nl
    cases nl
  refine ⟨_, s3 _ _ gD, ?_, (Off.trans (Same.off (s2.trans s3)) off_upd).same hD, ls ++ [l], by rw [upd_same]; simp, by simp [hll], ?_, ?_, ?_, ?_⟩
  · rw [List.length_map, hll]
    exact Nat.lt_of_lt_of_le (show i < 1001 by omega) (by decide)
  · rintro m
    rcases List.mem_append.mp m with m | m
    · exact nD m
    · exact lD (List.mem_singleton.mp m).symm
  · rintro k y z1
    have yD : y ≠ D := by
      rintro rfl
      rcases List.mem_append.mp (List.mem_of_getElem? z1) with m | m
      · exact nD m
      · exact lD (List.mem_singleton.mp m).symm
    rw [upd_ne yD]
    by_cases e : k < ls.length
    · rw [List.getElem?_append_left e] at z1
      exact s3 _ _ (at_ k y z1)
    · have e2 : k = ls.length := by
        have := (List.getElem?_eq_some_iff.mp z1).1
        simp at this
        omega
      subst e2
      rw [List.getElem?_append_right (Nat.le_refl _), Nat.sub_self] at z1
      cases z1
      rw [← hll] at gl
      exact gl
  · rw [List.nodup_append]
    refine ⟨nd, by simp, fun x hx y hy => ?_⟩
    rw [List.mem_singleton.mp hy]
    rintro rfl
    exact lls hx
  · intro y m
    rcases List.mem_append.mp m with m | m
    · exact fr y m
    · rw [List.mem_singleton.mp m]
      cases e : H l with
      | none => rfl
      | some o => rw [s2 _ _ e] at nl; cases nl
include F in
theorem read_Yard_even (h : sp_Yard_even K vs H Q E) : t_Yard_even K E { nx := fun _ H' => Q .non H', rt := Q } (start ["cls", "count", "price"] vs) H := by
  match vs, h with
  | [_, _, _], .inr ⟨a, ha, ne, rz⟩ =>
    unfold t_Yard_even sp_is_integer_within sp_is_price
    walk_at "s"
    walk_at "1"
    refine ⟨_, 1, 60, ha, rfl, rfl, ?_⟩
    rw [ne, if_pos (by decide)]
    exact rse_var (K := K) (c := "InvalidCount") (f := "value") (E := E) (i := 1) rfl rz
  | [_, _, _], .inl ⟨k, i, rfl, rfl, rfl, k1, k2, i0, q⟩ =>
    unfold t_Yard_even sp_is_integer_within sp_is_price
    walk_at "s"
    walk_at "1"
    refine ⟨_, 1, 60, is_int _, rfl, rfl, ?_⟩
    rw [show isIn (.int (k : Nat)) 1 60 = true by simp [isIn]; omega, Bool.not_true, if_neg (by decide)]
    show tSeq _ _ _ _ _
    walk_at "s"
    walk_at "1"
    refine ⟨_, is_int _, ?_⟩
    rw [show isPr (.int i) = true by simpa [isPr] using i0, Bool.not_true, if_neg (by decide)]
    simp only [tMakeL]
    walk_at "1"
    refine ⟨trivial, by decide, fun p1 n1 => ⟨_, .inr (F.ways _), ?_⟩⟩
    dsimp only [List.length_cons, List.length_nil]
    refine ⟨p1, 6, [.int i], rfl, rfl, upd_same, by decide, by decide, by show 6 ≤ sizeLine; decide, fun p2 n2 => ?_⟩
    refine ⟨by decide, fun p3 n3 => ?_⟩
    refine ⟨p3, _, [.ref p2], rfl, rfl, upd_same, by omega, by omega, by rw [Int.toNat_natCast, List.length_singleton, Nat.one_mul]; exact Nat.le_trans k2 (by decide), fun p4 n4 => ?_⟩
    have s1 : Same H (upd H p1 (.lst [.int i])) := same_new n1
    generalize upd H p1 (.lst [.int i]) = H1 at *
    have s2 : Same H1 (upd H1 p2 (.lst (List.replicate (6 : Int).toNat [V.int i]).flatten)) := same_new n2
    have g2 : upd H1 p2 (.lst (List.replicate (6 : Int).toNat [V.int i]).flatten) p2 = some (.lst ((List.replicate 6 (some i)).map pV)) := upd_same
    generalize upd H1 p2 (.lst (List.replicate (6 : Int).toNat [V.int i]).flatten) = H2 at *
    have s3 : Same H2 (upd H2 p3 (.lst [.ref p2])) := same_new n3
    generalize upd H2 p3 (.lst [.ref p2]) = H3 at *
    have s4 : Same H3 (upd H3 p4 (.lst (List.replicate (k : Int).toNat [V.ref p2]).flatten)) := same_new n4
    have g4 : upd H3 p4 (.lst (List.replicate (k : Int).toNat [V.ref p2]).flatten) p4 = some (.lst (List.replicate k (V.ref p2))) := by
      rw [upd_same, Int.toNat_natCast]
      clear q n1 n2 n3 n4 s1 s2 g2 s3 s4 k1 k2
      congr 2
      induction k with
      | zero => rfl
      | succ n ih => rw [List.replicate_succ, List.flatten_cons, ih]; rfl
    generalize upd H3 p4 (.lst (List.replicate (k : Int).toNat [V.ref p2]).flatten) = H4 at *
    have sa : Same H H4 := ((s1.trans s2).trans s3).trans s4
    have hv : RowV K H4 (.ref p4) (List.replicate k (List.replicate 6 (some i))) := by
      refine ⟨p4, _, rfl, .inl (.inl (.inl g4)), by simp, fun m v r z1 z2 => ?_⟩
      obtain rfl := List.eq_of_mem_replicate (List.mem_of_getElem? z1)
      obtain rfl := List.eq_of_mem_replicate (List.mem_of_getElem? z2)
      exact ⟨p2, rfl, .inl (.inl (.inl (s4 _ _ (s3 _ _ g2))))⟩
    have ok : RowsOk (List.replicate k (List.replicate 6 (some i))) := by
      refine ⟨by simpa using k1, by simpa using k2, fun r m => ?_⟩
      obtain ⟨_, rfl⟩ := List.mem_replicate.mp m
      refine ⟨by simp, ?_⟩
      simp [okP, i0]
    refine make_yd hv ok fun z H5 s5 nz hz => q z H5 (sa.trans s5) ?_ hz
    cases e4 : H z with
    | none => rfl
    | some u => rw [sa _ _ e4] at nz; cases nz
theorem low_abs {i : Int} (h : lowQ (some i) = true) : i.natAbs < 10 ^ 32 := by
  have h := of_decide_eq_true h
  have e : (10 : Int) ^ 32 = 100000000000000000000000000000000 := by decide
  rw [e] at h
  omega
theorem low_log {i : Int} (h : lowQ (some i) = true) : i.natAbs.log2 < 1920 := by
  have big := low_abs h
  have : i.natAbs.log2 < 128 := by
    by_cases z : i.natAbs = 0
    · rw [z]; decide
    · exact (Nat.log2_lt z).mpr (Nat.lt_of_lt_of_le big (by decide))
  omega
theorem priceT_len {o : Option Int} (h : lowQ o = true) : (priceT o).length ≤ 40 := by
  cases o with
  | none => decide
  | some i =>
    have e := int_text_length_le10 (k := 32) (by decide) (low_abs h)
    show (Str.ofString (toString i)).length ≤ 40
    rw [PySem.ofString_length]
    omega
theorem sum_le {α : Type} (f : α → Nat) (n : Nat) : ∀ l : List α, (∀ x ∈ l, f x ≤ n) → (l.map f).sum ≤ l.length * n
  | [], _ => by simp
  | a :: r, h => by
    have := sum_le f n r fun x m => h x (List.mem_cons_of_mem _ m)
    have := h a List.mem_cons_self
    rw [List.map_cons, List.length_cons, List.sum_cons, Nat.succ_mul]
    omega
theorem lineT_sum {r : List (Option Int)} (h : r.all lowQ = true) (h6 : r.length = 6) : ((r.map priceT).map (·.length)).sum ≤ 240 := by
  rw [List.map_map]
  have := sum_le ((fun z : Str => z.length) ∘ priceT) 40 r fun o m => priceT_len (List.all_eq_true.mp h o m)
  omega
theorem lineT_len {r : List (Option Int)} (h : r.all lowQ = true) (h6 : r.length = 6) : (lineT r).length ≤ 250 := by
  have h1 := StrLaws.join_length_le " " (r.map priceT)
  have h2 := lineT_sum h h6
  rw [List.length_map, h6] at h1
  have h3 : (" " : Str).length = 1 := by decide
  rw [h3] at h1
  show (Builtin.Str.glued " " (r.map priceT)).length ≤ 250
  rw [StrLaws.glued_eq_join]
  omega
theorem gridT_sum {rows : List (List (Option Int))} (h : ∀ r ∈ rows, r.all lowQ = true) (h6 : RowsOk rows) : ((rows.map lineT).map (·.length)).sum ≤ 15000 := by
  rw [List.map_map]
  have := sum_le ((fun z : Str => z.length) ∘ lineT) 250 rows fun r m => lineT_len (h r m) (h6.2.2 r m).1
  have := h6.2.1
  omega
include F in
theorem read__price_text (h : sp__price_text K vs H Q E) : t__price_text K E { nx := fun _ H' => Q .non H', rt := Q } (start ["price"] vs) H := by
  match vs, h with
  | [_], ⟨o, rfl, ho, q⟩ =>
    unfold t__price_text
    walk_at "1"
    cases o with
    | none => 
      simp only [pV, decide_true, if_true]
      exact q
    | some i =>
      rw [if_neg (fun z => by cases z)]
      exact ⟨i, rfl, low_log ho, q⟩
include F in
theorem read_Yard_str (h : sp_Yard_str K vs H Q E) : t_Yard_str K E { nx := fun _ H' => Q .non H', rt := Q } (start ["self", "row", "price"] vs) H := by
  match vs, h with
  | [_], ⟨p, rows, rfl, hy, hlow, q⟩ =>
    unfold t_Yard_str sp__price_text
    obtain ⟨dx, t, as, y1, y2, y3, y4, y5, y6, y7⟩ := id hy
    walk_at "1"
    simp only [tJoin, tM1, tC]
    refine ⟨⟨_, rfl⟩, ?_⟩
    refine tLc_inT ?_
    walk_at "1"
    refine ⟨p, _, dx, _, .ref t, rfl, y1, F.cl, F.na, rfl, t, rfl, ⟨_, y2⟩, fun D hD => ?_⟩
    refine lc_grow (plain_T (xs := as.map V.ref)) (fun acc _ => acc = (rows.take acc.length).map fun r => V.str (lineT r)) hD (by rw [List.length_map, y3]; exact Nat.le_trans y4 (by decide)) (fun H' e => Same.sqT e y2) (fun _ _ => rfl) (fun _ _ _ _ _ _ h => h) ?_ ?_
    · rintro i x acc H2 Q' hx s2 hl ha k
      rw [List.getElem?_map] at hx
      obtain ⟨a, hai, rfl⟩ := Option.map_eq_some_iff.mp hx
      have hi : i < rows.length := y3 ▸ (List.getElem?_eq_some_iff.mp hai).1
      have hr : rows[i]? = some rows[i] := List.getElem?_eq_getElem hi
      have hq : SqT K H2 a (rows[i].map pV) := Same.sqT s2 (y6 i a _ hai hr)
      have hr6 := (y7 rows[i] (List.getElem_mem hi)).1
      have hrl := hlow rows[i] (List.getElem_mem hi)
      refine ⟨⟨_, rfl⟩, ?_⟩
      simp only [List.set_cons_zero, List.set_cons_succ]
      refine tLc_seq (p := a) (.inr hq) (tVar_eq rfl) fun J G P hG D2 nD => ?_
      refine lc_grow P (fun acc _ => acc = (rows[i].take acc.length).map fun o => V.str (priceT o)) nD (by rw [List.length_map, hr6]; decide) hG (fun _ _ => rfl) (fun _ _ _ _ _ _ h => h) ?_ ?_
      · rintro n y acc2 H4 Q2 hy s4 hl2 ha2 k2
        rw [List.getElem?_map] at hy
        obtain ⟨o, ho, rfl⟩ := Option.map_eq_some_iff.mp hy
        simp only [List.set_cons_zero, List.set_cons_succ]
        walk_at "1"
        refine ⟨o, rfl, List.all_eq_true.mp hrl o (List.mem_of_getElem? ho), ?_⟩
        exact k2 _ _ (Same.refl _) (take_snoc (fun o : Option Int => V.str (priceT o)) ha2 hl2 ho)
      · rintro acc2 H4 hl2 s4 gD2 ha2
        rw [List.length_map] at hl2
        rw [ha2, hl2, List.take_length] at gD2
        refine ⟨" ", D2, rows[i].map priceT, rfl, rfl, .inl (.inl (.inl (by rw [gD2, List.map_map]; rfl))), ?_, ?_⟩
        · have := lineT_sum hrl hr6
          have h3 : (" " : Str).length = 1 := by decide
          rw [h3, List.length_map, hr6]
          omega
        · exact k _ _ s4 (take_snoc (fun r : List (Option Int) => V.str (lineT r)) ha hl hr)
    · rintro acc H2 hl s2 gD ha
      rw [List.length_map] at hl
      rw [ha, hl, y3, List.take_length] at gD
      refine ⟨"\n", D, rows.map lineT, rfl, rfl, .inl (.inl (.inl (by rw [gD, List.map_map]; rfl))), ?_, q H2 s2⟩
      have := gridT_sum hlow hy.ok
      have h3 : ("\n" : Str).length = 1 := by decide
      rw [h3, List.length_map]
      omega
end
end U
namespace U
open PySem PySem.Spec PyProof.Rows L2 TL

/-! ### texts cut at a sign -/
def linesL (l : List Nat) : List (List Nat) := spl [10] 0 [] l
def wordsL (l : List Nat) : List (List Nat) := spl [32] 0 [] l
theorem spl_mem {s : Nat} : ∀ (l acc : List Nat), s ∉ acc → ∀ w ∈ spl [s] 0 acc l, s ∉ w ∧ ∃ p q, acc ++ l = p ++ (w ++ q)
  | [], acc, h, w, m => by
    rw [spl_nil] at m
    rw [List.mem_singleton.mp m]
    exact ⟨h, [], [], by simp⟩
  | c :: r, acc, h, w, m => by
    by_cases e : c = s
    · subst e
      rw [spl_hit (by simp [pre])] at m
      rcases List.mem_cons.mp m with rfl | m
      · exact ⟨h, [], c :: r, by simp⟩
      · obtain ⟨h1, p, q, e⟩ := spl_mem r [] (by simp) w m
        refine ⟨h1, acc ++ [c] ++ p, q, ?_⟩
        have : r = p ++ (w ++ q) := by simpa using e
        rw [this]
        simp
    · rw [spl_miss (pre_of_head _ _ e)] at m
      obtain ⟨h1, p, q, e2⟩ := spl_mem r (acc ++ [c]) (by simp [h]; exact fun z => e z.symm) w m
      exact ⟨h1, p, q, by simpa using e2⟩
/-! ### the longest word of a text -/
def sepc (c : Nat) : Bool := c == 10 || c == 32
def mx : Nat → List Nat → Nat
  | k, [] => k
  | k, c :: r => if sepc c = true then max k (mx 0 r) else mx (k + 1) r
theorem mx_mono : ∀ (l : List Nat) {j k : Nat}, j ≤ k → mx j l ≤ mx k l
  | [], j, k, h => h
  | c :: r, j, k, h => by
    unfold mx
    split
    · omega
    · exact mx_mono r (by omega)
theorem mx_ge : ∀ (l : List Nat) (k : Nat), k ≤ mx k l
  | [], k => Nat.le_refl _
  | c :: r, k => by
    unfold mx
    split
    · omega
    · exact Nat.le_trans (Nat.le_succ k) (mx_ge r (k + 1))
theorem mx_pre : ∀ (a b : List Nat) (k : Nat), mx k a ≤ mx k (a ++ b)
  | [], b, k => mx_ge b k
  | c :: r, b, k => by
    show _ ≤ mx k (c :: (r ++ b))
    unfold mx
    split
    · have := mx_pre r b 0
      omega
    · exact mx_pre r b (k + 1)
theorem mx_suf : ∀ (a b : List Nat) (k : Nat), mx 0 b ≤ mx k (a ++ b)
  | [], b, k => mx_mono b (Nat.zero_le _)
  | c :: r, b, k => by
    show _ ≤ mx k (c :: (r ++ b))
    rw [mx]
    split
    · have := mx_suf r b 0
      omega
    · exact mx_suf r b (k + 1)
theorem mx_free : ∀ (w : List Nat) (k : Nat), (∀ c ∈ w, sepc c = false) → mx k w = k + w.length
  | [], k, _ => rfl
  | c :: r, k, h => by
    rw [mx, if_neg (by rw [h c List.mem_cons_self]; decide), mx_free r (k + 1) fun d m => h d (List.mem_cons_of_mem _ m), List.length_cons]
    omega
theorem word_mx {t l w : List Nat} (hl : l ∈ linesL t) (hw : w ∈ wordsL l) : w.length ≤ mx 0 t := by
  obtain ⟨h1, p, q, e⟩ := spl_mem t [] (by simp) l hl
  obtain ⟨h2, p2, q2, e2⟩ := spl_mem l [] (by simp) w hw
  rw [List.nil_append] at e e2
  have h10 : 10 ∉ w := fun m => h1 (by rw [e2]; simp [m])
  have free : ∀ c ∈ w, sepc c = false := fun c m => by
    unfold sepc
    rw [Bool.or_eq_false_iff]
    refine ⟨?_, ?_⟩
    · exact beq_false_of_ne fun z => h10 (z ▸ m)
    · exact beq_false_of_ne fun z => h2 (z ▸ m)
  have e3 : mx 0 w = w.length := by rw [mx_free w 0 free, Nat.zero_add]
  rw [← e3, e, e2]
  refine Nat.le_trans ?_ (mx_suf p _ 0)
  refine Nat.le_trans ?_ (mx_pre _ q 0)
  refine Nat.le_trans ?_ (mx_suf p2 _ 0)
  exact mx_pre w q2 0
theorem line_part {t l : List Nat} (hl : l ∈ linesL t) : ∃ p q, t = p ++ (l ++ q) := by
  obtain ⟨_, p, q, e⟩ := spl_mem t [] (by simp) l hl
  exact ⟨p, q, e⟩
theorem word_part {l w : List Nat} (hw : w ∈ wordsL l) : ∃ p q, l = p ++ (w ++ q) := by
  obtain ⟨_, p, q, e⟩ := spl_mem l [] (by simp) w hw
  exact ⟨p, q, e⟩
/-! ### what is the text of a yard -/
def dig (c : Nat) : Bool := decide (48 ≤ c) && decide (c ≤ 57)
def numOk (w : List Nat) : Bool := !w.isEmpty && (w.all dig && !(w.head? == some 48))
def wOk (w : List Nat) : Bool := w == [45] || numOk w
def wP (w : List Nat) : Option Int := if w = [45] then none else some (NumText.digitsVal w : Nat)
def lineOk (l : List Nat) : Bool := decide ((wordsL l).length = 6) && (wordsL l).all wOk
def textOk (t : List Nat) : Bool := decide ((linesL t).length ≤ 60) && (linesL t).all lineOk
def rowsT (t : List Nat) : List (List (Option Int)) := (linesL t).map fun l => (wordsL l).map wP
theorem dig_iff {c : Nat} : dig c = true ↔ 48 ≤ c ∧ c ≤ 57 := by simp [dig]
theorem numOk_all {w : List Nat} (h : numOk w = true) : NumText.AllDigits w ∧ w ≠ [] := by
  unfold numOk at h
  simp only [Bool.and_eq_true, Bool.not_eq_true', List.isEmpty_eq_false_iff] at h
  exact ⟨fun c m => dig_iff.mp (List.all_eq_true.mp h.2.1 c m), h.1⟩
theorem fold_pos : ∀ (l : List Nat) (a : Nat), 0 < a → 0 < l.foldl (fun acc c => acc * 10 + (c - 48)) a
  | [], a, h => h
  | c :: r, a, h => fold_pos r (a * 10 + (c - 48)) (by omega)
theorem numOk_pos {w : List Nat} (h : numOk w = true) : 0 < NumText.digitsVal w := by
  obtain ⟨ad, ne⟩ := numOk_all h
  unfold numOk at h
  simp only [Bool.not_eq_true', Bool.and_eq_true] at h
  cases w with
  | nil => exact absurd rfl ne
  | cons c r =>
    have h1 := ad c List.mem_cons_self
    have h2 : ¬ c = 48 := fun z => by
      subst z
      have := h.2.2
      simp at this
    unfold NumText.digitsVal
    rw [List.foldl_cons]
    exact fold_pos r (0 * 10 + (c - 48)) (by omega)
theorem wP_ok {w : List Nat} (h : wOk w = true) : okP (wP w) = true := by
  unfold wP
  split
  · rfl
  · rename_i n
    have h : numOk w = true := by
      unfold wOk at h
      rw [Bool.or_eq_true] at h
      rcases h with h | h
      · exact absurd (eq_of_beq h) n
      · exact h
    have := numOk_pos h
    exact decide_eq_true (show _ by omega)
theorem rowsT_ok {t : List Nat} (h : textOk t = true) (n0 : linesL t ≠ []) : RowsOk (rowsT t) := by
  unfold textOk at h
  rw [Bool.and_eq_true, decide_eq_true_eq, List.all_eq_true] at h
  have hp : 0 < (linesL t).length := List.length_pos_iff.mpr n0
  refine ⟨by unfold rowsT; rw [List.length_map]; omega, by unfold rowsT; rw [List.length_map]; exact h.1, fun r m => ?_⟩
  obtain ⟨l, hl, rfl⟩ := List.mem_map.mp m
  have h2 := h.2 l hl
  unfold lineOk at h2
  rw [Bool.and_eq_true, decide_eq_true_eq, List.all_eq_true] at h2
  refine ⟨by rw [List.length_map]; exact h2.1, List.all_eq_true.mpr fun p m => ?_⟩
  obtain ⟨w, hw, rfl⟩ := List.mem_map.mp m
  exact wP_ok (h2.2 w hw)
theorem spl_ne (s : Nat) : ∀ (l acc : List Nat), spl [s] 0 acc l ≠ []
  | [], acc => by rw [spl_nil]; simp
  | c :: r, acc => by
    by_cases e : c = s
    · subst e
      rw [spl_hit (by simp [pre])]
      simp
    · rw [spl_miss (pre_of_head _ _ e)]
      exact spl_ne s r _
theorem spl_len (s : Nat) : ∀ (l acc : List Nat), (spl [s] 0 acc l).length ≤ l.length + 1
  | [], acc => by rw [spl_nil]; simp
  | c :: r, acc => by
    by_cases e : c = s
    · subst e
      rw [spl_hit (by simp [pre])]
      have := spl_len c r []
      simp only [List.length_cons]
      exact Nat.succ_le_succ this
    · rw [spl_miss (pre_of_head _ _ e)]
      have := spl_len s r (acc ++ [c])
      rw [List.length_cons]
      omega
/-! ### texts and their signs -/
theorem tl_split (x : Str) : (Txt.split x "\n").map tl = linesL (tl x) := by
  have e : tl ("\n" : Str) = [10] := by decide
  have := split_spl x "\n" (by rw [e]; simp) (kind_ok (by decide +kernel))
  rw [e] at this
  exact this
theorem tl_splitW (x : Str) : (Txt.split x " ").map tl = wordsL (tl x) := by
  have e : tl (" " : Str) = [32] := by decide
  have := split_spl x " " (by rw [e]; simp) (kind_ok (by decide +kernel))
  rw [e] at this
  exact this
theorem str_eq_tl {x y : Str} : x = y ↔ tl x = tl y := ⟨fun h => by rw [h], ext_tl⟩
/-! ### the text of a yard, read again -/
/-! ### texts shown in quotes -/
end U
namespace U
open PySem PySem.Spec PyProof.Rows L2 TL

/-! ### a classmethod called in a try's body -/
section
variable {X : Cx} {CX : CXT} {k : Nat} {C f q g : Addr} {sp : Sp} {Q : VK} {us : List Value} {vs : List V} {pins : List (Addr × Obj)} {σ : L2.St} {H : Hp} {s : Shared}
theorem run_fnRS {E : XK} (F : FnR X.prog X.w X.K X.mg X.base CX k f sp) (hr : Room k X.A) (hx : PassesAt CX X σ E) (I : Inv X pins σ H s) (r : Vals vs us) (h : sp vs H Q E) :
    codeAny (model X.prog X.w) X.A (.call (.ref f) ⟨us, []⟩) (fun res s' => match res with | .ok (.ret v) => EP X pins σ Q v s' | .ok _ => False | .error e => X.xe e s') s := by
  refine codeAny_mono (F X.A X.stack s H us vs Q E hr I.env0 r h) fun res s2 out => ?_
  match res, out with
  | .error er, out => exact hx pins H s er s2 I out
  | .ok (.ret u), out => exact I.after out
  | .ok .next, out => exact False.elim out
  | .ok .brk, out => exact False.elim out
  | .ok .cont, out => exact False.elim out
theorem run_cmS {E : XK} (F : FnR X.prog X.w X.K X.mg X.base CX k g sp) (hr : Room k X.A) (hx : PassesAt CX X σ E) (I : Inv X ((q, PySem.W.methodObj (.ref g) (.ref C)) :: pins) σ H s)
    (rv : Vals vs us) (h : sp (.ref C :: vs) H Q E) : wpAny (model X.prog X.w) X.A (call (.ref q) us) (EP X pins σ Q) X.xe s := by
  have go : wpAny (model X.prog X.w) X.A (call (.ref q) us) (EP X ((q, PySem.W.methodObj (.ref g) (.ref C)) :: pins) σ Q) X.xe s :=
    wpAny_call (PySem.W.method_call (ClX.pin_at I) (run_fnRS (us := .ref C :: us) (vs := .ref C :: vs) F hr hx I (.cons rfl rv) h))
  exact thn go fun _ _ y => ClX.unpinE y
end
def tCmS (C : Addr) (sp : Sp) (W : WX) (ta : TE) (t : TA) : TE := fun σ H Q => ta σ H fun x H1 => x = .ref C ∧ t σ H1 fun vs H2 => sp (.ref C :: vs) H2 Q (WE W σ)
theorem pe_cmS {X : Cx} {k : Nat} {C m : Str} {ps : List Str} {sp : Sp} {W : WX} {o e : Expr} {es : List Expr} {pos apos : Pos} {ta : TE} {t : TA} {pl : Sem Bool} (g : GoodC X.prog X.w X.K X.mg X.base k C m ps sp) (he : PE X o ta) (hr : Room k X.A) (tk : Takes X W)
    (hst : starEach (e :: es) X.env = (false, eval e X.env) :: starEach es X.env := by rfl) (hpl : (backTo pos (starEach es X.env)).any (·.1) = false := by rfl) (ha : PA X (e :: es) t)
    (ht : eval (.Call (.Attribute o m apos) (e :: es) [] pos) X.env = (do
      let ov ← eval o X.env
      standAt apos.atName
      let (f, first) ← holding [ov] (getMethod ov m pl)
      callWith pos f first (backTo pos (starEach (e :: es) X.env)) (backToKw pos (keywordEach [] X.env))) := by rfl) :
    PE X (.Call (.Attribute o m apos) (e :: es) [] pos) (tCmS (He.ga X.K C) sp W ta t) := by
  obtain ⟨fd, F, hb⟩ := g.fn
  refine .mk ?_
  intro pins s σ H Q I h
  refine PySem.W.methodCall_KW (pl := pl) (thn (he.run pins s σ H _ I h) fun u s1 out => ?_) ht
  obtain ⟨x, H1, I1, rx, ex, q⟩ := out
  subst ex
  obtain rfl : u = Value.ref (He.ga X.K C) := rx
  refine ClX.getmethcm_ok I1 g.rd g.cm fun s2 I2 => ?_
  refine ClX.callwith_cm I2 (ClX.base_none I1 (Nat.le_refl _)) g.cm.fi (thn (ha.run pos _ s2 σ H1 _ I2 q) fun us s3 out => ?_) hst hpl
  obtain ⟨vs, H2, I3, rv, q2⟩ := out
  refine ⟨⟨ClX.pin_at I3, I3.kIn⟩, ?_⟩
  exact run_cmS (F.raw hb .nil) hr (passAt tk σ) I3 rv (by rw [List.append_nil]; exact q2)
/-! ### int(text), text.split(sign) -/
def rIntS : List V → Hp → VK → Prop := fun xs H Q => ∃ a n, xs = [.str a] ∧ PySem.intText? a = some n ∧ a.length ≤ 640 ∧ Q (.int n) H
theorem call_intS {X : Cx} : CallR X (.type "int") rIntS := call_int_str
theorem int_word {w : Str} {H : Hp} {Q : VK} (h : numOk (tl w) = true) (hl : w.length ≤ 640) (q : Q (.int (NumText.digitsVal (tl w) : Nat)) H) : rIntS [.str w] H Q := by
  obtain ⟨ad, ne⟩ := numOk_all h
  exact ⟨w, _, rfl, PySem.intText_digits ad ne (Nat.le_trans hl (by decide)), hl, q⟩
def rSplit : V → List V → Hp → VK → Prop := fun x xs H Q => ∃ a b, x = .str a ∧ xs = [.str b] ∧ (b.length == 0) = false ∧ a.length + 2 ≤ sizeLine ∧ rNewStrs (Txt.split a b) H Q
theorem mt_splitU {X : Cx} : MtR X "str.split" rSplit := mt_split
theorem split_of {a b : Str} {H : Hp} {Q : VK} (hb : (b.length == 0) = false) (hl : a.length ≤ 1000000) (q : ∀ p, H p = none → Q (.ref p) (upd H p (.lst ((Txt.split a b).map V.str)))) : rSplit (.str a) [.str b] H Q :=
  ⟨a, b, rfl, rfl, hb, Nat.le_trans (Nat.add_le_add_right hl 2) (by decide), q⟩
/-! ### the text of a yard, read again -/
/-- a text that may be read: not too long, its words neither, its signs signs -/
structure Tb (t : List Nat) : Prop where
  len : t.length ≤ 100000
  mx : mx 0 t ≤ 600
  ok : ∀ c ∈ t, c < 0x110000
theorem Tb.word {t l w : List Nat} (h : Tb t) (hl : l ∈ linesL t) (hw : w ∈ wordsL l) : w.length ≤ 640 := Nat.le_trans (word_mx hl hw) (Nat.le_trans h.mx (by decide))
end U
namespace U
open PySem PySem.Spec PyProof.Rows L2 TL

/-- the number that a word shows -/
def numV (w : List Nat) : Int := ((NumText.digitsVal w : Nat) : Int)
def isNum (w : List Nat) : Bool := !w.isEmpty && (w.all dig && (!(w.head? == some 48) || w == [48]))
def isYT : V → Bool
  | .str t => textOk (tl t)
  | _ => false
def sp_is_numeral (_K : PySem.W.Frag) : Sp := sp1 fun x H Q _ => ∃ w, x = .str w ∧ w.length ≤ 100000 ∧ Q (.bl (isNum (tl w))) H
def sp__is_price_text (_K : PySem.W.Frag) : Sp := sp1 fun x H Q _ => ∃ w, x = .str w ∧ w.length ≤ 100000 ∧ Q (.bl (wOk (tl w))) H
def sp__price_of (_K : PySem.W.Frag) : Sp := sp1 fun x H Q _ => ∃ w, x = .str w ∧ wOk (tl w) = true ∧ w.length ≤ 640 ∧ Q (pV (wP (tl w))) H
def sp__is_line (_K : PySem.W.Frag) : Sp := sp1 fun x H Q _ => ∃ w, x = .str w ∧ w.length ≤ 100000 ∧ ∀ H', Same H H' → Q (.bl (lineOk (tl w))) H'
def sp__is_yard_text (K : PySem.W.Frag) : Sp := sp1 fun x H Q _ => ∃ a, Is K H x a ∧ (∀ t, x = .str t → t.length ≤ 100000) ∧ ∀ H', Same H H' → Q (.bl (isYT x)) H'
def sp_Yard_read (K : PySem.W.Frag) : Sp := sp2 fun c x H Q E => ∃ a, c = .ref (He.ga K "Yard") ∧ Is K H x a ∧ (∀ t, x = .str t → Tb (tl t)) ∧
  (∀ t, x = .str t → textOk (tl t) = true → ∀ z H', Same H H' → H z = none → Yd K H' z (rowsT (tl t)) → Q (.ref z) H') ∧ (isYT x = false → Rz K "InvalidText" "value" x H E)
def t_is_numeral (K : PySem.W.Frag) (E : XK) : TS := (tRet (tAndV (tOp (uNe K) (tVar 0) (tC (.str ""))) (tAndV (tOp (uEq K) (tBM K "str" rStrip (tVar 0) (tCons (tC (.str "0123456789")) tNil)) (tC (.str ""))) (tOrV (tOp (uNe K) (tOp (uIx K) (tVar 0) (tC (.int 0))) (tC (.str "0"))) (tOp (uEq K) (tVar 0) (tC (.str "0")))))))
def t__is_price_text (K : PySem.W.Frag) (E : XK) : TS := (tRet (tOrV (tOp (uEq K) (tVar 0) (tC (.str "-"))) (tAndV (tFn (sp_is_numeral K) E (tCons (tVar 0) tNil)) (tOp (uNe K) (tVar 0) (tC (.str "0"))))))
def t__price_of (K : PySem.W.Frag) (E : XK) : TS := (tRet (tIf (tTest (tOp (uEq K) (tVar 0) (tC (.str "-")))) (tC .non) (tCB rIntS (tCons (tVar 0) tNil))))
def t__is_line (K : PySem.W.Frag) (E : XK) : TS := (tSeq (tAsg (tBM K "str" rSplit (tVar 0) (tCons (tC (.str " ")) tNil)) (gName 1)) (tRet (tAndV (tOp (uEq K) (tCB (uLen K) (tCons (tVar 1) tNil)) (tCB (uLen K) (tCons (tC (.ref (He.ga K "WAYS"))) tNil))) (tCB (rAll K) (tCons (tLc (iSeq K (tVar 1)) (gName 2) tYes (tFn (sp__is_price_text K) E0 (tCons (tVar 2) tNil)) [2]) tNil)))))
def t__is_yard_text (K : PySem.W.Frag) (E : XK) : TS := (tSeq (tIfS (tNot (tB (tCB (uIsi K) (tCons (tVar 0) (tCons (tC (.ty "str")) tNil))))) (tRet (tC (.bl false))) tNext) (tSeq (tAsg (tBM K "str" rSplit (tVar 0) (tCons (tC (.str "\n")) tNil)) (gName 1)) (tRet (tAndV (tOp uLe (tCB (uLen K) (tCons (tVar 1) tNil)) (tC (.int 60))) (tCB (rAll K) (tCons (tLc (iSeq K (tVar 1)) (gName 2) tYes (tFn (sp__is_line K) E0 (tCons (tVar 2) tNil)) [2]) tNil))))))
def t_Yard_read (K : PySem.W.Frag) (E : XK) : TS := (tSeq (tIfS (tNot (tB (tFn (sp__is_yard_text K) E (tCons (tVar 1) tNil)))) (tRse K "InvalidText" "value" E (tCons (tVar 1) tNil)) tNext) (tRet (tMakeL 0 (He.ga K "Yard") (sp_Yard_init K) E (tCons (tLc (iSeq K (tBM K "str" rSplit (tVar 1) (tCons (tC (.str "\n")) tNil))) (gName 2) tYes (tLc (iSeq K (tBM K "str" rSplit (tVar 2) (tCons (tC (.str " ")) tNil))) (gName 3) tYes (tFn (sp__price_of K) E0 (tCons (tVar 3) tNil)) [3]) [2]) tNil))))
theorem str_nil {w : Str} : w = "" ↔ tl w = [] := by
  rw [str_eq_tl]
  have : tl ("" : Str) = [] := by decide +kernel
  rw [this]
theorem str_bar {w : Str} : w = "-" ↔ tl w = [45] := by
  rw [str_eq_tl]
  have : tl ("-" : Str) = [45] := by decide +kernel
  rw [this]
theorem str_zero {w : Str} : w = "0" ↔ tl w = [48] := by
  rw [str_eq_tl]
  have : tl ("0" : Str) = [48] := by decide +kernel
  rw [this]
theorem strip_dig (w : Str) : (Txt.stripChars w "0123456789" = "") ↔ (tl w).all dig = true := by
  rw [strip_nil, List.all_eq_true]
  have e : ∀ c : Nat, ("0123456789" : Str).cps.contains c = dig c := by
    intro c
    have : ("0123456789" : Str).cps = #[48, 49, 50, 51, 52, 53, 54, 55, 56, 57] := by decide +kernel
    rw [this, Bool.eq_iff_iff, dig_iff, Array.contains_iff_mem]
    simp
    omega
  exact forall₂_congr fun c _ => by rw [e]
theorem ix_first {w : Str} {c : Nat} {r : List Nat} {K : PySem.W.Frag} {H : Hp} {Q : VK} (hl : w.length ≤ 100000) (h : tl w = c :: r) (q : Q (.str ⟨#[c]⟩) H) : uIx K (.str w) (.int 0) H Q := by
  refine uIx_str (c := c) (Nat.le_trans hl (by decide)) ?_ q
  have e : w.cps.toList = c :: r := h
  rw [e]
  unfold atI ixN
  rw [if_pos (by decide), if_pos (by rw [List.length_cons]; omega)]
  rfl
theorem sign_zero {c : Nat} : ((⟨#[c]⟩ : Str) = "0") ↔ c = 48 := by
  rw [str_zero]
  show [c] = [48] ↔ _
  simp
section
variable {K : PySem.W.Frag} (F : KF K) {vs : List V} {H : Hp} {Q : VK} {E : XK}
local macro_rules | `(tactic| walk_at "w") => `(tactic| try simp only [turnE, lcT, Snoc, tRet, tRetN, tAndV, tOrV, tNotV, tCB, tCons, tVar, tNil, tC, tOp, tSeq, tAsg, gName, gSub, tIfS, tDrop, tFn, tTup, tLst, tNext, tB, tTest, tNot, tAnd, tOr, tIf, tChain, tUn, rU, tFld, tPart, tNoPart, L2.tSl, tBM, tPar, tPar3, tTruth, tDNewK,
  L2.start, List.map_cons, List.map_nil, List.length_cons, List.length_nil, List.replicate_succ, List.replicate_zero, List.append_nil, List.nil_append, List.cons_append, List.singleton_append, Nat.sub_self, Nat.zero_add, Nat.reduceAdd, Nat.reduceSub,
  List.getElem?_cons_zero, List.getElem?_cons_succ, List.set_cons_zero, List.set_cons_succ, Option.some.injEq, exists_eq_left, exists_eq_left', V.int.injEq, V.bl.injEq, V.str.injEq, V.ref.injEq,
  uAdd_int, uAdd_str, uSub_int, uMul_int, uMul_str, uDiv_int, uMod_int, uPow_int, uLt_int, uLe_int, uGt_int, uGe_int, uIs_non, uNis_non, uIs_bl, uNis_bl, sp1, sp2, sp3, sp4, uEq_int, uEq_str, uNe_int, uNe_str, uSl_str, uLen_str, decide_eq_true_eq])
local macro_rules | `(tactic| walk_at "1") => `(tactic| try simp only [turnE, lcT, Snoc, tRet, tRetN, tAndV, tOrV, tNotV, tCB, tCons, tVar, tNil, tC, tOp, tAsg, gName, gSub, tIfS, tDrop, tFn, tTup, tLst, tNext, tB, tTest, tNot, tAnd, tOr, tIf, tChain, tUn, rU, tFld, tPart, tNoPart, L2.tSl, tBM, tPar, tPar3, tTruth, tDNewK,
  L2.start, List.map_cons, List.map_nil, List.length_cons, List.length_nil, List.replicate_succ, List.replicate_zero, List.append_nil, List.nil_append, List.cons_append, List.singleton_append, Nat.sub_self, Nat.zero_add, Nat.reduceAdd, Nat.reduceSub,
  List.getElem?_cons_zero, List.getElem?_cons_succ, List.set_cons_zero, List.set_cons_succ, Option.some.injEq, exists_eq_left, exists_eq_left', V.int.injEq, V.bl.injEq, V.str.injEq, V.ref.injEq,
  uAdd_int, uAdd_str, uSub_int, uMul_int, uMul_str, uDiv_int, uMod_int, uPow_int, uLt_int, uLe_int, uGt_int, uGe_int, uIs_non, uNis_non, uIs_bl, uNis_bl, sp1, sp2, sp3, sp4, uEq_int, uEq_str, uNe_int, uNe_str, uSl_str, uLen_str, decide_eq_true_eq])
local macro_rules | `(tactic| walk_at "s") => `(tactic| ((try dsimp only [turnE]); with_reducible refine seq_ ?_))

include F in
theorem read_is_numeral (h : sp_is_numeral K vs H Q E) : t_is_numeral K E { nx := fun _ H' => Q .non H', rt := Q } (start ["word"] vs) H := by
  match vs, h with
  | [_], ⟨w, rfl, hl, q⟩ =>
    unfold t_is_numeral
    walk_at "1"
    by_cases e : w = ""
    · have e2 := str_nil.mp e
      simp only [e, decide_true, Bool.not_true, Bool.false_eq_true, if_false]
      have : isNum (tl w) = false := by rw [e2]; rfl
      rw [this] at q
      exact q
    · simp only [e, decide_false, Bool.not_false, if_true]
      have ne : tl w ≠ [] := fun z => e (str_nil.mpr z)
      obtain ⟨c, r, hc⟩ : ∃ c r, tl w = c :: r := by
        cases z : tl w with
        | nil => exact absurd z ne
        | cons c r => exact ⟨c, r, rfl⟩
      refine ⟨(by first | exact rfl | exact Or.inl rfl | exact ⟨_, rfl⟩ | trivial), w, _, rfl, rfl, Nat.le_trans hl (by decide), ?_⟩
      walk_at "1"
      by_cases e2 : Txt.stripChars w "0123456789" = ""
      · have ad := (strip_dig w).mp e2
        simp only [e2, decide_true, if_true]
        refine ix_first hl hc ?_
        walk_at "1"
        have en : isNum (tl w) = (!decide (c = 48) || decide (w = "0")) := by
          unfold isNum
          rw [ad, hc]
          have : decide (w = "0") = (c :: r == [48]) := by
            rw [← hc, Bool.eq_iff_iff, decide_eq_true_iff, str_zero, beq_iff_eq]
          rw [this, Bool.eq_iff_iff]
          simp
        rw [en] at q
        by_cases e3 : c = 48
        · simpa [e3, sign_zero] using q
        · simpa [e3, sign_zero] using q
      · have ad : (tl w).all dig = false := by
          rw [Bool.eq_false_iff]
          exact fun z => e2 ((strip_dig w).mpr z)
        have : isNum (tl w) = false := by unfold isNum; rw [ad, Bool.false_and, Bool.and_false]
        rw [this] at q
        simpa [e2] using q
theorem wOk_num (w : List Nat) : wOk w = (w == [45] || (isNum w && !(w == [48]))) := by
  unfold wOk numOk isNum
  cases w with
  | nil => rfl
  | cons c r =>
    have e : ((c :: r : List Nat).head? == some 48) = decide (c = 48) := by
      rw [Bool.eq_iff_iff, beq_iff_eq, decide_eq_true_iff]
      simp
    rw [e]
    by_cases h1 : c = 48
    · subst h1
      cases r with
      | nil => decide
      | cons d t =>
        have e2 : (48 :: d :: t == [48]) = false := by simp
        rw [e2]
        simp
    · have e2 : (c :: r == [48]) = false := by simp [h1]
      rw [e2]
      simp
include F in
theorem read__is_price_text (h : sp__is_price_text K vs H Q E) : t__is_price_text K E { nx := fun _ H' => Q .non H', rt := Q } (start ["word"] vs) H := by
  match vs, h with
  | [_], ⟨w, rfl, hl, q⟩ =>
    unfold t__is_price_text sp_is_numeral
    walk_at "1"
    rw [wOk_num] at q
    have e1 : decide (w = "-") = (tl w == [45]) := by rw [Bool.eq_iff_iff, decide_eq_true_iff, str_bar, beq_iff_eq]
    have e2 : decide (w = "0") = (tl w == [48]) := by rw [Bool.eq_iff_iff, decide_eq_true_iff, str_zero, beq_iff_eq]
    by_cases z1 : w = "-"
    · rw [if_pos z1]
      have : (tl w == [45]) = true := by rw [← e1]; exact decide_eq_true z1
      rw [this, Bool.true_or] at q
      exact q
    · rw [if_neg z1]
      have : (tl w == [45]) = false := by rw [← e1]; exact decide_eq_false z1
      rw [this, Bool.false_or] at q
      refine ⟨hl, ?_⟩
      rw [e2]
      cases z2 : isNum (tl w) with
      | true =>
        rw [z2, Bool.true_and] at q
        exact q
      | false =>
        rw [z2, Bool.false_and] at q
        exact q
include F in
theorem read__price_of (h : sp__price_of K vs H Q E) : t__price_of K E { nx := fun _ H' => Q .non H', rt := Q } (start ["word"] vs) H := by
  match vs, h with
  | [_], ⟨w, rfl, ho, hl, q⟩ =>
    unfold t__price_of
    walk_at "1"
    by_cases e : w = "-"
    · rw [if_pos e]
      have : wP (tl w) = none := by unfold wP; rw [if_pos (str_bar.mp e)]
      rw [this] at q
      exact q
    · rw [if_neg e]
      have n : ¬ tl w = [45] := fun z => e (str_bar.mpr z)
      have h2 : numOk (tl w) = true := by
        unfold wOk at ho
        rw [Bool.or_eq_true] at ho
        exact ho.resolve_left fun z => n (eq_of_beq z)
      have : wP (tl w) = some (numV (tl w)) := by unfold wP; rw [if_neg n]; rfl
      rw [this] at q
      exact int_word h2 hl q
/-- [f(x) for x in texts], f a judge that only makes new things -/
theorem all_texts {ys : List Str} {f : Str → Bool} {p : Addr} {te : TE} {j : Nat} {σ : L2.St} {H0 : Hp} (hs : SqL K H0 p (ys.map V.str)) (hl : ys.length ≤ 1000000) {tt : TE} (ht : ∀ Q, tt σ H0 Q = Q (.ref p) H0)
    (one : ∀ y ∈ ys, ∀ (H : Hp) (Q' : VK), Same H0 H → (∀ H', Same H H' → Q' (.bl (f y)) H') → te (σ.set j (some (.str y))) H Q') (q : ∀ H', Same H0 H' → Q (.bl (ys.all f)) H') :
    tLc (iSeq K tt) (gName j) tYes te [j] σ H0 (fun x H1 => rAll K [x] H1 Q) := by
  refine tLc_seq (p := p) (.inl hs) ht fun J G P hG D hD => ?_
  refine lc_grow P (fun acc _ => acc = ((ys.map f).take acc.length).map V.bl) hD (by rw [List.length_map]; exact Nat.le_trans hl (by decide)) hG (fun _ _ => rfl) (fun _ _ _ _ _ _ h => h) ?_ ?_
  · rintro i y acc H2 Q' hy s hl ha k
    rw [List.getElem?_map] at hy
    obtain ⟨z, hz, rfl⟩ := Option.map_eq_some_iff.mp hy
    refine one z (List.mem_of_getElem? hz) H2 Q' s fun H' s' => k _ _ s' (take_snoc V.bl ha hl (by rw [List.getElem?_map, hz]; rfl))
  · rintro acc H2 hl s hD2 ha
    rw [List.length_map] at hl
    have hm : acc = (ys.map f).map V.bl := by
      rw [ha, hl, List.take_of_length_le (by simp)]
    refine ⟨D, ys.map f, rfl, .inl (.inl (by rw [hD2, hm])), ?_⟩
    have := q H2 s
    rw [List.all_map]
    exact this
theorem split_all {x : Str} {b : Str} {g : List Nat → List (List Nat)} (e : (Txt.split x b).map tl = g (tl x)) (f : List Nat → Bool) : (Txt.split x b).all (fun y => f (tl y)) = (g (tl x)).all f := by
  rw [← e, List.all_map]
  rfl
theorem split_len {x : Str} {b : Str} {g : List Nat → List (List Nat)} (e : (Txt.split x b).map tl = g (tl x)) : (Txt.split x b).length = (g (tl x)).length := by
  rw [← e, List.length_map]
theorem lines_few {x : Str} (h : x.length ≤ 100000) : (Txt.split x "\n").length ≤ 1000000 := by
  rw [split_len (tl_split x)]
  have := spl_len 10 (tl x) []
  have e := len_tl x
  unfold linesL
  omega
theorem words_few {x : Str} (h : x.length ≤ 100000) : (Txt.split x " ").length ≤ 1000000 := by
  rw [split_len (tl_splitW x)]
  have := spl_len 32 (tl x) []
  have e := len_tl x
  unfold wordsL
  omega
theorem word_len {x w : Str} (h : x.length ≤ 100000) (m : w ∈ Txt.split x " ") : w.length ≤ 100000 := by
  have m2 : tl w ∈ wordsL (tl x) := by rw [← tl_splitW]; exact List.mem_map.mpr ⟨w, m, rfl⟩
  obtain ⟨p, q, e⟩ := word_part m2
  have := congrArg List.length e
  have e1 := len_tl x
  have e2 := len_tl w
  simp only [List.length_append] at this
  omega
theorem line_len {x w : Str} (h : x.length ≤ 100000) (m : w ∈ Txt.split x "\n") : w.length ≤ 100000 := by
  have m2 : tl w ∈ linesL (tl x) := by rw [← tl_split]; exact List.mem_map.mpr ⟨w, m, rfl⟩
  obtain ⟨p, q, e⟩ := line_part m2
  have := congrArg List.length e
  have e1 := len_tl x
  have e2 := len_tl w
  simp only [List.length_append] at this
  omega
theorem tLc_inN {t : TE} {g : TG} {tt : TT} {te : TE} {vs : List Nat} {σ : L2.St} {H : Hp} {Q : VK} (h : t σ H fun x H1 => ∃ a, x = .ref a ∧ (∃ xs, SqL K H1 a xs) ∧ ∀ D, H1 D = none → LcB (Itl K a) g tt te vs σ H1 D (Q (.ref D))) : tLc (iSeq K t) g tt te vs σ H Q := .inl h
include F in
theorem read__is_line (h : sp__is_line K vs H Q E) : t__is_line K E { nx := fun _ H' => Q .non H', rt := Q } (start ["line", "words", "word"] vs) H := by
  match vs, h with
  | [_], ⟨w, rfl, hl, q⟩ =>
    unfold t__is_line sp__is_price_text
    walk_at "s"
    walk_at "1"
    refine ⟨rfl, split_of (by decide +kernel) (by omega) fun p hp => ?_⟩
    have s1 : Same H (upd H p (.lst ((Txt.split w " ").map V.str))) := same_new hp
    have gp : upd H p (.lst ((Txt.split w " ").map V.str)) p = some (.lst ((Txt.split w " ").map V.str)) := upd_same
    generalize upd H p (.lst ((Txt.split w " ").map V.str)) = H1 at *
    have en := split_len (tl_splitW w)
    refine uLen_seq (.inl (.inl (.inl gp))) (uLen_seq (.inr (F.ways H1)) ?_)
    walk_at "1"
    rw [List.length_map, en]
    by_cases e : (wordsL (tl w)).length = 6
    · rw [if_pos (show ((wordsL (tl w)).length : Int) = ((6 : Nat) : Int) by omega)]
      refine all_texts (f := fun y => wOk (tl y)) (.inl (.inl gp)) (words_few hl) (tVar_eq rfl) (fun y hy H2 Q' s2 k => ?_) fun H2 s2 => ?_
      · simp only [List.set_cons_zero, List.set_cons_succ]
        walk_at "1"
        exact ⟨word_len hl hy, k _ (Same.refl _)⟩
      · rw [split_all (tl_splitW w) wOk]
        have := q H2 (s1.trans s2)
        unfold lineOk at this
        rw [decide_eq_true e, Bool.true_and] at this
        exact this
    · rw [if_neg (show ¬ ((wordsL (tl w)).length : Int) = ((6 : Nat) : Int) by omega)]
      have := q H1 s1
      unfold lineOk at this
      rw [decide_eq_false e, Bool.false_and] at this
      exact this
include F in
theorem read__is_yard_text (h : sp__is_yard_text K vs H Q E) : t__is_yard_text K E { nx := fun _ H' => Q .non H', rt := Q } (start ["value", "lines", "line"] vs) H := by
  match vs, h with
  | [x], ⟨a, ha, hl, q⟩ =>
    unfold t__is_yard_text sp__is_line
    walk_at "s"
    walk_at "1"
    refine isi_ty (b := .str) F rfl ha ⟨_, rfl, ?_⟩
    by_cases e : a = .str
    · subst e
      obtain ⟨w, rfl⟩ := ha.str_inv
      have hl := hl w rfl
      rw [if_neg (by decide)]
      show tSeq _ _ _ _ _
      walk_at "s"
      walk_at "1"
      refine ⟨rfl, split_of (by decide +kernel) (by omega) fun p hp => ?_⟩
      have s1 : Same H (upd H p (.lst ((Txt.split w "\n").map V.str))) := same_new hp
      have gp : upd H p (.lst ((Txt.split w "\n").map V.str)) p = some (.lst ((Txt.split w "\n").map V.str)) := upd_same
      generalize upd H p (.lst ((Txt.split w "\n").map V.str)) = H1 at *
      have en := split_len (tl_split w)
      refine uLen_seq (.inl (.inl (.inl gp))) ?_
      walk_at "1"
      rw [List.length_map, en]
      by_cases e : (linesL (tl w)).length ≤ 60
      · rw [if_pos (by omega)]
        refine all_texts (f := fun y => lineOk (tl y)) (.inl (.inl gp)) (lines_few hl) (tVar_eq rfl) (fun y hy H2 Q' s2 k => ?_) fun H2 s2 => ?_
        · simp only [List.set_cons_zero, List.set_cons_succ]
          walk_at "1"
          exact ⟨line_len hl hy, fun H' s' => k _ s'⟩
        · rw [split_all (tl_split w) lineOk]
          have := q H2 (s1.trans s2)
          unfold isYT textOk at this
          dsimp only at this
          rw [decide_eq_true e, Bool.true_and] at this
          exact this
      · rw [if_neg (by omega)]
        have := q H1 s1
        unfold isYT textOk at this
        dsimp only at this
        rw [decide_eq_false e, Bool.false_and] at this
        exact this
    · have : a.sub .str = false := by
        revert e
        cases a <;> decide
      rw [this, if_pos (by decide)]
      have nx : isYT x = false := by
        cases x with
        | str z => exact absurd ha.of_str e
        | _ => rfl
      have := q H (Same.refl _)
      rw [nx] at this
      exact this
include F in
theorem read_Yard_read (h : sp_Yard_read K vs H Q E) : t_Yard_read K E { nx := fun _ H' => Q .non H', rt := Q } (start ["cls", "text", "line", "word"] vs) H := by
  match vs, h with
  | [_, x], ⟨a, rfl, ha, tb, q, rz⟩ =>
    unfold t_Yard_read sp__is_yard_text sp__price_of
    walk_at "s"
    walk_at "1"
    refine ⟨a, ha, fun t e => by have := (tb t e).len; rwa [← len_tl] at this, fun H1 s1 => ?_⟩
    cases e : isYT x with
    | false =>
      rw [if_pos (by decide)]
      exact rse_var (K := K) (c := "InvalidText") (f := "value") (E := E) (i := 1) rfl ((rz e).same s1)
    | true =>
      rw [if_neg (by decide)]
      obtain ⟨t, rfl⟩ : ∃ t, x = .str t := by
        cases x with
        | str z => exact ⟨z, rfl⟩
        | _ => cases e
      have tb := tb t rfl
      have q := q t rfl e
      have hl : t.length ≤ 100000 := by have := tb.len; rwa [← len_tl] at this
      have okT : textOk (tl t) = true := e
      have few : (linesL (tl t)).length ≤ 60 ∧ (linesL (tl t)).all lineOk = true := by
        unfold textOk at okT
        rw [Bool.and_eq_true, decide_eq_true_eq] at okT
        exact okT
      refine ⟨rfl, ?_⟩
      walk_at "1"
      refine tLc_inN ?_
      walk_at "1"
      refine ⟨rfl, split_of (by decide +kernel) (by omega) fun p hp => ⟨p, rfl, ⟨_, .inl (.inl upd_same)⟩, fun D hD => ?_⟩⟩
      have s2 : Same H1 (upd H1 p (.lst ((Txt.split t "\n").map V.str))) := same_new hp
      have gp : upd H1 p (.lst ((Txt.split t "\n").map V.str)) p = some (.lst ((Txt.split t "\n").map V.str)) := upd_same
      generalize upd H1 p (.lst ((Txt.split t "\n").map V.str)) = H2 at *
      have en := split_len (tl_split t)
      have at_line : ∀ (i : Nat) (y : Str), (Txt.split t "\n")[i]? = some y → (rowsT (tl t))[i]? = some ((wordsL (tl y)).map wP) ∧ lineOk (tl y) = true ∧ y.length ≤ 100000 ∧ tl y ∈ linesL (tl t) := fun i y hy => by
        have m : tl y ∈ linesL (tl t) := by rw [← tl_split]; exact List.mem_map.mpr ⟨y, List.mem_of_getElem? hy, rfl⟩
        refine ⟨?_, List.all_eq_true.mp few.2 _ m, line_len hl (List.mem_of_getElem? hy), m⟩
        unfold rowsT
        rw [← tl_split, List.map_map, List.getElem?_map, hy]
        rfl
      refine lc_fresh (plain_L (xs := (Txt.split t "\n").map V.str)) (fun i => ((rowsT (tl t))[i]?.getD []).map pV) hD (by rw [List.length_map, en]; omega) (fun H' e => .inl (.inl (e _ _ gp))) ?_ ?_
      · rintro i x H3 Q' hx s3 k
        rw [List.getElem?_map] at hx
        obtain ⟨y, hy, rfl⟩ := Option.map_eq_some_iff.mp hx
        obtain ⟨r1, r2, r3, r4⟩ := at_line i y hy
        rw [r1, Option.getD_some] at k
        simp only [List.set_cons_zero, List.set_cons_succ]
        refine tLc_inN ?_
        walk_at "1"
        refine ⟨rfl, split_of (by decide +kernel) (by omega) fun p2 hp2 => ⟨p2, rfl, ⟨_, .inl (.inl upd_same)⟩, fun D2 hD2 => ?_⟩⟩
        have s4 : Same H3 (upd H3 p2 (.lst ((Txt.split y " ").map V.str))) := same_new hp2
        have gp2 : upd H3 p2 (.lst ((Txt.split y " ").map V.str)) p2 = some (.lst ((Txt.split y " ").map V.str)) := upd_same
        generalize upd H3 p2 (.lst ((Txt.split y " ").map V.str)) = H4 at *
        have ew := split_len (tl_splitW y)
        have nD2 : H3 D2 = none := by
          cases e : H3 D2 with
          | none => rfl
          | some o => rw [s4 _ _ e] at hD2; cases hD2
        have l6 : (wordsL (tl y)).length = 6 ∧ (wordsL (tl y)).all wOk = true := by
          unfold lineOk at r2
          rw [Bool.and_eq_true, decide_eq_true_eq] at r2
          exact r2
        refine lc_grow (plain_L (xs := (Txt.split y " ").map V.str)) (fun acc _ => acc = (((wordsL (tl y)).map wP).take acc.length).map pV) hD2 (by rw [List.length_map, ew, l6.1]; decide) (fun H' e => .inl (.inl (e _ _ gp2))) (fun _ _ => rfl) (fun _ _ _ _ _ _ h => h) ?_ ?_
        · rintro n z acc H5 Q2 hz s5 hl5 ha k2
          rw [List.getElem?_map] at hz
          obtain ⟨w, hw, rfl⟩ := Option.map_eq_some_iff.mp hz
          have mw : tl w ∈ wordsL (tl y) := by rw [← tl_splitW]; exact List.mem_map.mpr ⟨w, List.mem_of_getElem? hw, rfl⟩
          simp only [List.set_cons_zero, List.set_cons_succ]
          walk_at "1"
          refine ⟨List.all_eq_true.mp l6.2 _ mw, by have := tb.word r4 mw; rwa [← len_tl] at this, ?_⟩
          refine k2 _ _ (Same.refl _) (take_snoc pV ha hl5 ?_)
          rw [← tl_splitW, List.map_map, List.getElem?_map, hw]
          rfl
        · rintro acc H5 hl5 s5 gD2 ha
          rw [List.length_map, ew] at hl5
          refine k D2 H5 nD2 (s4.trans s5) ?_
          rw [gD2, ha, List.take_of_length_le (by rw [hl5, List.length_map]; exact Nat.le_refl _)]
      · rintro H3 ls s3 hl3 gD at_ _ _ _
        rw [List.length_map, en] at hl3
        have hv : RowV K H3 (.ref D) (rowsT (tl t)) := by
          refine ⟨D, _, rfl, .inl (.inl (.inl gD)), by unfold rowsT; rw [List.length_map, List.length_map, hl3], fun m v r z1 z2 => ?_⟩
          rw [List.getElem?_map] at z1
          obtain ⟨am, ham, rfl⟩ := Option.map_eq_some_iff.mp z1
          refine ⟨am, rfl, .inl (.inl (.inl ?_))⟩
          have := at_ m am ham
          rw [z2] at this
          exact this
        refine make_yd hv (rowsT_ok okT (spl_ne 10 _ _)) fun z H4 s4 nz hz => q z H4 (((s1.trans s2).trans s3).trans s4) ?_ hz
        cases e4 : H z with
        | none => rfl
        | some u => rw [((s1.trans s2).trans s3) _ _ e4] at nz; cases nz
end
end U
namespace U
open PySem PySem.Spec PyProof.Rows L2

/-! ### the boxes of numbers that the laws draw from -/
def Bx (H : Hp) (b : Addr) (m : Int) : Prop := ∃ g s k : Int, H b = some (.lst [.int g, .int s, .int k]) ∧ 0 ≤ g ∧ 0 ≤ s ∧ s < 2147483648 ∧ 0 ≤ k ∧ k ≤ m
theorem Bx.same {H H' : Hp} {b : Addr} {m : Int} (h : Bx H b m) (e : Same H H') : Bx H' b m := by
  obtain ⟨g, s, k, h1, h2⟩ := h
  exact ⟨g, s, k, e _ _ h1, h2⟩
theorem Bx.at_ {H : Hp} {b : Addr} {m : Int} (h : Bx H b m) : ∃ l, H b = some (.lst l) := by
  obtain ⟨g, s, k, h1, _⟩ := h
  exact ⟨_, h1⟩
theorem Bx.upd {H : Hp} {b D : Addr} {m : Int} {o : HO} (h : Bx H b m) (n : D ≠ b) : Bx (upd H D o) b m := by
  obtain ⟨g, s, k, h1, h2⟩ := h
  exact ⟨g, s, k, by rw [upd_ne n.symm]; exact h1, h2⟩
def sp__law_take (_K : PySem.W.Frag) : Sp := sp2 fun x am H Q _ => ∃ b m k, x = .ref b ∧ am = .int k ∧ 0 < k ∧ k ≤ 1000000000000000000000000000000 ∧ Bx H b m ∧ m ≤ 1000000000 ∧ ∀ d H', 0 ≤ d → d < k → Off b H H' → Bx H' b (m + 1) → Q (.int d) H'
def sp__law_cell (K : PySem.W.Frag) : Sp := sp2 fun x y H Q _ => ∃ (a : Addr) (ns : List Int) (i : Int), x = .ref a ∧ y = .int i ∧ SqL K H a (ns.map V.int) ∧ 0 ≤ i ∧ i < 1000000 ∧ ∀ c H', Same H H' → Q (.int c) H'
def sp__law_bag (_K : PySem.W.Frag) : Sp := sp1 fun x H Q _ => ∃ c, x = .int c ∧ ∀ b H', H b = none → Same H H' → Bx H' b 0 → Q (.ref b) H'
def t__law_take (K : PySem.W.Frag) (E : XK) : TS := (tSeq (tIfS (tTest (tOp uGt (tOp (uIx K) (tVar 0) (tC (.int 0))) (tC (.int 0)))) (tSeq (tAsg (tOp uMod (tCB rInt (tCons (tOp (uIx K) (tVar 0) (tC (.int 0))) tNil)) (tVar 1)) (gName 2)) (tSeq (tAsg (tOp uDiv (tOp (uIx K) (tVar 0) (tC (.int 0))) (tVar 1)) (gSub (tVar 0) (tC (.int 0)) rSetL)) (tRet (tVar 2)))) tNext) (tSeq (tAsg (tOp uAdd (tOp (uIx K) (tVar 0) (tC (.int 2))) (tC (.int 1))) (gSub (tVar 0) (tC (.int 2)) rSetL)) (tSeq (tAsg (tOp uMod (tOp uPow (tCB rInt (tCons (tOp uAdd (tOp uAdd (tOp (uIx K) (tVar 0) (tC (.int 1))) (tOp uMul (tC (.int 86028121)) (tOp (uIx K) (tVar 0) (tC (.int 2))))) (tC (.int 947))) tNil)) (tC (.int 5))) (tC (.int 2147483647))) (gName 3)) (tSeq (tAsg (tOp uMod (tOp uPow (tCB rInt (tCons (tOp uAdd (tVar 3) (tOp uMul (tC (.int 104729)) (tOp (uIx K) (tVar 0) (tC (.int 2))))) tNil)) (tC (.int 3))) (tC (.int 2147483587))) (gName 3)) (tRet (tOp uMod (tCB rInt (tCons (tOp uDiv (tVar 3) (tC (.int 16))) tNil)) (tVar 1)))))))
def t__law_cell (K : PySem.W.Frag) (E : XK) : TS := (tSeq (tAsg (tOp uAdd (tOp uMul (tC (.int 86028121)) (tVar 1)) (tC (.int 947))) (gName 2)) (tRet (tIf (tTest (tOp uLt (tVar 1) (tCB (uLen K) (tCons (tVar 0) tNil)))) (tOp (uIx K) (tVar 0) (tVar 1)) (tOp uAdd (tVar 2) (tIf (tTest (tOp uGt (tCB (uLen K) (tCons (tVar 0) tNil)) (tC (.int 0)))) (tOp uMod (tCB rInt (tCons (tOp (uIx K) (tVar 0) (tC (.int 0))) tNil)) (tC (.int 1000003))) (tC (.int 0)))))))
def t__law_bag (K : PySem.W.Frag) (E : XK) : TS := (tRet (tLst (tCons (tCB uMax2 (tCons (tC (.int 0)) (tCons (tOp uSub (tVar 0) (tOp uPow (tC (.int 10)) (tC (.int 18)))) tNil))) (tCons (tOp uMod (tCB rInt (tCons (tVar 0) tNil)) (tC (.int 2147483629))) (tCons (tC (.int 0)) tNil)))))
theorem tLc_rng1 {t : TA} {σ : L2.St} {g : TG} {tt : TT} {te : TE} {vs : List Nat} {Q : VK} {H : Hp} {n : Nat} (h : ∀ R : List V → Hp → Prop, R [.int n] H → t σ H R) (hn : n ≤ 1000000000) (hc : ∀ D, H D = none → LcB (Itr 0 n) g tt te vs σ H D (Q (.ref D))) : tLc (iRng1 t) g tt te vs σ H Q := by
  refine h _ ⟨_, rfl, by omega, by omega, ?_⟩
  rw [Int.toNat_natCast]
  exact hc
theorem Bx.ne {H : Hp} {b : Addr} {m : Int} {l : Addr} (h : Bx H b m) (hl : H l = none) : l ≠ b := by
  obtain ⟨l0, hb0⟩ := h.at_
  rintro rfl
  rw [hl] at hb0
  cases hb0
/-- how many cells a law looks at -/
theorem most_of (n : Nat) (lim : Int) (hl : lim ≤ 100) : ∃ N : Nat, N ≤ 100 ∧ (if (if (n : Int) < lim then (n : Int) else lim) > 2 then (if (n : Int) < lim then (n : Int) else lim) else 2) = (N : Int) := by
  refine ⟨(if (if (n : Int) < lim then (n : Int) else lim) > 2 then (if (n : Int) < lim then (n : Int) else lim) else 2).toNat, ?_, ?_⟩
  · split <;> split <;> omega
  · split <;> split <;> omega
def sp_law0 (K : PySem.W.Frag) : Sp := sp1 fun x H Q _ => ∃ (a : Addr) (ns : List Int), x = .ref a ∧ SqL K H a (ns.map V.int) ∧ ∀ H', Q (.bl true) H'
section
variable {K : PySem.W.Frag} (F : KF K) {vs : List V} {H : Hp} {Q : VK} {E : XK}
local macro_rules | `(tactic| walk_at "w") => `(tactic| try simp only [turnE, lcT, Snoc, tRet, tRetN, tAndV, tOrV, tNotV, tCB, tCons, tVar, tNil, tC, tOp, tSeq, tAsg, gName, gSub, tIfS, tDrop, tFn, tTup, tLst, tNext, tB, tTest, tNot, tAnd, tOr, tIf, tChain, tUn, rU, tFld, tPart, tNoPart, L2.tSl, tBM, tPar, tPar3, tTruth, tDNewK,
  L2.start, List.map_cons, List.map_nil, List.length_cons, List.length_nil, List.replicate_succ, List.replicate_zero, List.append_nil, List.nil_append, List.cons_append, List.singleton_append, Nat.sub_self, Nat.zero_add, Nat.reduceAdd, Nat.reduceSub,
  List.getElem?_cons_zero, List.getElem?_cons_succ, List.set_cons_zero, List.set_cons_succ, Option.some.injEq, exists_eq_left, exists_eq_left', V.int.injEq, V.bl.injEq, V.str.injEq, V.ref.injEq,
  uAdd_int, uAdd_str, uSub_int, uMul_int, uMul_str, uDiv_int, uMod_int, uPow_int, uLt_int, uLe_int, uGt_int, uGe_int, uIs_non, uNis_non, uIs_bl, uNis_bl, sp1, sp2, sp3, sp4, uEq_int, uEq_str, uNe_int, uNe_str, uSl_str, uLen_str, decide_eq_true_eq])
local macro_rules | `(tactic| walk_at "1") => `(tactic| try simp only [turnE, lcT, Snoc, tRet, tRetN, tAndV, tOrV, tNotV, tCB, tCons, tVar, tNil, tC, tOp, tAsg, gName, gSub, tIfS, tDrop, tFn, tTup, tLst, tNext, tB, tTest, tNot, tAnd, tOr, tIf, tChain, tUn, rU, tFld, tPart, tNoPart, L2.tSl, tBM, tPar, tPar3, tTruth, tDNewK,
  L2.start, List.map_cons, List.map_nil, List.length_cons, List.length_nil, List.replicate_succ, List.replicate_zero, List.append_nil, List.nil_append, List.cons_append, List.singleton_append, Nat.sub_self, Nat.zero_add, Nat.reduceAdd, Nat.reduceSub,
  List.getElem?_cons_zero, List.getElem?_cons_succ, List.set_cons_zero, List.set_cons_succ, Option.some.injEq, exists_eq_left, exists_eq_left', V.int.injEq, V.bl.injEq, V.str.injEq, V.ref.injEq,
  uAdd_int, uAdd_str, uSub_int, uMul_int, uMul_str, uDiv_int, uMod_int, uPow_int, uLt_int, uLe_int, uGt_int, uGe_int, uIs_non, uNis_non, uIs_bl, uNis_bl, sp1, sp2, sp3, sp4, uEq_int, uEq_str, uNe_int, uNe_str, uSl_str, uLen_str, decide_eq_true_eq])
local macro_rules | `(tactic| walk_at "s") => `(tactic| ((try dsimp only [turnE]); with_reducible refine seq_ ?_))

theorem uIx_lst {p : Addr} {xs : List V} {i : Int} {v : V} (h : H p = some (.lst xs)) (hi : atI xs i = some v) (q : Q v H) : uIx K (.ref p) (.int i) H Q := ⟨xs, v, .inl (.inl (.inl h)), hi, q⟩
theorem rInt_int {i : Int} (q : Q (.int i) H) : rInt [.int i] H Q := .inl ⟨i, rfl, q⟩
theorem rSetL_of {p : Addr} {xs : List V} {k : Int} {j : Nat} {v : V} {Q : Hp → Prop} (h : H p = some (.lst xs)) (hj : ixN xs.length k = some j) (q : Q (upd H p (.lst (xs.set j v)))) : rSetL (.ref p) (.int k) v H Q := ⟨p, xs, k, j, rfl, rfl, h, hj, q⟩
theorem cdivw_of {i j : Int} (h : 0 < j) (h2 : j ≤ 1000000000000000000000000000000) : CDivW i j := by
  refine ⟨h, ?_⟩
  have : j.natAbs ≠ 0 := by omega
  have h3 : j.natAbs.log2 < 100 := (Nat.log2_lt this).mpr (by omega)
  omega
theorem tyL {l : Addr} {xs : List V} (h : H l = some (.lst xs)) : tyV K "list" (.ref l) H := Or.inl ⟨rfl, xs, .inl (.inl h)⟩
theorem app_of {l : Addr} {xs : List V} {y : V} (h : H l = some (.lst xs)) (hx : xs.length ≤ 100000) (q : Q .non (upd H l (.lst (xs ++ [y])))) : rAppend (.ref l) [y] H Q := ⟨l, xs, y, rfl, rfl, h, Nat.lt_of_lt_of_le (show xs.length < 100001 by omega) (by decide), q⟩
theorem take_of {b : Addr} {m k : Int} (hb : Bx H b m) (hm : m ≤ 1000000000) (h0 : 0 < k) (h1 : k ≤ 1000000000000000000000000000000) (q : ∀ d H', 0 ≤ d → d < k → Off b H H' → Bx H' b (m + 1) → Q (.int d) H') : sp__law_take K [.ref b, .int k] H Q E :=
  ⟨b, m, k, rfl, rfl, h0, h1, hb, hm, q⟩
include F in
theorem read__law_cell (h : sp__law_cell K vs H Q E) : t__law_cell K E { nx := fun _ H' => Q .non H', rt := Q } (start ["_law_script", "_law_k", "_law_spare"] vs) H := by
  match vs, h with
  | [_, _], ⟨a, ns, i, rfl, rfl, ha, h0, h1, q⟩ =>
    unfold t__law_cell
    walk_at "s"
    walk_at "1"
    refine ⟨.inl (by omega), ?_⟩
    refine uLen_seq (.inl ha) ?_
    refine ⟨_, rfl, ?_⟩
    by_cases hi : i < ((ns.map V.int).length : Int)
    · rw [if_pos (decide_eq_true hi)]
      have hl : i.toNat < ns.length := by simp at hi; omega
      refine ⟨_, .int ns[i.toNat], .inl ha, ?_, q _ _ (Same.refl H)⟩
      unfold atI ixN
      rw [if_pos h0, if_pos hi]
      show (ns.map V.int)[i.toNat]? = _
      rw [List.getElem?_map, List.getElem?_eq_getElem hl]
      rfl
    · rw [if_neg (by simpa using hi)]
      walk_at "1"
      refine uLen_seq (.inl ha) ?_
      refine ⟨_, rfl, ?_⟩
      by_cases hz : (0 : Int) < ((ns.map V.int).length : Int)
      · rw [if_pos (decide_eq_true hz)]
        have hl : 0 < ns.length := by simp at hz; omega
        refine ⟨_, .int ns[0], .inl ha, ?_, ?_⟩
        · unfold atI ixN
          rw [if_pos (by decide), if_pos hz]
          show (ns.map V.int)[0]? = _
          rw [List.getElem?_map, List.getElem?_eq_getElem hl]
          rfl
        · refine rInt_int ?_
          walk_at "1"
          exact ⟨by omega, q _ _ (Same.refl H)⟩
      · rw [if_neg (by simpa using hz)]
        walk_at "1"
        exact q _ _ (Same.refl H)
include F in
theorem read__law_bag (h : sp__law_bag K vs H Q E) : t__law_bag K E { nx := fun _ H' => Q .non H', rt := Q } (start ["_law_cell_here"] vs) H := by
  match vs, h with
  | [_], ⟨c, rfl, q⟩ =>
    unfold t__law_bag
    walk_at "1"
    refine ⟨⟨by omega, by omega, by omega⟩, 0, c - 10 ^ Int.toNat 18, rfl, rInt_int ?_⟩
    walk_at "1"
    refine ⟨by omega, by decide, fun b hb => q b _ hb (same_new hb) ⟨_, _, 0, upd_same, ?_, Int.emod_nonneg _ (by omega), ?_, by omega, by omega⟩⟩
    · split <;> omega
    · have := Int.emod_lt_of_pos c (show (0 : Int) < 2147483629 by omega)
      omega
include F in
theorem read__law_take (h : sp__law_take K vs H Q E) : t__law_take K E { nx := fun _ H' => Q .non H', rt := Q } (start ["_law_bag_here", "_law_limit", "_law_digit", "_law_mixed"] vs) H := by
  match vs, h with
  | [_, _], ⟨b, m, k, rfl, rfl, hk, hk2, ⟨g, s, n, hb, h1, h2, h3, h4, h5⟩, hm, q⟩ =>
    unfold t__law_take
    walk_at "w"
    refine uIx_lst hb rfl ?_
    walk_at "w"
    by_cases hg : 0 < g
    · simp only [hg, if_true]
      refine uIx_lst hb rfl (rInt_int ⟨hk, ?_⟩)
      refine uIx_lst hb rfl ?_
      walk_at "w"
      refine ⟨cdivw_of hk hk2, rSetL_of (j := 0) hb rfl ?_⟩
      walk_at "w"
      refine q _ _ (Int.emod_nonneg _ (by omega)) (Int.emod_lt_of_pos _ hk) off_upd ⟨_, _, _, upd_same, Int.ediv_nonneg h1 (by omega), h2, h3, h4, by omega⟩
    · simp only [hg, if_false]
      refine uIx_lst hb rfl ?_
      walk_at "w"
      refine rSetL_of (j := 2) hb rfl ?_
      have ha : upd H b (.lst ([.int g, .int s, .int n].set 2 (.int (n + 1)))) b = some (.lst [.int g, .int s, .int (n + 1)]) := upd_same
      have ho : Off b H (upd H b (.lst ([.int g, .int s, .int n].set 2 (.int (n + 1))))) := off_upd
      generalize upd H b (.lst ([.int g, .int s, .int n].set 2 (.int (n + 1)))) = H1 at *
      refine uIx_lst ha rfl ?_
      walk_at "w"
      refine uIx_lst ha rfl ?_
      walk_at "w"
      refine ⟨.inl (by omega), ?_⟩
      refine rInt_int ?_
      walk_at "w"
      refine ⟨⟨by omega, by omega, by omega⟩, by omega, ?_⟩
      generalize hx : (s + 86028121 * (n + 1) + 947) ^ (Int.toNat 5) % 2147483647 = x
      have hx1 : 0 ≤ x ∧ x < 2147483647 := by
        rw [← hx]
        exact ⟨Int.emod_nonneg _ (by omega), Int.emod_lt_of_pos _ (by omega)⟩
      refine uIx_lst ha rfl ?_
      walk_at "w"
      refine ⟨.inl (by omega), ?_⟩
      refine rInt_int ?_
      walk_at "w"
      refine ⟨⟨by omega, by omega, by omega⟩, by omega, ?_⟩
      generalize hy : (x + 104729 * (n + 1)) ^ (Int.toNat 3) % 2147483587 = y
      refine ⟨cdivw_of (by omega) (by omega), ?_⟩
      refine rInt_int ⟨hk, ?_⟩
      exact q _ _ (Int.emod_nonneg _ (by omega)) (Int.emod_lt_of_pos _ hk) ho ⟨_, _, _, ha, h1, h2, h3, by omega, by omega⟩
end
end U
namespace U
open PySem PySem.Spec PyProof.Rows L2

/-! ### the exceptions, made of a value -/
def efld (c : Str) : Str := if c = "NotAllowed" then "index" else if c = "TooMany" then "count" else "value"
def bareL : List Str := ["UnlikeYards", "NoYard", "NothingToUndo", "NothingToRedo"]
def Fs (c : Str) (v : V) : List (Str × V) := if c ∈ bareL then [] else if c = "NoWay" then [("goal", .int 5), ("start", v)] else [(efld c, v)]
/-- NoWay's __init__ -/
def sp_NoWay_init (K : PySem.W.Frag) : Sp := fun vs H Q _ => ∃ (a : Addr) (v u : V), vs = [.ref a, v, u] ∧ H a = some (exo a (He.ga K "NoWay") none) ∧ ∀ dx, H dx = none → dx ≠ a → Q .non (upd (upd (upd H dx (exd dx [("start", v)])) a (exo a (He.ga K "NoWay") (some dx))) dx (exd dx [("goal", u), ("start", v)]))
def t_NoWayI (K : PySem.W.Frag) : TS := tSeq (tOst K "start" (tVar 0) (tVar 1)) (tOst K "goal" (tVar 0) (tVar 2))
theorem noWay_len {K : PySem.W.Frag} : ∀ vs H Q E, sp_NoWay_init K vs H Q E → vs.length = (["self", "start", "goal"] : List Str).length := by
  intro vs H Q E h
  obtain ⟨a, v, u, rfl, _⟩ := h
  rfl
theorem read_NoWayI {K : PySem.W.Frag} (oc : OexC K (He.ga K "NoWay")) (n1 : PySem.W.findIn K (.ref (He.ga K "NoWay")) "start" = some none) (n2 : PySem.W.findIn K (.ref (He.ga K "NoWay")) "goal" = some none) {vs : List V} {H : Hp} {Q : VK} {E : XK} (h : sp_NoWay_init K vs H Q E) :
    t_NoWayI K { nx := fun _ H' => Q .non H', rt := Q } (start ["self", "start", "goal"] vs) H := by
  obtain ⟨a, v, u, rfl, ha, q⟩ := h
  exact ⟨v, rfl, .ref a, rfl, a, _, rfl, oc, n1, .inl ⟨ha, fun dx n ne => ⟨u, rfl, .ref a, rfl, a, _, rfl, oc, n2, .inr ⟨dx, _, upd_same, by rw [upd_ne ne]; exact upd_same, Nat.le_of_ble_eq_true rfl, q dx n ne⟩⟩⟩⟩
section
variable {K : PySem.W.Frag} {σ : L2.St} {H : Hp} {Q : VK} {v u : V} {c f : Str}
theorem exn_new {C a d : Addr} {fs : List (Str × V)} {o1 o2 : HO} (ha : H a = none) (hd : upd H a o1 d = none) (ne : d ≠ a) : Same H (upd (upd (upd H a o1) d (exd d fs)) a (exo a C (some d))) ∧ Exn (upd (upd (upd H a o1) d (exd d fs)) a (exo a C (some d))) a C fs := by
  rw [upd_ne ne] at hd
  refine ⟨fun b o e => ?_, .inr ⟨d, upd_same, by rw [upd_ne ne]; exact upd_same⟩⟩
  rw [upd_ne (ne_of_none e ha), upd_ne (ne_of_none e hd), upd_ne (ne_of_none e ha)]
  exact e
theorem exn_new2 {C a d : Addr} {fs fs0 : List (Str × V)} {o1 : HO} (ha : H a = none) (hd : upd H a o1 d = none) (ne : d ≠ a) : Same H (upd (upd (upd (upd H a o1) d (exd d fs0)) a (exo a C (some d))) d (exd d fs)) ∧ Exn (upd (upd (upd (upd H a o1) d (exd d fs0)) a (exo a C (some d))) d (exd d fs)) a C fs := by
  rw [upd_ne ne] at hd
  refine ⟨fun b o e => ?_, .inr ⟨d, by rw [upd_ne ne.symm]; exact upd_same, upd_same⟩⟩
  rw [upd_ne (ne_of_none e hd), upd_ne (ne_of_none e ha), upd_ne (ne_of_none e hd), upd_ne (ne_of_none e ha)]
  exact e
theorem mk_pos {i : Nat} (hv : σ[i]? = some (some v)) (q : ∀ a H', H a = none → Same H H' → Exn H' a (He.ga K c) [(f, v)] → Q (.ref a) H') : tMkX K c (spExcI K c f) (tCons (tVar i) tNil) σ H Q :=
  ⟨v, hv, Nat.le_of_ble_eq_true rfl, fun a ha => ⟨a, v, rfl, upd_same, fun dx hd ne => ⟨rfl, (fun z => q a _ ha z.1 z.2) (exn_new (C := He.ga K c) (fs := [(f, v)]) (o2 := exd dx []) ha hd ne)⟩⟩⟩
theorem mk_name {i : Nat} (hv : σ[i]? = some (some v)) (q : ∀ a H', H a = none → Same H H' → Exn H' a (He.ga K c) [(f, v)] → Q (.ref a) H') : tMkXK K c 1 (spExcI K c f) [0] (tCons (tVar i) tNil) σ H Q :=
  ⟨v, hv, rfl, fun a ha => ⟨a, v, rfl, upd_same, fun dx hd ne => ⟨rfl, (fun z => q a _ ha z.1 z.2) (exn_new (C := He.ga K c) (fs := [(f, v)]) (o2 := exd dx []) ha hd ne)⟩⟩⟩
theorem nw_of {a : Addr} (ha : H a = none) (q : ∀ H', Same H H' → Exn H' a (He.ga K "NoWay") [("goal", u), ("start", v)] → Q (.ref a) H') : sp_NoWay_init K [.ref a, v, u] (upd H a (exo a (He.ga K "NoWay") none)) (fun w H2 => w = .non ∧ Q (.ref a) H2) E0 :=
  ⟨a, v, u, rfl, upd_same, fun dx hd ne => ⟨rfl, (fun z => q _ z.1 z.2) (exn_new2 (C := He.ga K "NoWay") ha hd ne)⟩⟩
theorem mk_bare (q : ∀ a H', H a = none → Same H H' → Exn H' a (He.ga K c) [] → Q (.ref a) H') : tMkX0 K c σ H Q := fun a ha => q a _ ha (same_new ha) (.inl ⟨upd_same, rfl⟩)
/-- te makes the exception c of the value v, the first name's -/
def MkE (K : PySem.W.Frag) (v : V) (c : Str) (te : TE) : Prop := ∀ (σ : L2.St) (H : Hp) (Q : VK), σ[0]? = some (some v) → (∀ a H', Same H H' → Exn H' a (He.ga K c) (Fs c v) → Q (.ref a) H') → te σ H Q
def AllE (K : PySem.W.Frag) (v : V) (H : Hp) (as : List Addr) (cs : List Str) : Prop := as.length = cs.length ∧ ∀ (i : Nat) (a : Addr) (c : Str), as[i]? = some a → cs[i]? = some c → Exn H a (He.ga K c) (Fs c v)
theorem AllE.same {H' : Hp} {as : List Addr} {cs : List Str} (e : Same H H') (h : AllE K v H as cs) : AllE K v H' as cs := ⟨h.1, fun i a c x y => (h.2 i a c x y).same e⟩
theorem AllE.app {as bs : List Addr} {cs ds : List Str} (h : AllE K v H as cs) (g : AllE K v H bs ds) : AllE K v H (as ++ bs) (cs ++ ds) := by
  refine ⟨by rw [List.length_append, List.length_append, h.1, g.1], fun i a c x y => ?_⟩
  by_cases lt : i < as.length
  · rw [List.getElem?_append_left lt] at x
    rw [List.getElem?_append_left (h.1 ▸ lt)] at y
    exact h.2 i a c x y
  · rw [List.getElem?_append_right (by omega)] at x
    rw [List.getElem?_append_right (by have := h.1; omega), ← h.1] at y
    exact g.2 _ a c x y
def chT : List TE → TA
  | [] => tNil
  | t :: r => tCons t (chT r)
inductive Each2 (P : Str → TE → Prop) : List Str → List TE → Prop
  | nil : Each2 P [] []
  | cons {c : Str} {t : TE} {cs : List Str} {ts : List TE} (h : P c t) (r : Each2 P cs ts) : Each2 P (c :: cs) (t :: ts)
theorem chain_made {cs : List Str} {ts : List TE} (h0 : σ[0]? = some (some v)) (h : Each2 (MkE K v) cs ts) : ∀ {H : Hp} {R : List V → Hp → Prop}, (∀ as H', Same H H' → AllE K v H' as cs → R (as.map V.ref) H') → chT ts σ H R := by
  induction h with
  | nil => exact fun q => q [] _ (Same.refl _) ⟨rfl, fun i a c x => nomatch x⟩
  | cons one r ih =>
    intro H R q
    refine one σ H _ h0 fun a H1 s1 e1 => ih fun as H2 s2 al => q (a :: as) H2 (s1.trans s2) ?_
    refine ⟨congrArg Nat.succ al.1, fun i b c x y => ?_⟩
    cases i with
    | zero => cases x; cases y; exact e1.same s2
    | succ j => exact al.2 j b c x y
theorem made_first {cs : List Str} {ts : List TE} {D : Ends} (few : cs.length ≤ 100) (h0 : σ[0]? = some (some v)) (h : Each2 (MkE K v) cs ts) (q : ∀ l as H', Same H H' → H' l = some (.lst (as.map V.ref)) → AllE K v H' as cs → D.nx (σ.set 1 (some (.ref l))) H') :
    tAsg (tLst (chT ts)) (gName 1) D σ H := by
  refine chain_made h0 h fun as H1 s1 al => ⟨?_, fun p hp => ?_⟩
  · rw [List.length_map, al.1, sizeLine_eq]
    omega
  · exact q p as _ (s1.trans (same_new hp)) upd_same (al.same (same_new hp))
theorem made_more {cs ds : List Str} {ts : List TE} {D : Ends} {l : Addr} {as : List Addr} (few : cs.length + ds.length ≤ 100) (h0 : σ[0]? = some (some v)) (h1 : σ[1]? = some (some (.ref l))) (hl : H l = some (.lst (as.map V.ref))) (ha : AllE K v H as cs) (h : Each2 (MkE K v) ds ts)
    (q : ∀ l' bs H', Same H H' → H' l' = some (.lst ((as ++ bs).map V.ref)) → AllE K v H' (as ++ bs) (cs ++ ds) → D.nx (σ.set 1 (some (.ref l'))) H') :
    tAsg (tOp uAdd (tVar 1) (tLst (chT ts))) (gName 1) D σ H := by
  refine ⟨.ref l, h1, chain_made h0 h fun bs H1 s1 al => ⟨?_, fun p hp => ?_⟩⟩
  · rw [List.length_map, al.1, sizeLine_eq]
    omega
  · have s2 : Same H1 (upd H1 p (.lst (bs.map V.ref))) := same_new hp
    refine ⟨l, p, _, _, rfl, rfl, s2 _ _ (s1 _ _ hl), upd_same, ?_, fun r hr => ?_⟩
    · rw [List.length_map, List.length_map, al.1, ha.1, sizeLine_eq]
      omega
    · have s3 := same_new (o := .lst (as.map V.ref ++ bs.map V.ref)) hr
      refine q r bs _ (s1.trans (s2.trans s3)) ?_ ((ha.same (s1.trans (s2.trans s3))).app (al.same (s2.trans s3)))
      rw [List.map_append]
      exact upd_same
theorem mkE_pos {c f : Str} (h : Fs c v = [(f, v)]) : MkE K v c (tMkX K c (spExcI K c f) (tCons (tVar 0) tNil)) := fun σ H Q h0 q => mk_pos h0 fun a H' _ s e => q a H' s (h ▸ e)
theorem mkE_name {c f : Str} (h : Fs c v = [(f, v)]) : MkE K v c (tMkXK K c 1 (spExcI K c f) [0] (tCons (tVar 0) tNil)) := fun σ H Q h0 q => mk_name h0 fun a H' _ s e => q a H' s (h ▸ e)
theorem mkE_way : MkE K v "NoWay" (tMkX K "NoWay" (sp_NoWay_init K) (tCons (tVar 0) (tCons (tC (.int 5)) tNil))) := fun σ H Q h0 q => ⟨v, h0, Nat.le_of_ble_eq_true rfl, fun a ha => nw_of ha fun H' s e => q a H' s e⟩
theorem mkE_wayK : MkE K v "NoWay" (tMkXK K "NoWay" 2 (sp_NoWay_init K) [1, 0] (tCons (tC (.int 5)) (tCons (tVar 0) tNil))) := fun σ H Q h0 q => ⟨v, h0, rfl, fun a ha => nw_of ha fun H' s e => q a H' s e⟩
theorem mkE_bare {c : Str} (h : Fs c v = []) : MkE K v c (tMkX0 K c) := fun σ H Q h0 q => mk_bare fun a H' _ s e => q a H' s (h ▸ e)
end
end U
namespace U
open PySem PySem.Spec PyProof.Rows L2

def sp__law_made (K : PySem.W.Frag) : Sp := sp1 fun v H Q _ => ∀ l as H', Same H H' → H' l = some (.lst (as.map V.ref)) → AllE K v H' as excL → Q (.ref l) H'
def sp__law_named (K : PySem.W.Frag) : Sp := sp1 fun v H Q _ => ∀ l as H', Same H H' → H' l = some (.lst (as.map V.ref)) → AllE K v H' as (excL.take 18) → Q (.ref l) H'
def sp__law_field (K : PySem.W.Frag) : Sp := sp1 fun x H Q _ => ∃ a c v, x = .ref a ∧ c ∈ excL.take 18 ∧ Exn H a (He.ga K c) (Fs c v) ∧ Q v H
def kindsV (c : Str) (cs : List Str) : List V := cs.map fun y => .bl (decide (y = c))
def sp__law_kinds (K : PySem.W.Frag) : Sp := sp1 fun x H Q _ => ∃ a c fs, x = .ref a ∧ c ∈ excL ∧ Exn H a (He.ga K c) fs ∧ ∀ l H', Same H H' → H l = none → H' l = some (.lst (kindsV c excL)) → Q (.ref l) H'
def t__law_made (K : PySem.W.Frag) (E : XK) : TS := (tSeq (tAsg (tLst (tCons (tMkX K "InvalidYard" (spExcI K "InvalidYard" "value") (tCons (tVar 0) tNil)) (tCons (tMkX K "InvalidPrice" (spExcI K "InvalidPrice" "value") (tCons (tVar 0) tNil)) (tCons (tMkX K "InvalidText" (spExcI K "InvalidText" "value") (tCons (tVar 0) tNil)) (tCons (tMkX K "InvalidArrangement" (spExcI K "InvalidArrangement" "value") (tCons (tVar 0) tNil)) tNil))))) (gName 1)) (tSeq (tAsg (tOp uAdd (tVar 1) (tLst (tCons (tMkX K "InvalidPlace" (spExcI K "InvalidPlace" "value") (tCons (tVar 0) tNil)) (tCons (tMkX K "InvalidWay" (spExcI K "InvalidWay" "value") (tCons (tVar 0) tNil)) (tCons (tMkX K "InvalidCrate" (spExcI K "InvalidCrate" "value") (tCons (tVar 0) tNil)) (tCons (tMkX K "InvalidMove" (spExcI K "InvalidMove" "value") (tCons (tVar 0) tNil)) tNil)))))) (gName 1)) (tSeq (tAsg (tOp uAdd (tVar 1) (tLst (tCons (tMkX K "InvalidRow" (spExcI K "InvalidRow" "value") (tCons (tVar 0) tNil)) (tCons (tMkX K "InvalidCount" (spExcI K "InvalidCount" "value") (tCons (tVar 0) tNil)) (tCons (tMkX K "InvalidPattern" (spExcI K "InvalidPattern" "value") (tCons (tVar 0) tNil)) (tCons (tMkX K "InvalidPaper" (spExcI K "InvalidPaper" "value") (tCons (tVar 0) tNil)) tNil)))))) (gName 1)) (tSeq (tAsg (tOp uAdd (tVar 1) (tLst (tCons (tMkX K "InvalidLot" (spExcI K "InvalidLot" "value") (tCons (tVar 0) tNil)) (tCons (tMkX K "InvalidCosts" (spExcI K "InvalidCosts" "value") (tCons (tVar 0) tNil)) (tCons (tMkX K "InvalidLine" (spExcI K "InvalidLine" "value") (tCons (tVar 0) tNil)) (tCons (tMkX K "NotAllowed" (spExcI K "NotAllowed" "index") (tCons (tVar 0) tNil)) tNil)))))) (gName 1)) (tSeq (tAsg (tOp uAdd (tVar 1) (tLst (tCons (tMkX K "TooMany" (spExcI K "TooMany" "count") (tCons (tVar 0) tNil)) (tCons (tMkX K "NoWay" (sp_NoWay_init K) (tCons (tVar 0) (tCons (tC (.int 5)) tNil))) (tCons (tMkX0 K "UnlikeYards") (tCons (tMkX0 K "NoYard") (tCons (tMkX0 K "NothingToUndo") tNil))))))) (gName 1)) (tSeq (tAsg (tOp uAdd (tVar 1) (tLst (tCons (tMkX0 K "NothingToRedo") tNil))) (gName 1)) (tRet (tVar 1))))))))
def t__law_named (K : PySem.W.Frag) (E : XK) : TS := (tSeq (tAsg (tLst (tCons (tMkXK K "InvalidYard" 1 (spExcI K "InvalidYard" "value") [0] (tCons (tVar 0) tNil)) (tCons (tMkXK K "InvalidPrice" 1 (spExcI K "InvalidPrice" "value") [0] (tCons (tVar 0) tNil)) (tCons (tMkXK K "InvalidText" 1 (spExcI K "InvalidText" "value") [0] (tCons (tVar 0) tNil)) tNil)))) (gName 1)) (tSeq (tAsg (tOp uAdd (tVar 1) (tLst (tCons (tMkXK K "InvalidArrangement" 1 (spExcI K "InvalidArrangement" "value") [0] (tCons (tVar 0) tNil)) (tCons (tMkXK K "InvalidPlace" 1 (spExcI K "InvalidPlace" "value") [0] (tCons (tVar 0) tNil)) (tCons (tMkXK K "InvalidWay" 1 (spExcI K "InvalidWay" "value") [0] (tCons (tVar 0) tNil)) tNil))))) (gName 1)) (tSeq (tAsg (tOp uAdd (tVar 1) (tLst (tCons (tMkXK K "InvalidCrate" 1 (spExcI K "InvalidCrate" "value") [0] (tCons (tVar 0) tNil)) (tCons (tMkXK K "InvalidMove" 1 (spExcI K "InvalidMove" "value") [0] (tCons (tVar 0) tNil)) (tCons (tMkXK K "InvalidRow" 1 (spExcI K "InvalidRow" "value") [0] (tCons (tVar 0) tNil)) tNil))))) (gName 1)) (tSeq (tAsg (tOp uAdd (tVar 1) (tLst (tCons (tMkXK K "InvalidCount" 1 (spExcI K "InvalidCount" "value") [0] (tCons (tVar 0) tNil)) (tCons (tMkXK K "InvalidPattern" 1 (spExcI K "InvalidPattern" "value") [0] (tCons (tVar 0) tNil)) (tCons (tMkXK K "InvalidPaper" 1 (spExcI K "InvalidPaper" "value") [0] (tCons (tVar 0) tNil)) tNil))))) (gName 1)) (tSeq (tAsg (tOp uAdd (tVar 1) (tLst (tCons (tMkXK K "InvalidLot" 1 (spExcI K "InvalidLot" "value") [0] (tCons (tVar 0) tNil)) (tCons (tMkXK K "InvalidCosts" 1 (spExcI K "InvalidCosts" "value") [0] (tCons (tVar 0) tNil)) (tCons (tMkXK K "InvalidLine" 1 (spExcI K "InvalidLine" "value") [0] (tCons (tVar 0) tNil)) tNil))))) (gName 1)) (tSeq (tAsg (tOp uAdd (tVar 1) (tLst (tCons (tMkXK K "NotAllowed" 1 (spExcI K "NotAllowed" "index") [0] (tCons (tVar 0) tNil)) (tCons (tMkXK K "TooMany" 1 (spExcI K "TooMany" "count") [0] (tCons (tVar 0) tNil)) (tCons (tMkXK K "NoWay" 2 (sp_NoWay_init K) [1, 0] (tCons (tC (.int 5)) (tCons (tVar 0) tNil))) tNil))))) (gName 1)) (tRet (tVar 1))))))))
def t__law_field (K : PySem.W.Frag) (E : XK) : TS := (tSeq (tIfS (tB (tCB (uIsiE K) (tCons (tVar 0) (tCons (tC (.ref (He.ga K "NotAllowed"))) tNil)))) (tRet (tXfE K "index" (tVar 0))) tNext) (tSeq (tIfS (tB (tCB (uIsiE K) (tCons (tVar 0) (tCons (tC (.ref (He.ga K "TooMany"))) tNil)))) (tRet (tXfE K "count" (tVar 0))) tNext) (tRet (tIf (tB (tCB (uIsiE K) (tCons (tVar 0) (tCons (tC (.ref (He.ga K "NoWay"))) tNil)))) (tXfE K "start" (tVar 0)) (tXfE K "value" (tVar 0))))))
def t__law_kinds (K : PySem.W.Frag) (E : XK) : TS := (tSeq (tAsg (tLst (tCons (tCB (uIsiE K) (tCons (tVar 0) (tCons (tC (.ref (He.ga K "InvalidYard"))) tNil))) (tCons (tCB (uIsiE K) (tCons (tVar 0) (tCons (tC (.ref (He.ga K "InvalidPrice"))) tNil))) (tCons (tCB (uIsiE K) (tCons (tVar 0) (tCons (tC (.ref (He.ga K "InvalidText"))) tNil))) tNil)))) (gName 1)) (tSeq (tAsg (tOp uAdd (tVar 1) (tLst (tCons (tCB (uIsiE K) (tCons (tVar 0) (tCons (tC (.ref (He.ga K "InvalidArrangement"))) tNil))) (tCons (tCB (uIsiE K) (tCons (tVar 0) (tCons (tC (.ref (He.ga K "InvalidPlace"))) tNil))) tNil)))) (gName 1)) (tSeq (tAsg (tOp uAdd (tVar 1) (tLst (tCons (tCB (uIsiE K) (tCons (tVar 0) (tCons (tC (.ref (He.ga K "InvalidWay"))) tNil))) (tCons (tCB (uIsiE K) (tCons (tVar 0) (tCons (tC (.ref (He.ga K "InvalidCrate"))) tNil))) (tCons (tCB (uIsiE K) (tCons (tVar 0) (tCons (tC (.ref (He.ga K "InvalidMove"))) tNil))) tNil))))) (gName 1)) (tSeq (tAsg (tOp uAdd (tVar 1) (tLst (tCons (tCB (uIsiE K) (tCons (tVar 0) (tCons (tC (.ref (He.ga K "InvalidRow"))) tNil))) (tCons (tCB (uIsiE K) (tCons (tVar 0) (tCons (tC (.ref (He.ga K "InvalidCount"))) tNil))) (tCons (tCB (uIsiE K) (tCons (tVar 0) (tCons (tC (.ref (He.ga K "InvalidPattern"))) tNil))) tNil))))) (gName 1)) (tSeq (tAsg (tOp uAdd (tVar 1) (tLst (tCons (tCB (uIsiE K) (tCons (tVar 0) (tCons (tC (.ref (He.ga K "InvalidPaper"))) tNil))) (tCons (tCB (uIsiE K) (tCons (tVar 0) (tCons (tC (.ref (He.ga K "InvalidLot"))) tNil))) (tCons (tCB (uIsiE K) (tCons (tVar 0) (tCons (tC (.ref (He.ga K "InvalidCosts"))) tNil))) tNil))))) (gName 1)) (tSeq (tAsg (tOp uAdd (tVar 1) (tLst (tCons (tCB (uIsiE K) (tCons (tVar 0) (tCons (tC (.ref (He.ga K "InvalidLine"))) tNil))) (tCons (tCB (uIsiE K) (tCons (tVar 0) (tCons (tC (.ref (He.ga K "NotAllowed"))) tNil))) (tCons (tCB (uIsiE K) (tCons (tVar 0) (tCons (tC (.ref (He.ga K "TooMany"))) tNil))) tNil))))) (gName 1)) (tSeq (tAsg (tOp uAdd (tVar 1) (tLst (tCons (tCB (uIsiE K) (tCons (tVar 0) (tCons (tC (.ref (He.ga K "NoWay"))) tNil))) (tCons (tCB (uIsiE K) (tCons (tVar 0) (tCons (tC (.ref (He.ga K "UnlikeYards"))) tNil))) (tCons (tCB (uIsiE K) (tCons (tVar 0) (tCons (tC (.ref (He.ga K "NoYard"))) tNil))) tNil))))) (gName 1)) (tSeq (tAsg (tOp uAdd (tVar 1) (tLst (tCons (tCB (uIsiE K) (tCons (tVar 0) (tCons (tC (.ref (He.ga K "NothingToUndo"))) tNil))) (tCons (tCB (uIsiE K) (tCons (tVar 0) (tCons (tC (.ref (He.ga K "NothingToRedo"))) tNil))) tNil)))) (gName 1)) (tRet (tVar 1))))))))))
section
variable {K : PySem.W.Frag} (F : KF K) (G : XG K) {vs : List V} {H : Hp} {Q : VK} {E : XK}
local macro_rules | `(tactic| walk_at "w") => `(tactic| try simp only [turnE, lcT, Snoc, tRet, tRetN, tAndV, tOrV, tNotV, tCB, tCons, tVar, tNil, tC, tOp, tSeq, tAsg, gName, gSub, tIfS, tDrop, tFn, tTup, tLst, tNext, tB, tTest, tNot, tAnd, tOr, tIf, tChain, tUn, rU, tFld, tPart, tNoPart, L2.tSl, tBM, tPar, tPar3, tTruth, tDNewK,
  L2.start, List.map_cons, List.map_nil, List.length_cons, List.length_nil, List.replicate_succ, List.replicate_zero, List.append_nil, List.nil_append, List.cons_append, List.singleton_append, Nat.sub_self, Nat.zero_add, Nat.reduceAdd, Nat.reduceSub,
  List.getElem?_cons_zero, List.getElem?_cons_succ, List.set_cons_zero, List.set_cons_succ, Option.some.injEq, exists_eq_left, exists_eq_left', V.int.injEq, V.bl.injEq, V.str.injEq, V.ref.injEq,
  uAdd_int, uAdd_str, uSub_int, uMul_int, uMul_str, uDiv_int, uMod_int, uPow_int, uLt_int, uLe_int, uGt_int, uGe_int, uIs_non, uNis_non, uIs_bl, uNis_bl, sp1, sp2, sp3, sp4, uEq_int, uEq_str, uNe_int, uNe_str, uSl_str, uLen_str, decide_eq_true_eq])
local macro_rules | `(tactic| walk_at "1") => `(tactic| try simp only [turnE, lcT, Snoc, tRet, tRetN, tAndV, tOrV, tNotV, tCB, tCons, tVar, tNil, tC, tOp, tAsg, gName, gSub, tIfS, tDrop, tFn, tTup, tLst, tNext, tB, tTest, tNot, tAnd, tOr, tIf, tChain, tUn, rU, tFld, tPart, tNoPart, L2.tSl, tBM, tPar, tPar3, tTruth, tDNewK,
  L2.start, List.map_cons, List.map_nil, List.length_cons, List.length_nil, List.replicate_succ, List.replicate_zero, List.append_nil, List.nil_append, List.cons_append, List.singleton_append, Nat.sub_self, Nat.zero_add, Nat.reduceAdd, Nat.reduceSub,
  List.getElem?_cons_zero, List.getElem?_cons_succ, List.set_cons_zero, List.set_cons_succ, Option.some.injEq, exists_eq_left, exists_eq_left', V.int.injEq, V.bl.injEq, V.str.injEq, V.ref.injEq,
  uAdd_int, uAdd_str, uSub_int, uMul_int, uMul_str, uDiv_int, uMod_int, uPow_int, uLt_int, uLe_int, uGt_int, uGe_int, uIs_non, uNis_non, uIs_bl, uNis_bl, sp1, sp2, sp3, sp4, uEq_int, uEq_str, uNe_int, uNe_str, uSl_str, uLen_str, decide_eq_true_eq])
local macro_rules | `(tactic| walk_at "s") => `(tactic| ((try dsimp only [turnE]); with_reducible refine seq_ ?_))

include F in
theorem read__law_made (h : sp__law_made K vs H Q E) : t__law_made K E { nx := fun _ H' => Q .non H', rt := Q } (start ["_law_thing_here", "_law_found"] vs) H := by
  match vs, h with
  | [v], q =>
    unfold t__law_made
    walk_at "s"
    refine made_first (v := v) (cs := ["InvalidYard", "InvalidPrice", "InvalidText", "InvalidArrangement"]) (ts := [_, _, _, _]) (by decide) rfl (.cons (mkE_pos rfl) (.cons (mkE_pos rfl) (.cons (mkE_pos rfl) (.cons (mkE_pos rfl) .nil)))) fun l1 as1 H1 s1 g1 a1 => ?_
    walk_at "s"
    refine made_more (v := v) (ds := ["InvalidPlace", "InvalidWay", "InvalidCrate", "InvalidMove"]) (ts := [_, _, _, _]) (by decide) rfl rfl g1 a1 (.cons (mkE_pos rfl) (.cons (mkE_pos rfl) (.cons (mkE_pos rfl) (.cons (mkE_pos rfl) .nil)))) fun l2 as2 H2 s2 g2 a2 => ?_
    walk_at "s"
    refine made_more (v := v) (ds := ["InvalidRow", "InvalidCount", "InvalidPattern", "InvalidPaper"]) (ts := [_, _, _, _]) (by decide) rfl rfl g2 a2 (.cons (mkE_pos rfl) (.cons (mkE_pos rfl) (.cons (mkE_pos rfl) (.cons (mkE_pos rfl) .nil)))) fun l3 as3 H3 s3 g3 a3 => ?_
    walk_at "s"
    refine made_more (v := v) (ds := ["InvalidLot", "InvalidCosts", "InvalidLine", "NotAllowed"]) (ts := [_, _, _, _]) (by decide) rfl rfl g3 a3 (.cons (mkE_pos rfl) (.cons (mkE_pos rfl) (.cons (mkE_pos rfl) (.cons (mkE_pos rfl) .nil)))) fun l4 as4 H4 s4 g4 a4 => ?_
    walk_at "s"
    refine made_more (v := v) (ds := ["TooMany", "NoWay", "UnlikeYards", "NoYard", "NothingToUndo"]) (ts := [_, _, _, _, _]) (by decide) rfl rfl g4 a4 (.cons (mkE_pos rfl) (.cons mkE_way (.cons (mkE_bare rfl) (.cons (mkE_bare rfl) (.cons (mkE_bare rfl) .nil))))) fun l5 as5 H5 s5 g5 a5 => ?_
    walk_at "s"
    refine made_more (v := v) (ds := ["NothingToRedo"]) (ts := [_]) (by decide) rfl rfl g5 a5 (.cons (mkE_bare rfl) .nil) fun l6 as6 H6 s6 g6 a6 => ?_
    exact ⟨.ref l6, rfl, q l6 _ H6 (s1.trans (s2.trans (s3.trans (s4.trans (s5.trans s6))))) g6 a6⟩
include F in
theorem read__law_named (h : sp__law_named K vs H Q E) : t__law_named K E { nx := fun _ H' => Q .non H', rt := Q } (start ["_law_thing_here", "_law_found"] vs) H := by
  match vs, h with
  | [v], q =>
    unfold t__law_named
    walk_at "s"
    refine made_first (v := v) (cs := ["InvalidYard", "InvalidPrice", "InvalidText"]) (ts := [_, _, _]) (by decide) rfl (.cons (mkE_name rfl) (.cons (mkE_name rfl) (.cons (mkE_name rfl) .nil))) fun l1 as1 H1 s1 g1 a1 => ?_
    walk_at "s"
    refine made_more (v := v) (ds := ["InvalidArrangement", "InvalidPlace", "InvalidWay"]) (ts := [_, _, _]) (by decide) rfl rfl g1 a1 (.cons (mkE_name rfl) (.cons (mkE_name rfl) (.cons (mkE_name rfl) .nil))) fun l2 as2 H2 s2 g2 a2 => ?_
    walk_at "s"
    refine made_more (v := v) (ds := ["InvalidCrate", "InvalidMove", "InvalidRow"]) (ts := [_, _, _]) (by decide) rfl rfl g2 a2 (.cons (mkE_name rfl) (.cons (mkE_name rfl) (.cons (mkE_name rfl) .nil))) fun l3 as3 H3 s3 g3 a3 => ?_
    walk_at "s"
    refine made_more (v := v) (ds := ["InvalidCount", "InvalidPattern", "InvalidPaper"]) (ts := [_, _, _]) (by decide) rfl rfl g3 a3 (.cons (mkE_name rfl) (.cons (mkE_name rfl) (.cons (mkE_name rfl) .nil))) fun l4 as4 H4 s4 g4 a4 => ?_
    walk_at "s"
    refine made_more (v := v) (ds := ["InvalidLot", "InvalidCosts", "InvalidLine"]) (ts := [_, _, _]) (by decide) rfl rfl g4 a4 (.cons (mkE_name rfl) (.cons (mkE_name rfl) (.cons (mkE_name rfl) .nil))) fun l5 as5 H5 s5 g5 a5 => ?_
    walk_at "s"
    refine made_more (v := v) (ds := ["NotAllowed", "TooMany", "NoWay"]) (ts := [_, _, _]) (by decide) rfl rfl g5 a5 (.cons (mkE_name rfl) (.cons (mkE_name rfl) (.cons mkE_wayK .nil))) fun l6 as6 H6 s6 g6 a6 => ?_
    exact ⟨.ref l6, rfl, q l6 _ H6 (s1.trans (s2.trans (s3.trans (s4.trans (s5.trans s6))))) g6 a6⟩
include G in
theorem isE_of {a : Addr} {c y : Str} {fs : List (Str × V)} (hc : c ∈ excL) (hy : y ∈ excL) (he : Exn H a (He.ga K c) fs) (q : Q (.bl (decide (y = c))) H) : uIsiE K [.ref a, .ref (He.ga K y)] H Q :=
  .inl ⟨_, _, .inr ⟨a, _, fs, rfl, rfl, G.c c hc, he⟩, G.i c hc y hy, q⟩
include G in
theorem isE_ty {a : Addr} {c : Str} {fs : List (Str × V)} {T : String} {t : Ty} (hT : t.v K = .type T) (hc : c ∈ excL) (he : Exn H a (He.ga K c) fs) (q : Q (.bl false) H) : uIsiE K [.ref a, .ty T] H Q :=
  ⟨_, _, .inr ⟨a, _, fs, rfl, rfl, G.c c hc, he⟩, hT ▸ G.k c hc t, q⟩
include G in
theorem fld_of {a : Addr} {c f : Str} {fs : List (Str × V)} {v : V} {i : Nat} {σ : L2.St} (hv : σ[i]? = some (some (.ref a))) (hc : c ∈ excL) (hf : f ∈ fldOf c) (he : Exn H a (He.ga K c) fs) (hl : fs.lookup f = some v) (q : Q v H) : tXfE K f (tVar i) σ H Q :=
  ⟨.ref a, hv, a, _, fs, v, rfl, G.f c hc, G.v c hc f hf, he, hl, q⟩
/-- the answers of isinstance, one after the other -/
def isT (K : PySem.W.Frag) (y : Str) : TE := tCB (uIsiE K) (tCons (tVar 0) (tCons (tC (.ref (He.ga K y))) tNil))
include G in
theorem chain_kinds {a : Addr} {c : Str} {fs : List (Str × V)} {σ : L2.St} {R : List V → Hp → Prop} (h0 : σ[0]? = some (some (.ref a))) (hc : c ∈ excL) (he : Exn H a (He.ga K c) fs) : ∀ {ys : List Str}, (∀ y ∈ ys, y ∈ excL) → R (kindsV c ys) H → chT (ys.map (isT K)) σ H R := by
  intro ys
  induction ys generalizing R with
  | nil => exact fun _ q => q
  | cons y r ih =>
    intro m q
    refine ⟨.ref a, h0, ?_⟩
    show uIsiE K [.ref a, .ref (He.ga K y)] H (fun x H1 => chT (r.map (isT K)) σ H1 fun xs H2 => R (x :: xs) H2)
    exact isE_of G hc (m y List.mem_cons_self) he (ih (fun z hz => m z (List.mem_cons_of_mem _ hz)) q)
include G in
theorem kinds_first {a : Addr} {c : Str} {fs : List (Str × V)} {σ : L2.St} {D : Ends} (h0 : σ[0]? = some (some (.ref a))) (hc : c ∈ excL) (he : Exn H a (He.ga K c) fs) {ys : List Str} (m : ∀ y ∈ ys, y ∈ excL) (few : ys.length ≤ 100)
    (q : ∀ l H', Same H H' → H l = none → H' l = some (.lst (kindsV c ys)) → D.nx (σ.set 1 (some (.ref l))) H') : tAsg (tLst (chT (ys.map (isT K)))) (gName 1) D σ H := by
  refine chain_kinds G h0 hc he m ⟨?_, fun p hp => q p _ (same_new hp) hp upd_same⟩
  unfold kindsV
  simp only [List.length_map, sizeLine_eq]
  omega
include G in
theorem kinds_more {a l : Addr} {c : Str} {fs : List (Str × V)} {σ : L2.St} {D : Ends} {xs : List Str} (h0 : σ[0]? = some (some (.ref a))) (h1 : σ[1]? = some (some (.ref l))) (hl : H l = some (.lst (kindsV c xs))) (hc : c ∈ excL) (he : Exn H a (He.ga K c) fs) {ys : List Str} (m : ∀ y ∈ ys, y ∈ excL) (few : xs.length + ys.length ≤ 100)
    (q : ∀ l H', Same H H' → H l = none → H' l = some (.lst (kindsV c (xs ++ ys))) → D.nx (σ.set 1 (some (.ref l))) H') : tAsg (tOp uAdd (tVar 1) (tLst (chT (ys.map (isT K))))) (gName 1) D σ H := by
  refine ⟨.ref l, h1, chain_kinds G h0 hc he m ⟨?_, fun p hp => ?_⟩⟩
  · unfold kindsV
    simp only [List.length_map, sizeLine_eq]
    omega
  · have s2 : Same H (upd H p (.lst (kindsV c ys))) := same_new hp
    refine ⟨l, p, _, _, rfl, rfl, s2 _ _ hl, upd_same, ?_, fun r hr => ?_⟩
    · unfold kindsV
      rw [List.length_map, List.length_map, sizeLine_eq]
      omega
    · refine q r _ (s2.trans (same_new hr)) ?_ ?_
      · rw [upd_ne (by rintro rfl; rw [upd_same] at hr; cases hr)] at hr
        exact hr
      · unfold kindsV
        rw [List.map_append]
        exact upd_same
theorem sub_exc {ys : List Str} (h : ys.all (fun y => excL.contains y) = true) : ∀ y ∈ ys, y ∈ excL := fun y m => List.contains_iff_mem.mp (List.all_eq_true.mp h y m)
include F G in
theorem read__law_kinds (h : sp__law_kinds K vs H Q E) : t__law_kinds K E { nx := fun _ H' => Q .non H', rt := Q } (start ["_law_e", "_law_found"] vs) H := by
  match vs, h with
  | [_], ⟨a, c, fs, rfl, hc, he, q⟩ =>
    unfold t__law_kinds
    walk_at "s"
    refine kinds_first G rfl hc he (ys := ["InvalidYard", "InvalidPrice", "InvalidText"]) (sub_exc (by decide +kernel)) (by decide) fun l1 H1 s1 n1 g1 => ?_
    walk_at "s"
    refine kinds_more G rfl rfl g1 hc (he.same s1) (ys := ["InvalidArrangement", "InvalidPlace"]) (sub_exc (by decide +kernel)) (by decide) fun l2 H2 s2 n2 g2 => ?_
    have s2 := s1.trans s2
    walk_at "s"
    refine kinds_more G rfl rfl g2 hc (he.same s2) (ys := ["InvalidWay", "InvalidCrate", "InvalidMove"]) (sub_exc (by decide +kernel)) (by decide) fun l3 H3 s3 n3 g3 => ?_
    have s3 := s2.trans s3
    walk_at "s"
    refine kinds_more G rfl rfl g3 hc (he.same s3) (ys := ["InvalidRow", "InvalidCount", "InvalidPattern"]) (sub_exc (by decide +kernel)) (by decide) fun l4 H4 s4 n4 g4 => ?_
    have s4 := s3.trans s4
    walk_at "s"
    refine kinds_more G rfl rfl g4 hc (he.same s4) (ys := ["InvalidPaper", "InvalidLot", "InvalidCosts"]) (sub_exc (by decide +kernel)) (by decide) fun l5 H5 s5 n5 g5 => ?_
    have s5 := s4.trans s5
    walk_at "s"
    refine kinds_more G rfl rfl g5 hc (he.same s5) (ys := ["InvalidLine", "NotAllowed", "TooMany"]) (sub_exc (by decide +kernel)) (by decide) fun l6 H6 s6 n6 g6 => ?_
    have s6 := s5.trans s6
    walk_at "s"
    refine kinds_more G rfl rfl g6 hc (he.same s6) (ys := ["NoWay", "UnlikeYards", "NoYard"]) (sub_exc (by decide +kernel)) (by decide) fun l7 H7 s7 n7 g7 => ?_
    have s7 := s6.trans s7
    walk_at "s"
    refine kinds_more G rfl rfl g7 hc (he.same s7) (ys := ["NothingToUndo", "NothingToRedo"]) (sub_exc (by decide +kernel)) (by decide) fun l8 H8 s8 n8 g8 => ?_
    exact ⟨.ref l8, rfl, q l8 H8 (s7.trans s8) (s7.free n8) g8⟩
theorem fs_cases : ∀ c ∈ excL.take 18, c ∈ excL ∧ ∀ v, (Fs c v).lookup ((if c = "NotAllowed" then "index" else if c = "TooMany" then "count" else if c = "NoWay" then "start" else "value" : Str)) = some v := by
  intro c h
  unfold excL at h
  simp only [List.take_succ_cons, List.take_zero, List.mem_cons, List.not_mem_nil, or_false] at h
  rcases h with rfl | rfl | rfl | rfl | rfl | rfl | rfl | rfl | rfl | rfl | rfl | rfl | rfl | rfl | rfl | rfl | rfl | rfl <;> exact ⟨by decide +kernel, fun v => rfl⟩
include F G in
theorem read__law_field (h : sp__law_field K vs H Q E) : t__law_field K E { nx := fun _ H' => Q .non H', rt := Q } (start ["_law_e"] vs) H := by
  match vs, h with
  | [_], ⟨a, c, v, rfl, hc, he, q⟩ =>
    obtain ⟨hm, hl⟩ := fs_cases c hc
    have hl := hl v
    unfold t__law_field
    walk_at "s"
    walk_at "1"
    refine isE_of G hm (by decide +kernel) he ?_
    refine ⟨_, rfl, ?_⟩
    by_cases e1 : c = "NotAllowed"
    · subst e1
      rw [if_pos (by decide)]
      exact fld_of G rfl hm (by decide +kernel) he (by rw [if_pos rfl] at hl; exact hl) q
    rw [decide_eq_false (fun z => e1 z.symm), if_neg (by decide)]
    rw [if_neg e1] at hl
    walk_at "s"
    walk_at "1"
    refine isE_of G hm (by decide +kernel) he ?_
    refine ⟨_, rfl, ?_⟩
    by_cases e2 : c = "TooMany"
    · subst e2
      rw [if_pos (by decide)]
      exact fld_of G rfl hm (by decide +kernel) he (by rw [if_pos rfl] at hl; exact hl) q
    rw [decide_eq_false (fun z => e2 z.symm), if_neg (by decide)]
    rw [if_neg e2] at hl
    walk_at "1"
    refine isE_of G hm (by decide +kernel) he ?_
    refine ⟨_, rfl, ?_⟩
    by_cases e3 : c = "NoWay"
    · subst e3
      rw [if_pos (by decide)]
      exact fld_of G rfl hm (by decide +kernel) he (by rw [if_pos rfl] at hl; exact hl) q
    rw [decide_eq_false (fun z => e3 z.symm), if_neg (by decide)]
    rw [if_neg e3] at hl
    exact fld_of G rfl hm (by unfold fldOf; rw [if_neg e1, if_neg e2, if_neg e3]; exact List.mem_cons_self) he hl q
end
end U
namespace U
open PySem PySem.Spec PyProof.Rows L2

/-! ### the things that the exceptions are made of -/
def Told (K : PySem.W.Frag) (H : Hp) (v : V) (d : PyData) : Prop := Dq K H v d ∧ d.showable = true ∧ d.depth ≤ 60 ∧ d.shown.length ≤ sizeLine
/-- a thing with a list m within that can grow -/
def Bg (K : PySem.W.Frag) (H : Hp) (x : V) (m : Addr) : Prop :=
  (∃ l p, x = .ref l ∧ H l = some (.lst [p, .ref m]) ∧ l ≠ m) ∨ (∃ l p, x = .ref l ∧ H l = some (.tup [p, .ref m]) ∧ l ≠ m) ∨
  (∃ (d l : Addr) (p : V) (kvs : List (Key × V)), x = .ref d ∧ H d = some (.dK kvs) ∧ (kvs = [(.inr "k", .ref l)] ∨ kvs = [(.inl 4, .str "x"), (.inr "k", .ref l)]) ∧ H l = some (.lst [p, .ref m]) ∧ d ≠ m ∧ l ≠ m) ∨
  ∃ (a d l : Addr) (p : V), x = .ref a ∧ H a = some (exo a (He.ga K "InvalidPlace") (some d)) ∧ H d = some (exd d [("value", .ref l)]) ∧ H l = some (.lst [p, .ref m]) ∧ a ≠ m ∧ d ≠ m ∧ l ≠ m
theorem Bg.off {K : PySem.W.Frag} {H H' : Hp} {x : V} {m : Addr} (e : Off m H H') (h : Bg K H x m) : Bg K H' x m := by
  rcases h with ⟨l, p, e1, e2, n⟩ | ⟨l, p, e1, e2, n⟩ | ⟨d, l, p, kvs, e1, e2, e3, e4, n1, n2⟩ | ⟨a, d, l, p, e1, e2, e3, e4, n1, n2, n3⟩
  · exact .inl ⟨l, p, e1, e _ _ n e2, n⟩
  · exact .inr (.inl ⟨l, p, e1, e _ _ n e2, n⟩)
  · exact .inr (.inr (.inl ⟨d, l, p, kvs, e1, e _ _ n1 e2, e3, e _ _ n2 e4, n1, n2⟩))
  · exact .inr (.inr (.inr ⟨a, d, l, p, e1, e _ _ n1 e2, e _ _ n2 e3, e _ _ n3 e4, n1, n2, n3⟩))
def Th (K : PySem.W.Frag) (H : Hp) (x : V) : Prop :=
  (∃ d a, Told K H x d ∧ Is K H x a ∧ (a = .non ∨ a = .bl ∨ a = .int ∨ a = .str)) ∨ (∃ y rows, x = .ref y ∧ Yd K H y rows ∧ ∀ r ∈ rows, r.all lowQ = true) ∨
  (∃ (a : Addr) (n : Int), x = .ref a ∧ Exn H a (He.ga K "InvalidText") [("value", .int n)]) ∨ ∃ (m : Addr) (i : Int), Bg K H x m ∧ H m = some (.lst [.int i])
theorem Told.same {K : PySem.W.Frag} {H H' : Hp} {v : V} {d : PyData} (e : Same H H') (h : Told K H v d) : Told K H' v d := ⟨h.1.same e, h.2⟩
theorem Th.same {K : PySem.W.Frag} {H H' : Hp} {x : V} (e : Same H H') (h : Th K H x) : Th K H' x := by
  rcases h with ⟨d, a, td, ia, ha⟩ | ⟨y, rows, rfl, hy, lo⟩ | ⟨a, n, rfl, he⟩ | ⟨m, i, hb, hm⟩
  · exact .inl ⟨d, a, td.same e, ia.same e, ha⟩
  · exact .inr (.inl ⟨y, rows, rfl, hy.same e, lo⟩)
  · exact .inr (.inr (.inl ⟨a, n, rfl, he.same e⟩))
  · exact .inr (.inr (.inr ⟨m, i, hb.off (Same.off e), e _ _ hm⟩))
def sp__law_inner (K : PySem.W.Frag) : Sp := sp1 fun x H Q _ => ∃ m, Bg K H x m ∧ ∀ H', Same H H' → Q (.ref m) H'
def sp__law_alike (K : PySem.W.Frag) : Sp := sp2 fun x y H Q _ => x = y ∧ Th K H y ∧ ∀ H', Same H H' → Q (.bl true) H'
theorem kitAny_or {K : PySem.W.Frag} {t c : Value} {cs : List Value} {b1 b2 : Bool} (h1 : PySem.W.kitOne K t c = some b1) (h2 : PySem.W.kitAny K t cs = some b2) : PySem.W.kitAny K t (c :: cs) = some (b1 || b2) :=
  kitAny_cons h1 (fun e => by rw [h2, e, Bool.false_or]) fun e => by rw [e, Bool.true_or]
theorem kitAny_none {K : PySem.W.Frag} {t : Value} : PySem.W.kitAny K t [] = some false := by unfold PySem.W.kitAny; rfl
/-- same as before, when what was changed at m is as it was -/
theorem same_back {H G : Hp} {m : Addr} {o : HO} (e : Off m H G) (h : H m = some o) : Same H (upd G m o) := fun b u z => by
  by_cases n : b = m
  · subst n
    rw [upd_same, ← h, z]
  · rw [upd_ne n]
    exact e _ _ n z
def t__law_inner (K : PySem.W.Frag) (E : XK) : TS := (tSeq (tIfS (tB (tCB (uIsiE K) (tCons (tVar 0) (tCons (tTup (tCons (tC (.ty "list")) (tCons (tC (.ty "tuple")) tNil))) tNil)))) (tRet (tOp (uIx K) (tVar 0) (tC (.int 1)))) tNext) (tSeq (tIfS (tB (tCB (uIsiE K) (tCons (tVar 0) (tCons (tC (.ty "dict")) tNil)))) (tRet (tOp (uIx K) (tDGet (tVar 0) (tC (.str "k"))) (tC (.int 1)))) tNext) (tRet (tIf (tB (tCB (uIsiE K) (tCons (tVar 0) (tCons (tC (.ref (He.ga K "InvalidPlace"))) tNil)))) (tOp (uIx K) (tXfE K "value" (tVar 0)) (tC (.int 1))) (tLst tNil)))))
def t__law_alike (K : PySem.W.Frag) (E : XK) : TS := (tSeq (tIfS (tB (tCB (uIsiE K) (tCons (tVar 1) (tCons (tC (.ref (He.ga K "Yard"))) tNil)))) (tRet (tAndV (tCB (uIsiE K) (tCons (tVar 0) (tCons (tC (.ref (He.ga K "Yard"))) tNil))) (tOp (uEq K) (tCB (rStrO (He.ga K "Yard") (sp_Yard_str K) E) (tCons (tVar 0) tNil)) (tCB (rStrO (He.ga K "Yard") (sp_Yard_str K) E) (tCons (tVar 1) tNil))))) tNext) (tSeq (tIfS (tB (tCB (uIsiE K) (tCons (tVar 1) (tCons (tC (.ref (He.ga K "InvalidText"))) tNil)))) (tRet (tAndV (tCB (uIsiE K) (tCons (tVar 0) (tCons (tC (.ref (He.ga K "InvalidText"))) tNil))) (tOp (uEq K) (tXfE K "value" (tVar 0)) (tXfE K "value" (tVar 1))))) tNext) (tSeq (tIfS (tNot (tB (tCB (uIsiE K) (tCons (tVar 1) (tCons (tTup (tCons (tC (.ty "list")) (tCons (tC (.ty "tuple")) (tCons (tC (.ty "dict")) (tCons (tC (.ref (He.ga K "InvalidPlace"))) tNil))))) tNil))))) (tRet (tOp (uEq K) (tCB (uReprQ K) (tCons (tVar 0) tNil)) (tCB (uReprQ K) (tCons (tVar 1) tNil)))) tNext) (tSeq (tAsg (tFn (sp__law_inner K) E (tCons (tVar 1) tNil)) (gName 2)) (tSeq (tDrop (tBM K "list" rAppend (tVar 2) (tCons (tCB (uLen K) (tCons (tVar 2) tNil)) tNil))) (tSeq (tAsg (tOp (uEq K) (tCB (uLen K) (tCons (tFn (sp__law_inner K) E (tCons (tVar 0) tNil)) tNil)) (tCB (uLen K) (tCons (tVar 2) tNil))) (gName 3)) (tSeq (tDrop (tBM0 K "list" rPop (tVar 2))) (tSeq (tIfS (tB (tCB (uIsiE K) (tCons (tVar 1) (tCons (tC (.ty "dict")) tNil)))) (tSeq (tAsg (tC (.int 9)) (gSub (tVar 1) (tC (.str "more")) rSetD)) (tSeq (tAsg (tAndV (tVar 3) (tOp rDIn (tC (.str "more")) (tVar 0))) (gName 3)) (tDrop (tDPop1 (tVar 1) (tC (.str "more")))))) tNext) (tSeq (tIfS (tOr (tNot (tTruth K (tVar 3))) (tNot (tB (tCB (uIsiE K) (tCons (tVar 1) (tCons (tC (.ty "list")) tNil)))))) (tRet (tVar 3)) tNext) (tSeq (tDrop (tBM K "list" rAppend (tVar 1) (tCons (tC (.int 9)) tNil))) (tSeq (tAsg (tOp (uEq K) (tCB (uLen K) (tCons (tVar 0) tNil)) (tCB (uLen K) (tCons (tVar 1) tNil))) (gName 3)) (tSeq (tDrop (tBM0 K "list" rPop (tVar 1))) (tRet (tVar 3))))))))))))))
section
variable {K : PySem.W.Frag} (F : KF K) (G : XG K) {vs : List V} {H : Hp} {Q : VK} {E : XK}
local macro_rules | `(tactic| walk_at "w") => `(tactic| try simp only [turnE, lcT, Snoc, tRet, tRetN, tAndV, tOrV, tNotV, tCB, tCons, tVar, tNil, tC, tOp, tSeq, tAsg, gName, gSub, tIfS, tDrop, tFn, tTup, tLst, tNext, tB, tTest, tNot, tAnd, tOr, tIf, tChain, tUn, rU, tFld, tPart, tNoPart, L2.tSl, tBM, tPar, tPar3, tTruth, tDNewK,
  L2.start, List.map_cons, List.map_nil, List.length_cons, List.length_nil, List.replicate_succ, List.replicate_zero, List.append_nil, List.nil_append, List.cons_append, List.singleton_append, Nat.sub_self, Nat.zero_add, Nat.reduceAdd, Nat.reduceSub,
  List.getElem?_cons_zero, List.getElem?_cons_succ, List.set_cons_zero, List.set_cons_succ, Option.some.injEq, exists_eq_left, exists_eq_left', V.int.injEq, V.bl.injEq, V.str.injEq, V.ref.injEq,
  uAdd_int, uAdd_str, uSub_int, uMul_int, uMul_str, uDiv_int, uMod_int, uPow_int, uLt_int, uLe_int, uGt_int, uGe_int, uIs_non, uNis_non, uIs_bl, uNis_bl, sp1, sp2, sp3, sp4, uEq_int, uEq_str, uNe_int, uNe_str, uSl_str, uLen_str, decide_eq_true_eq])
local macro_rules | `(tactic| walk_at "1") => `(tactic| try simp only [turnE, lcT, Snoc, tRet, tRetN, tAndV, tOrV, tNotV, tCB, tCons, tVar, tNil, tC, tOp, tAsg, gName, gSub, tIfS, tDrop, tFn, tTup, tLst, tNext, tB, tTest, tNot, tAnd, tOr, tIf, tChain, tUn, rU, tFld, tPart, tNoPart, L2.tSl, tBM, tPar, tPar3, tTruth, tDNewK,
  L2.start, List.map_cons, List.map_nil, List.length_cons, List.length_nil, List.replicate_succ, List.replicate_zero, List.append_nil, List.nil_append, List.cons_append, List.singleton_append, Nat.sub_self, Nat.zero_add, Nat.reduceAdd, Nat.reduceSub,
  List.getElem?_cons_zero, List.getElem?_cons_succ, List.set_cons_zero, List.set_cons_succ, Option.some.injEq, exists_eq_left, exists_eq_left', V.int.injEq, V.bl.injEq, V.str.injEq, V.ref.injEq,
  uAdd_int, uAdd_str, uSub_int, uMul_int, uMul_str, uDiv_int, uMod_int, uPow_int, uLt_int, uLe_int, uGt_int, uGe_int, uIs_non, uNis_non, uIs_bl, uNis_bl, sp1, sp2, sp3, sp4, uEq_int, uEq_str, uNe_int, uNe_str, uSl_str, uLen_str, decide_eq_true_eq])
local macro_rules | `(tactic| walk_at "s") => `(tactic| ((try dsimp only [turnE]); with_reducible refine seq_ ?_))

/-- which values ask as of the kind a -/
def As (K : PySem.W.Frag) (H : Hp) (x : V) (a : Ty) : Prop := TyE K H x (a.v K)
include F in
theorem as_ty {x : V} {a b : Ty} {T : String} (hT : b.v K = .type T) (h : As K H x a) (q : Q (.bl (a.sub b)) H) : uIsiE K [x, .ty T] H Q := ⟨_, _, h, hT ▸ F.kit a b, q⟩
include F in
theorem as_yard {x : V} {a : Ty} (h : As K H x a) (q : Q (.bl (a.sub .yard)) H) : uIsiE K [x, .ref (He.ga K "Yard")] H Q := .inl ⟨_, _, h, F.kit a .yard, q⟩
include G in
theorem as_exc {x : V} {a : Ty} {y : Str} (hy : y ∈ excL) (h : As K H x a) (q : Q (.bl false) H) : uIsiE K [x, .ref (He.ga K y)] H Q := .inl ⟨_, _, h, G.p a y hy, q⟩
include G in
theorem ex_yard {a : Addr} {c : Str} {fs : List (Str × V)} (hc : c ∈ excL) (he : Exn H a (He.ga K c) fs) (q : Q (.bl false) H) : uIsiE K [.ref a, .ref (He.ga K "Yard")] H Q := .inl ⟨_, _, .inr ⟨a, _, fs, rfl, rfl, G.c c hc, he⟩, G.k c hc .yard, q⟩
/-- the tuple of classes -/
def ltC : List V := [.ty "list", .ty "tuple"]
def ltU : List Value := [.type "list", .type "tuple"]
theorem lt_pair : Paired ClsV ltC ltU := .cons (.ty _) (.cons (.ty _) .nil)
def ltdC (K : PySem.W.Frag) : List V := [.ty "list", .ty "tuple", .ty "dict", .ref (He.ga K "InvalidPlace")]
def ltdU (K : PySem.W.Frag) : List Value := [.type "list", .type "tuple", .type "dict", .ref (He.ga K "InvalidPlace")]
theorem ltd_pair : Paired ClsV (ltdC K) (ltdU K) := .cons (.ty _) (.cons (.ty _) (.cons (.ty _) (.cons (.own _) .nil)))
include F in
theorem lt_as {x : V} {a : Ty} {p : Addr} (hp : H p = some (.tup ltC)) (h : As K H x a) (q : Q (.bl (a.sub .lst || a.sub .tup)) H) : uIsiE K [x, .ref p] H Q := by
  refine .inr ⟨_, _, _, _, hp, lt_pair, h, kitAny_or (F.kit a .lst) (kitAny_or (F.kit a .tup) kitAny_none), ?_⟩
  rw [Bool.or_false]
  exact q
include F G in
theorem ltd_as {x : V} {a : Ty} {p : Addr} (hp : H p = some (.tup (ltdC K))) (h : As K H x a) (q : Q (.bl (a.sub .lst || (a.sub .tup || a.sub .dct))) H) : uIsiE K [x, .ref p] H Q := by
  refine .inr ⟨_, _, _, _, hp, ltd_pair, h, kitAny_or (F.kit a .lst) (kitAny_or (F.kit a .tup) (kitAny_or (F.kit a .dct) (kitAny_or (G.p a "InvalidPlace" (by decide +kernel)) kitAny_none))), ?_⟩
  rw [Bool.or_false, Bool.or_false]
  exact q
include G in
theorem lt_ex {a p : Addr} {c : Str} {fs : List (Str × V)} (hc : c ∈ excL) (he : Exn H a (He.ga K c) fs) (hp : H p = some (.tup ltC)) (q : Q (.bl false) H) : uIsiE K [.ref a, .ref p] H Q :=
  .inr ⟨_, _, _, _, hp, lt_pair, .inr ⟨a, _, fs, rfl, rfl, G.c c hc, he⟩, kitAny_or (G.k c hc .lst) (kitAny_or (G.k c hc .tup) kitAny_none), q⟩
include G in
theorem ltd_ex {a p : Addr} {fs : List (Str × V)} (he : Exn H a (He.ga K "InvalidPlace") fs) (hp : H p = some (.tup (ltdC K))) (q : Q (.bl true) H) : uIsiE K [.ref a, .ref p] H Q := by
  have hc : ("InvalidPlace" : Str) ∈ excL := by decide +kernel
  refine .inr ⟨_, _, _, _, hp, ltd_pair, .inr ⟨a, _, fs, rfl, rfl, G.c _ hc, he⟩, kitAny_or (G.k _ hc .lst) (kitAny_or (G.k _ hc .tup) (kitAny_or (G.k _ hc .dct) (kitAny_or (G.i _ hc _ hc) kitAny_none))), q⟩
theorem two_at {l : Addr} {p q : V} (h : H l = some (.lst [p, q])) (z : Q q H) : uIx K (.ref l) (.int 1) H Q := uIx_lst h rfl z
include F G in
theorem read__law_inner (h : sp__law_inner K vs H Q E) : t__law_inner K E { nx := fun _ H' => Q .non H', rt := Q } (start ["_law_thing_here"] vs) H := by
  match vs, h with
  | [_], ⟨m, hb, q⟩ =>
    unfold t__law_inner
    walk_at "s"
    walk_at "1"
    refine ⟨by decide, fun p hp => ?_⟩
    have s1 : Same H (upd H p (.tup ltC)) := same_new hp
    have g1 : upd H p (.tup ltC) p = some (.tup ltC) := upd_same
    show uIsiE K _ (upd H p (.tup ltC)) _
    generalize upd H p (.tup ltC) = H1 at *
    rcases hb.off (Same.off s1) with ⟨l, w, rfl, e2, n⟩ | ⟨l, w, rfl, e2, n⟩ | ⟨d, l, w, kvs, rfl, e2, e3, e4, n1, n2⟩ | ⟨a, d, l, w, rfl, e2, e3, e4, n1, n2, n3⟩
    · refine lt_as F g1 (.inl (is_lst e2)) ?_
      refine ⟨_, rfl, ?_⟩
      rw [if_pos (by decide)]
      exact two_at e2 (q _ s1)
    · refine lt_as F g1 (.inl (is_tup e2)) ?_
      refine ⟨_, rfl, ?_⟩
      rw [if_pos (by decide)]
      exact ⟨_, _, .inr (.inl (.inl e2)), rfl, q _ s1⟩
    · refine lt_as F g1 (.inl (is_dct e2)) ?_
      refine ⟨_, rfl, ?_⟩
      rw [if_neg (by decide)]
      walk_at "s"
      walk_at "1"
      refine as_ty (b := .dct) F rfl (.inl (is_dct e2)) ?_
      refine ⟨_, rfl, ?_⟩
      rw [if_pos (by decide)]
      refine ⟨.ref d, rfl, d, .ref l, rfl, ?_, two_at e4 (q _ s1)⟩
      have := DGet.k (k := .inr "k") e2
      rcases e3 with rfl | rfl <;> exact this
    · have hc : ("InvalidPlace" : Str) ∈ excL := by decide +kernel
      have he : Exn H1 a (He.ga K "InvalidPlace") [("value", .ref l)] := .inr ⟨d, e2, e3⟩
      refine lt_ex G hc he g1 ?_
      refine ⟨_, rfl, ?_⟩
      rw [if_neg (by decide)]
      walk_at "s"
      walk_at "1"
      refine isE_ty (t := .dct) G rfl hc he ?_
      refine ⟨_, rfl, ?_⟩
      rw [if_neg (by decide)]
      walk_at "1"
      refine isE_of G hc hc he ?_
      refine ⟨_, rfl, ?_⟩
      rw [if_pos (by decide)]
      exact fld_of G rfl hc (by decide +kernel) he rfl (two_at e4 (q _ s1))
end
end U
namespace U
open PySem PySem.Spec PyProof.Rows L2
section
variable {K : PySem.W.Frag} (F : KF K) (G : XG K) {vs : List V} {H : Hp} {Q : VK} {E : XK}
local macro_rules | `(tactic| walk_at "w") => `(tactic| try simp only [turnE, lcT, Snoc, tRet, tRetN, tAndV, tOrV, tNotV, tCB, tCons, tVar, tNil, tC, tOp, tSeq, tAsg, gName, gSub, tIfS, tDrop, tFn, tTup, tLst, tNext, tB, tTest, tNot, tAnd, tOr, tIf, tChain, tUn, rU, tFld, tPart, tNoPart, L2.tSl, tBM, tPar, tPar3, tTruth, tDNewK,
  L2.start, List.map_cons, List.map_nil, List.length_cons, List.length_nil, List.replicate_succ, List.replicate_zero, List.append_nil, List.nil_append, List.cons_append, List.singleton_append, Nat.sub_self, Nat.zero_add, Nat.reduceAdd, Nat.reduceSub,
  List.getElem?_cons_zero, List.getElem?_cons_succ, List.set_cons_zero, List.set_cons_succ, Option.some.injEq, exists_eq_left, exists_eq_left', V.int.injEq, V.bl.injEq, V.str.injEq, V.ref.injEq,
  uAdd_int, uAdd_str, uSub_int, uMul_int, uMul_str, uDiv_int, uMod_int, uPow_int, uLt_int, uLe_int, uGt_int, uGe_int, uIs_non, uNis_non, uIs_bl, uNis_bl, sp1, sp2, sp3, sp4, uEq_int, uEq_str, uNe_int, uNe_str, uSl_str, uLen_str, decide_eq_true_eq])
local macro_rules | `(tactic| walk_at "1") => `(tactic| try simp only [turnE, lcT, Snoc, tRet, tRetN, tAndV, tOrV, tNotV, tCB, tCons, tVar, tNil, tC, tOp, tAsg, gName, gSub, tIfS, tDrop, tFn, tTup, tLst, tNext, tB, tTest, tNot, tAnd, tOr, tIf, tChain, tUn, rU, tFld, tPart, tNoPart, L2.tSl, tBM, tPar, tPar3, tTruth, tDNewK,
  L2.start, List.map_cons, List.map_nil, List.length_cons, List.length_nil, List.replicate_succ, List.replicate_zero, List.append_nil, List.nil_append, List.cons_append, List.singleton_append, Nat.sub_self, Nat.zero_add, Nat.reduceAdd, Nat.reduceSub,
  List.getElem?_cons_zero, List.getElem?_cons_succ, List.set_cons_zero, List.set_cons_succ, Option.some.injEq, exists_eq_left, exists_eq_left', V.int.injEq, V.bl.injEq, V.str.injEq, V.ref.injEq,
  uAdd_int, uAdd_str, uSub_int, uMul_int, uMul_str, uDiv_int, uMod_int, uPow_int, uLt_int, uLe_int, uGt_int, uGe_int, uIs_non, uNis_non, uIs_bl, uNis_bl, sp1, sp2, sp3, sp4, uEq_int, uEq_str, uNe_int, uNe_str, uSl_str, uLen_str, decide_eq_true_eq])
local macro_rules | `(tactic| walk_at "s") => `(tactic| ((try dsimp only [turnE]); with_reducible refine seq_ ?_))

theorem len_at {l : Addr} {xs : List V} (h : H l = some (.lst xs)) (q : Q (.int xs.length) H) : uLen K [.ref l] H Q := ⟨xs, .inl (.inl (.inl h)), q⟩
theorem pop_at {l : Addr} {xs : List V} {y : V} (h : H l = some (.lst (xs ++ [y]))) (q : Q y (upd H l (.lst xs))) : rPop (.ref l) [] H Q := by
  refine ⟨l, xs ++ [y], y, rfl, rfl, h, by simp, ?_⟩
  rw [List.dropLast_concat]
  exact q
theorem bg_is {x : V} {m : Addr} (h : Bg K H x m) : (∃ a, As K H x a ∧ (a = .lst ∨ a = .tup ∨ a = .dct)) ∨ ∃ a fs, x = .ref a ∧ Exn H a (He.ga K "InvalidPlace") fs := by
  rcases h with ⟨l, p, rfl, e2, n⟩ | ⟨l, p, rfl, e2, n⟩ | ⟨d, l, p, kvs, rfl, e2, e3, e4, n1, n2⟩ | ⟨a, d, l, p, rfl, e2, e3, e4, n1, n2, n3⟩
  · exact .inl ⟨.lst, .inl (is_lst e2), .inl rfl⟩
  · exact .inl ⟨.tup, .inl (is_tup e2), .inr (.inl rfl)⟩
  · exact .inl ⟨.dct, .inl (is_dct e2), .inr (.inr rfl)⟩
  · exact .inr ⟨a, _, rfl, .inr ⟨d, e2, e3⟩⟩
include F G in
theorem bg_yard {x : V} {m : Addr} (h : Bg K H x m) (q : Q (.bl false) H) : uIsiE K [x, .ref (He.ga K "Yard")] H Q := by
  rcases bg_is h with ⟨a, ia, rfl | rfl | rfl⟩ | ⟨a, fs, rfl, he⟩
  · exact as_yard F ia q
  · exact as_yard F ia q
  · exact as_yard F ia q
  · exact ex_yard G (by decide +kernel) he q
include F G in
theorem bg_text {x : V} {m : Addr} (h : Bg K H x m) (q : Q (.bl false) H) : uIsiE K [x, .ref (He.ga K "InvalidText")] H Q := by
  rcases bg_is h with ⟨a, ia, _⟩ | ⟨a, fs, rfl, he⟩
  · exact as_exc G (by decide +kernel) ia q
  · exact isE_of G (by decide +kernel) (by decide +kernel) he (by rw [decide_eq_false (by decide)]; exact q)
include F G in
theorem bg_ltd {x : V} {m p : Addr} (h : Bg K H x m) (hp : H p = some (.tup (ltdC K))) (q : Q (.bl true) H) : uIsiE K [x, .ref p] H Q := by
  rcases bg_is h with ⟨a, ia, rfl | rfl | rfl⟩ | ⟨a, fs, rfl, he⟩
  · exact ltd_as F G hp ia q
  · exact ltd_as F G hp ia q
  · exact ltd_as F G hp ia q
  · exact ltd_ex G he hp q
include F G in
theorem read__law_alike (h : sp__law_alike K vs H Q E) : t__law_alike K E { nx := fun _ H' => Q .non H', rt := Q } (start ["_law_one", "_law_thing_here", "_law_inner_here", "_law_grown_now"] vs) H := by
  match vs, h with
  | [_, x], ⟨rfl, th, q⟩ =>
    unfold t__law_alike
    rcases th with ⟨d, a, td, ia, ha⟩ | ⟨y, rows, rfl, hy, lo⟩ | ⟨a, n, rfl, he⟩ | ⟨m, i, hb, hm⟩
    · walk_at "s"
      walk_at "1"
      refine as_yard F (.inl ia) ⟨_, rfl, ?_⟩
      rw [if_neg (by rcases ha with rfl | rfl | rfl | rfl <;> decide)]
      walk_at "s"
      walk_at "1"
      refine as_exc G (by decide +kernel) (.inl ia) ⟨_, rfl, ?_⟩
      rw [if_neg (by decide)]
      walk_at "s"
      walk_at "1"
      refine ⟨by decide, fun p hp => ?_⟩
      have s1 : Same H (upd H p (.tup (ltdC K))) := same_new hp
      have g1 : upd H p (.tup (ltdC K)) p = some (.tup (ltdC K)) := upd_same
      show uIsiE K _ (upd H p (.tup (ltdC K))) _
      generalize upd H p (.tup (ltdC K)) = H1 at *
      refine ltd_as F G g1 (.inl (ia.same s1)) ⟨_, rfl, ?_⟩
      have nb : (!(a.sub .lst || (a.sub .tup || a.sub .dct))) = true := by rcases ha with rfl | rfl | rfl | rfl <;> rfl
      rw [if_pos nb]
      obtain ⟨td1, td2⟩ := td.same s1
      walk_at "1"
      refine ⟨x, d, rfl, td1, td2.1, td2.2.1, td2.2.2, ⟨x, d, rfl, td1, td2.1, td2.2.1, td2.2.2, ?_⟩⟩
      walk_at "1"
      rw [show decide True = true from rfl]
      exact q _ s1
    · obtain ⟨dx, t, as, y1, y2⟩ := id hy
      walk_at "s"
      walk_at "1"
      refine as_yard F (.inl (is_yard F y1)) ⟨_, rfl, ?_⟩
      rw [if_pos (by decide)]
      walk_at "1"
      refine as_yard F (.inl (is_yard F y1)) ⟨_, rfl, ?_⟩
      rw [if_pos (by decide)]
      refine ⟨y, dx, _, rfl, y1, y, rows, rfl, hy, lo, fun H1 s1 => ⟨_, rfl, y, dx, _, rfl, s1 _ _ y1, y, rows, rfl, hy.same s1, lo, fun H2 s2 => ⟨_, rfl, ?_⟩⟩⟩
      walk_at "1"
      rw [show decide True = true from rfl]
      exact q _ (s1.trans s2)
    · have hc : ("InvalidText" : Str) ∈ excL := by decide +kernel
      walk_at "s"
      walk_at "1"
      refine ex_yard G hc he ⟨_, rfl, ?_⟩
      rw [if_neg (by decide)]
      walk_at "s"
      walk_at "1"
      refine isE_of G hc hc he ⟨_, rfl, ?_⟩
      rw [if_pos (by decide)]
      walk_at "1"
      refine isE_of G hc hc he ⟨_, rfl, ?_⟩
      rw [if_pos (by decide)]
      refine fld_of G rfl hc (by decide +kernel) he rfl (fld_of G rfl hc (by decide +kernel) he rfl ?_)
      walk_at "1"
      rw [show decide True = true from rfl]
      exact q _ (Same.refl _)
    · walk_at "s"
      walk_at "1"
      refine bg_yard F G hb ⟨_, rfl, ?_⟩
      rw [if_neg (by decide)]
      walk_at "s"
      walk_at "1"
      refine bg_text F G hb ⟨_, rfl, ?_⟩
      rw [if_neg (by decide)]
      walk_at "s"
      walk_at "1"
      refine ⟨by decide, fun p hp => ?_⟩
      have s1 : Same H (upd H p (.tup (ltdC K))) := same_new hp
      have g1 : upd H p (.tup (ltdC K)) p = some (.tup (ltdC K)) := upd_same
      show uIsiE K _ (upd H p (.tup (ltdC K))) _
      generalize upd H p (.tup (ltdC K)) = H1 at *
      have hb1 := hb.off (Same.off s1)
      refine bg_ltd F G hb1 g1 ⟨_, rfl, ?_⟩
      rw [if_neg (by decide)]
      walk_at "s"
      walk_at "1"
      refine ⟨m, hb1, fun H2 s2 => ?_⟩
      have s2 := s1.trans s2
      have hm2 := s2 _ _ hm
      walk_at "s"
      walk_at "1"
      refine ⟨tyL hm2, len_at hm2 (app_of hm2 (Nat.le_of_ble_eq_true rfl) ?_)⟩
      have o3 : Off m H2 (upd H2 m (.lst ([.int i] ++ [.int ([V.int i].length : Nat)]))) := off_upd
      have hm3 : upd H2 m (.lst ([.int i] ++ [.int ([V.int i].length : Nat)])) m = some (.lst ([.int i] ++ [.int 1])) := upd_same
      show tSeq _ _ _ _ (upd H2 m (.lst ([.int i] ++ [.int ([V.int i].length : Nat)])))
      generalize upd H2 m (.lst ([.int i] ++ [.int ([V.int i].length : Nat)])) = H3 at *
      have hb3 := hb.off ((Same.off s2).trans o3)
      walk_at "s"
      walk_at "1"
      refine ⟨m, hb3, fun H4 s4 => len_at (s4 _ _ hm3) (len_at (s4 _ _ hm3) ?_)⟩
      walk_at "1"
      rw [show decide True = true from rfl]
      have o4 := (Same.off s2).trans (o3.trans (Same.off s4))
      have hm4 := s4 _ _ hm3
      walk_at "s"
      walk_at "1"
      refine ⟨.ref m, rfl, tyL hm4, pop_at hm4 ?_⟩
      have s5 : Same H (upd H4 m (.lst [.int i])) := same_back o4 hm
      show tSeq _ _ _ _ (upd H4 m (.lst [.int i]))
      generalize upd H4 m (.lst [.int i]) = H5 at *
      have hb5 := hb.off (Same.off s5)
      walk_at "s"
      walk_at "1"
      rcases hb5 with ⟨l, p, rfl, e2, n⟩ | ⟨l, p, rfl, e2, n⟩ | ⟨d, l, p, kvs, rfl, e2, e3, e4, n1, n2⟩ | ⟨a, d, l, p, rfl, e2, e3, e4, n1, n2, n3⟩
      · refine as_ty (b := .dct) F rfl (.inl (is_lst e2)) ⟨_, rfl, ?_⟩
        rw [if_neg (by decide)]
        walk_at "s"
        walk_at "1"
        refine ⟨true, rfl, ?_⟩
        rw [if_neg (by decide)]
        refine as_ty (b := .lst) F rfl (.inl (is_lst e2)) ⟨_, rfl, ?_⟩
        rw [if_neg (by decide)]
        walk_at "s"
        walk_at "1"
        refine ⟨tyL e2, app_of e2 (Nat.le_of_ble_eq_true rfl) ?_⟩
        have o6 : Off l H5 (upd H5 l (.lst ([p, .ref m] ++ [.int 9]))) := off_upd
        have e6 : upd H5 l (.lst ([p, .ref m] ++ [.int 9])) l = some (.lst ([p, .ref m] ++ [.int 9])) := upd_same
        show tSeq _ _ _ _ (upd H5 l (.lst ([p, .ref m] ++ [.int 9])))
        generalize upd H5 l (.lst ([p, .ref m] ++ [.int 9])) = H6 at *
        walk_at "s"
        walk_at "1"
        refine len_at e6 (len_at e6 ?_)
        walk_at "1"
        rw [show decide True = true from rfl]
        walk_at "s"
        walk_at "1"
        refine ⟨.ref l, rfl, tyL e6, pop_at e6 ?_⟩
        exact q _ (s5.trans (same_back o6 e2))
      · refine as_ty (b := .dct) F rfl (.inl (is_tup e2)) ⟨_, rfl, ?_⟩
        rw [if_neg (by decide)]
        walk_at "s"
        walk_at "1"
        refine ⟨true, rfl, ?_⟩
        rw [if_neg (by decide)]
        refine as_ty (b := .lst) F rfl (.inl (is_tup e2)) ⟨_, rfl, ?_⟩
        rw [if_pos (by decide)]
        exact q _ s5
      · refine as_ty (b := .dct) F rfl (.inl (is_dct e2)) ⟨_, rfl, ?_⟩
        rw [if_pos (by decide)]
        walk_at "s"
        walk_at "1"
        have few : kvs.length < sizeLine := by rcases e3 with rfl | rfl <;> exact Nat.lt_of_lt_of_le (show _ < 3 by simp) (by decide)
        refine ⟨d, _, rfl, DPut.k (k := .inr "more") e2 few, ?_⟩
        have ep : putK kvs (.inr "more") (.int 9) = kvs ++ [(.inr "more", .int 9)] := by rcases e3 with rfl | rfl <;> rfl
        have ev : valV (kvs ++ [(.inr "more", .int 9)]) (.inr "more") = some (.int 9) := by rcases e3 with rfl | rfl <;> rfl
        have ed : dropK (kvs ++ [(.inr "more", .int 9)]) (.inr "more") = kvs := by rcases e3 with rfl | rfl <;> rfl
        rw [ep]
        have o6 : Off d H5 (upd H5 d (.dK (kvs ++ [(.inr "more", .int 9)]))) := off_upd
        have e6 : upd H5 d (.dK (kvs ++ [(.inr "more", .int 9)])) d = some (.dK (kvs ++ [(.inr "more", .int 9)])) := upd_same
        show tSeq _ _ _ _ (upd H5 d (.dK (kvs ++ [(.inr "more", .int 9)])))
        generalize upd H5 d (.dK (kvs ++ [(.inr "more", .int 9)])) = H6 at *
        walk_at "s"
        walk_at "1"
        rw [if_pos trivial]
        refine ⟨d, _, rfl, DGet.k (k := .inr "more") e6, ?_⟩
        rw [ev]
        refine ⟨.ref d, rfl, d, rfl, .inl ⟨_, .inl e6⟩, _, .inr "more", _, e6, rfl, ev, ?_⟩
        rw [ed]
        have s7 : Same H (upd H6 d (.dK kvs)) := s5.trans (same_back o6 e2)
        have e7 : upd H6 d (.dK kvs) d = some (.dK kvs) := upd_same
        show tSeq _ _ _ _ (upd H6 d (.dK kvs))
        generalize upd H6 d (.dK kvs) = H7 at *
        walk_at "s"
        walk_at "1"
        refine ⟨true, rfl, ?_⟩
        rw [if_neg (by decide)]
        refine as_ty (b := .lst) F rfl (.inl (is_dct e7)) ⟨_, rfl, ?_⟩
        rw [if_pos (by decide)]
        exact q _ s7
      · refine isE_ty (t := .dct) G rfl (by decide +kernel) (.inr ⟨d, e2, e3⟩) ⟨_, rfl, ?_⟩
        rw [if_neg (by decide)]
        walk_at "s"
        walk_at "1"
        refine ⟨true, rfl, ?_⟩
        rw [if_neg (by decide)]
        refine isE_ty (t := .lst) G rfl (by decide +kernel) (.inr ⟨d, e2, e3⟩) ⟨_, rfl, ?_⟩
        rw [if_pos (by decide)]
        exact q _ s5
end
end U
namespace U
open PySem PySem.Spec PyProof.Rows L2
def sp__law_thing (K : PySem.W.Frag) : Sp := sp1 fun x H Q _ => ∃ b m, x = .ref b ∧ Bx H b m ∧ m ≤ 1000 ∧ ∀ v H', Off b H H' → Th K H' v → Q v H'
def t__law_thing (K : PySem.W.Frag) (E : XK) : TS := (tSeq (tAsg (tFn (sp__law_take K) E (tCons (tVar 0) (tCons (tOp uPow (tC (.int 10)) (tC (.int 29))) tNil))) (gName 1)) (tSeq (tAsg (tLst (tCons (tC .non) (tCons (tC (.bl true)) (tCons (tC (.bl false)) (tCons (tVar 1) (tCons (tOp uSub (tC (.int 0)) (tVar 1)) (tCons (tOp uMul (tC (.str "a")) (tOp uMod (tVar 1) (tC (.int 30)))) (tCons (tCm (He.ga K "Yard") (sp_Yard_even K) E (tC (.ref (He.ga K "Yard"))) (tCons (tC (.int 2)) (tCons (tOp uAdd (tC (.int 1)) (tVar 1)) tNil))) (tCons (tMkX K "InvalidText" (spExcI K "InvalidText" "value") (tCons (tVar 1) tNil)) tNil))))))))) (gName 2)) (tSeq (tAsg (tLst (tCons (tOp (uIx K) (tVar 2) (tFn (sp__law_take K) E (tCons (tVar 0) (tCons (tC (.int 8)) tNil)))) (tCons (tLst (tCons (tC (.int 3)) tNil)) tNil))) (gName 3)) (tSeq (tAsg (tLst (tCons (tVar 3) (tCons (tCB (uTup K) (tCons (tVar 3) tNil)) (tCons (tDisp [((tC (.str "k")), (tVar 3))]) (tCons (tDisp [((tC (.int 4)), (tC (.str "x"))), ((tC (.str "k")), (tVar 3))]) (tCons (tMkX K "InvalidPlace" (spExcI K "InvalidPlace" "value") (tCons (tLst (tCons (tVar 1) (tCons (tLst (tCons (tC (.int 4)) tNil)) tNil))) tNil)) tNil)))))) (gName 4)) (tRet (tOp (uIx K) (tOp uAdd (tVar 2) (tVar 4)) (tFn (sp__law_take K) E (tCons (tVar 0) (tCons (tC (.int 13)) tNil)))))))))
theorem told_int {K : PySem.W.Frag} {H : Hp} (i : Int) (h : i.natAbs < 10 ^ 30) : Told K H (.int i) (.int i) := by
  refine ⟨.qint i, ?_, by simp [PyData.depth], ?_⟩
  · rw [PyData.showable]
    have : i.natAbs.log2 < 100 := by
      by_cases z : i.natAbs = 0
      · rw [z]; decide
      · exact (Nat.log2_lt z).mpr (Nat.lt_of_lt_of_le h (by decide))
    refine decide_eq_true (by omega)
  · rw [PyData.shown_int, PySem.ofString_length]
    have e := int_text_length_le10 (k := 30) (by decide) h
    have := sizeLine_eq
    omega
theorem short_a : ∀ n : Fin 30, (PyData.shown (.str (Txt.mul ("a" : Str) (n.val : Int)))).length ≤ 1000 := by
  simp only [PyData.shown_str]
  decide +kernel
theorem told_a {K : PySem.W.Frag} {H : Hp} {n : Int} (h0 : 0 ≤ n) (h1 : n < 30) : Told K H (.str (Txt.mul "a" n)) (.str (Txt.mul "a" n)) := by
  refine ⟨.qstr _, by simp [PyData.showable], by simp [PyData.depth], ?_⟩
  have := short_a ⟨n.toNat, by omega⟩
  rw [show ((⟨n.toNat, by omega⟩ : Fin 30).val : Int) = n by simp; omega] at this
  exact Nat.le_trans this (by decide)
theorem same_upd2 {H : Hp} {p : Addr} {o1 o2 : HO} (h : H p = none) : Same H (upd (upd H p o1) p o2) := fun b u e => by
  rw [upd_ne (ne_of_none e h), upd_ne (ne_of_none e h)]
  exact e
def P8 (n : Int) (y a8 : Addr) : List V := [.non, .bl true, .bl false, .int n, .int (0 - n), .str (Txt.mul "a" (n % 30)), .ref y, .ref a8]
theorem at_some {xs : List V} {d : Int} (h0 : 0 ≤ d) (h1 : d < xs.length) : ∃ v, atI xs d = some v ∧ v ∈ xs := by
  have lt : d.toNat < xs.length := by omega
  refine ⟨xs[d.toNat], ?_, List.getElem_mem lt⟩
  unfold atI ixN
  rw [if_pos h0, if_pos h1]
  exact List.getElem?_eq_getElem lt
/-- a box of three numbers -/
theorem Bx.three {H : Hp} {b : Addr} {m : Int} (h : Bx H b m) : ∃ x y z : V, H b = some (.lst [x, y, z]) := by
  obtain ⟨g, s, k, e, _⟩ := h
  exact ⟨_, _, _, e⟩
theorem Yd.off {K : PySem.W.Frag} {H H' : Hp} {b p : Addr} {rows : List (List (Option Int))} (o : Off b H H') (hb : ∃ l, H b = some (.lst l)) (h : Yd K H p rows) : Yd K H' p rows := by
  obtain ⟨l, hb⟩ := hb
  obtain ⟨dx, t, as, y1, y2, y3, y4, y5, y6, y7⟩ := h
  exact ⟨dx, t, as, o _ _ (by rintro rfl; rw [hb] at y1; cases y1) y1, o.sqT hb y2, y3, y4, y5, fun i a r z1 z2 => o.sqT hb (y6 i a r z1 z2), y7⟩
theorem Th.offb {K : PySem.W.Frag} {H H' : Hp} {b : Addr} {x : V} (hb : ∃ x y z : V, H b = some (.lst [x, y, z])) (o : Off b H H') (h : Th K H x) : Th K H' x := by
  obtain ⟨u1, u2, u3, eb⟩ := hb
  have ne : ∀ {c : Addr} {w : HO}, H c = some w → w ≠ .lst [u1, u2, u3] → c ≠ b := fun e n z => n (Option.some.inj ((z ▸ e).symm.trans eb))
  have xo : ∀ {a C : Addr} {d : Option Addr}, exo a C d ≠ .lst [u1, u2, u3] := fun z => by
    have z' : HO.ext _ = HO.lst _ := z
    cases z'
  have xd : ∀ {a : Addr} {fs : List (Str × V)}, exd a fs ≠ .lst [u1, u2, u3] := fun z => by
    have z' : HO.ext _ = HO.lst _ := z
    cases z'
  have l2 : ∀ {p q : V}, HO.lst [p, q] ≠ .lst [u1, u2, u3] := fun z => by simp at z
  have l1 : ∀ {p : V}, HO.lst [p] ≠ .lst [u1, u2, u3] := fun z => by simp at z
  rcases h with ⟨d, a, td, ia, ha⟩ | ⟨y, rows, rfl, hy, lo⟩ | ⟨a, n, rfl, he⟩ | ⟨m, i, hb, hm⟩
  · refine .inl ⟨d, a, ⟨?_, td.2⟩, ?_, ha⟩
    · rcases ha with rfl | rfl | rfl | rfl
      · rw [ia.non_inv] at td ⊢
        cases td.1
        exact .qnon
      · obtain ⟨z, rfl⟩ := ia.bl_inv
        cases td.1
        exact .qbl z
      · obtain ⟨z, rfl⟩ := ia.int_inv
        cases td.1
        exact .qint z
      · obtain ⟨z, rfl⟩ := ia.str_inv
        cases td.1
        exact .qstr z
    · rcases ha with rfl | rfl | rfl | rfl
      · rw [ia.non_inv]
        exact is_non
      · obtain ⟨z, rfl⟩ := ia.bl_inv
        exact is_bl z
      · obtain ⟨z, rfl⟩ := ia.int_inv
        exact is_int z
      · obtain ⟨z, rfl⟩ := ia.str_inv
        exact is_str z
  · exact .inr (.inl ⟨y, rows, rfl, hy.off o ⟨_, eb⟩, lo⟩)
  · refine .inr (.inr (.inl ⟨a, n, rfl, ?_⟩))
    rcases he with ⟨e1, e2⟩ | ⟨d, e1, e2⟩
    · cases e2
    · exact .inr ⟨d, o _ _ (ne e1 xo) e1, o _ _ (ne e2 xd) e2⟩
  · refine .inr (.inr (.inr ⟨m, i, ?_, o _ _ (ne hm l1) hm⟩))
    rcases hb with ⟨l, p, e1, e2, n⟩ | ⟨l, p, e1, e2, n⟩ | ⟨d, l, p, kvs, e1, e2, e3, e4, n1, n2⟩ | ⟨a, d, l, p, e1, e2, e3, e4, n1, n2, n3⟩
    · exact .inl ⟨l, p, e1, o _ _ (ne e2 l2) e2, n⟩
    · exact .inr (.inl ⟨l, p, e1, o _ _ (ne e2 (by simp)) e2, n⟩)
    · exact .inr (.inr (.inl ⟨d, l, p, kvs, e1, o _ _ (ne e2 (by simp)) e2, e3, o _ _ (ne e4 l2) e4, n1, n2⟩))
    · exact .inr (.inr (.inr ⟨a, d, l, p, e1, o _ _ (ne e2 xo) e2, o _ _ (ne e3 xd) e3, o _ _ (ne e4 l2) e4, n1, n2, n3⟩))
section
variable {K : PySem.W.Frag} (F : KF K) {vs : List V} {H : Hp} {Q : VK} {E : XK}
local macro_rules | `(tactic| walk_at "w") => `(tactic| try simp only [turnE, lcT, Snoc, tRet, tRetN, tAndV, tOrV, tNotV, tCB, tCons, tVar, tNil, tC, tOp, tSeq, tAsg, gName, gSub, tIfS, tDrop, tFn, tTup, tLst, tNext, tB, tTest, tNot, tAnd, tOr, tIf, tChain, tUn, rU, tFld, tPart, tNoPart, L2.tSl, tBM, tPar, tPar3, tTruth, tDNewK,
  L2.start, List.map_cons, List.map_nil, List.length_cons, List.length_nil, List.replicate_succ, List.replicate_zero, List.append_nil, List.nil_append, List.cons_append, List.singleton_append, Nat.sub_self, Nat.zero_add, Nat.reduceAdd, Nat.reduceSub,
  List.getElem?_cons_zero, List.getElem?_cons_succ, List.set_cons_zero, List.set_cons_succ, Option.some.injEq, exists_eq_left, exists_eq_left', V.int.injEq, V.bl.injEq, V.str.injEq, V.ref.injEq,
  uAdd_int, uAdd_str, uSub_int, uMul_int, uMul_str, uDiv_int, uMod_int, uPow_int, uLt_int, uLe_int, uGt_int, uGe_int, uIs_non, uNis_non, uIs_bl, uNis_bl, sp1, sp2, sp3, sp4, uEq_int, uEq_str, uNe_int, uNe_str, uSl_str, uLen_str, decide_eq_true_eq])
local macro_rules | `(tactic| walk_at "1") => `(tactic| try simp only [turnE, lcT, Snoc, tRet, tRetN, tAndV, tOrV, tNotV, tCB, tCons, tVar, tNil, tC, tOp, tAsg, gName, gSub, tIfS, tDrop, tFn, tTup, tLst, tNext, tB, tTest, tNot, tAnd, tOr, tIf, tChain, tUn, rU, tFld, tPart, tNoPart, L2.tSl, tBM, tPar, tPar3, tTruth, tDNewK,
  L2.start, List.map_cons, List.map_nil, List.length_cons, List.length_nil, List.replicate_succ, List.replicate_zero, List.append_nil, List.nil_append, List.cons_append, List.singleton_append, Nat.sub_self, Nat.zero_add, Nat.reduceAdd, Nat.reduceSub,
  List.getElem?_cons_zero, List.getElem?_cons_succ, List.set_cons_zero, List.set_cons_succ, Option.some.injEq, exists_eq_left, exists_eq_left', V.int.injEq, V.bl.injEq, V.str.injEq, V.ref.injEq,
  uAdd_int, uAdd_str, uSub_int, uMul_int, uMul_str, uDiv_int, uMod_int, uPow_int, uLt_int, uLe_int, uGt_int, uGe_int, uIs_non, uNis_non, uIs_bl, uNis_bl, sp1, sp2, sp3, sp4, uEq_int, uEq_str, uNe_int, uNe_str, uSl_str, uLen_str, decide_eq_true_eq])
local macro_rules | `(tactic| walk_at "s") => `(tactic| ((try dsimp only [turnE]); with_reducible refine seq_ ?_))

theorem th_non : Th K H .non := .inl ⟨.none, .non, ⟨.qnon, by simp [PyData.showable], by simp [PyData.depth], by rw [PyData.shown]; decide⟩, is_non, .inl rfl⟩
theorem th_bl (b : Bool) : Th K H (.bl b) := .inl ⟨.bool b, .bl, ⟨.qbl b, by simp [PyData.showable], by simp [PyData.depth], by cases b <;> (rw [PyData.shown]; decide)⟩, is_bl b, .inr (.inl rfl)⟩
theorem th_int (i : Int) (h : i.natAbs < 10 ^ 30) : Th K H (.int i) := .inl ⟨.int i, .int, told_int i h, is_int i, .inr (.inr (.inl rfl))⟩
theorem th_a {n : Int} (h0 : 0 ≤ n) (h1 : n < 30) : Th K H (.str (Txt.mul "a" n)) := .inl ⟨_, .str, told_a h0 h1, is_str _, .inr (.inr (.inr rfl))⟩
theorem mk_fin {c f : Str} {v : V} (q : ∀ a H', H a = none → Same H H' → Exn H' a (He.ga K c) [(f, v)] → Q (.ref a) H') : [v].length ≤ 1000 ∧ ∀ a, H a = none → spExcI K c f (.ref a :: [v]) (upd H a (exo a (He.ga K c) none)) (fun w H2 => w = .non ∧ Q (.ref a) H2) E0 :=
  ⟨Nat.le_of_ble_eq_true rfl, fun a ha => ⟨a, v, rfl, upd_same, fun dx hd ne => ⟨rfl, (fun z => q a _ ha z.1 z.2) (exn_new (C := He.ga K c) (fs := [(f, v)]) (o2 := exd dx []) ha hd ne)⟩⟩⟩
include F in
theorem read__law_thing (h : sp__law_thing K vs H Q E) : t__law_thing K E { nx := fun _ H' => Q .non H', rt := Q } (start ["_law_bag_here", "_law_amount", "_law_plain", "_law_inner_here", "_law_built"] vs) H := by
  match vs, h with
  | [_], ⟨b, m, rfl, hb, hm, q⟩ =>
    unfold t__law_thing
    walk_at "s"
    walk_at "1"
    refine ⟨⟨by omega, by omega, by omega⟩, take_of hb (by omega) (by decide) (by decide) fun n H1 n0 n1 o1 b1 => ?_⟩
    have n1 : n < 100000000000000000000000000000 := by
      have t : (10 : Int) ^ Int.toNat 29 = 100000000000000000000000000000 := by decide
      rw [t] at n1
      exact n1
    walk_at "s"
    walk_at "1"
    refine ⟨by omega, by omega, by omega, by decide, ?_⟩
    simp only [tCm]
    walk_at "1"
    refine ⟨trivial, .inl ⟨2, 1 + n, rfl, rfl, rfl, by omega, by omega, by omega, fun y H2 s2 ny hy => ?_⟩⟩
    refine mk_pos rfl fun a8 H3 na s3 e8 => ⟨by decide, fun p hp => ?_⟩
    have b3 : Bx H3 b (m + 1) := (b1.same s2).same s3
    have npb := b3.ne hp
    have t3 : ∀ v ∈ P8 n y a8, Th K H3 v := by
      intro v hv
      unfold P8 at hv
      simp only [List.mem_cons, List.not_mem_nil, or_false] at hv
      have g1 : n.natAbs < 10 ^ 30 := Nat.lt_of_lt_of_le (show n.natAbs < 100000000000000000000000000000 by omega) (by decide)
      have g2 : (0 - n).natAbs < 10 ^ 30 := Nat.lt_of_lt_of_le (show (0 - n).natAbs < 100000000000000000000000000000 by omega) (by decide)
      rcases hv with rfl | rfl | rfl | rfl | rfl | rfl | rfl | rfl
      · exact th_non
      · exact th_bl _
      · exact th_bl _
      · exact th_int _ g1
      · exact th_int _ g2
      · exact th_a (by omega) (by omega)
      · refine .inr (.inl ⟨y, _, rfl, hy.same s3, fun r hr => ?_⟩)
        rw [List.eq_of_mem_replicate hr]
        refine List.all_eq_true.mpr fun o ho => ?_
        rw [List.eq_of_mem_replicate ho]
        refine decide_eq_true ⟨by omega, ?_⟩
        have t2 : (10 : Int) ^ 32 = 100000000000000000000000000000000 := by decide
        rw [t2]
        omega
      · exact .inr (.inr (.inl ⟨a8, n, rfl, e8⟩))
    have s4 : Same H3 (upd H3 p (.lst (P8 n y a8))) := same_new hp
    have hp4 : upd H3 p (.lst (P8 n y a8)) p = some (.lst (P8 n y a8)) := upd_same
    have b4 := b3.upd (o := .lst (P8 n y a8)) npb
    have o4 : Off b H (upd H3 p (.lst (P8 n y a8))) := o1.trans (Same.off (s2.trans (s3.trans s4)))
    have t4 : ∀ v ∈ P8 n y a8, Th K (upd H3 p (.lst (P8 n y a8))) v := fun v hv => (t3 v hv).same s4
    show tSeq _ _ _ _ (upd H3 p (.lst (P8 n y a8)))
    generalize upd H3 p (.lst (P8 n y a8)) = H4 at *
    walk_at "s"
    walk_at "1"
    refine take_of b4 (by omega) (by decide) (by decide) fun d H5 d0 d1 o5 b5 => ?_
    have hp5 := o5 _ _ npb hp4
    have t5 : ∀ v ∈ P8 n y a8, Th K H5 v := fun v hv => (t4 v hv).offb b4.three o5
    obtain ⟨v8, hv8, mv8⟩ := at_some (xs := P8 n y a8) d0 d1
    refine uIx_lst hp5 hv8 ?_
    walk_at "1"
    refine ⟨by decide, fun mm hmm => ⟨by decide, fun l hl => ?_⟩⟩
    have s6 : Same H5 (upd H5 mm (.lst [.int 3])) := same_new hmm
    have g6 : upd H5 mm (.lst [.int 3]) mm = some (.lst [.int 3]) := upd_same
    generalize upd H5 mm (.lst [.int 3]) = H6 at *
    have nlm : l ≠ mm := by rintro rfl; rw [g6] at hl; cases hl
    have s7 : Same H6 (upd H6 l (.lst [v8, .ref mm])) := same_new hl
    have g7 : upd H6 l (.lst [v8, .ref mm]) l = some (.lst [v8, .ref mm]) := upd_same
    show tSeq _ _ _ _ (upd H6 l (.lst [v8, .ref mm]))
    generalize upd H6 l (.lst [v8, .ref mm]) = H7 at *
    have gm7 := s7 _ _ g6
    walk_at "s"
    walk_at "1"
    refine ⟨_, .inl ⟨.inl (.inl g7), fun tp htp => ?_⟩⟩
    have s8 : Same H7 (upd H7 tp (.tup [v8, .ref mm])) := same_new htp
    have g8 : upd H7 tp (.tup [v8, .ref mm]) tp = some (.tup [v8, .ref mm]) := upd_same
    generalize upd H7 tp (.tup [v8, .ref mm]) = H8 at *
    have gm8 := s8 _ _ gm7
    have ntm : tp ≠ mm := by rintro rfl; rw [g8] at gm8; cases gm8
    simp only [tDisp, tPairs]
    walk_at "1"
    refine fun d1 hd1 => ⟨upd_same, [(.inr "k", .ref l)], rfl, Nat.le_of_ble_eq_true rfl, ?_⟩
    rw [show mergeK [] [((.inr "k" : Key), V.ref l)] = [(.inr "k", .ref l)] from rfl]
    have s9 : Same H8 (upd (upd H8 d1 (.dK [])) d1 (.dK [(.inr "k", .ref l)])) := same_upd2 hd1
    have g9 : upd (upd H8 d1 (.dK [])) d1 (.dK [(.inr "k", .ref l)]) d1 = some (.dK [(.inr "k", .ref l)]) := upd_same
    generalize upd (upd H8 d1 (.dK [])) d1 (.dK [(.inr "k", .ref l)]) = H9 at *
    have gm9 := s9 _ _ gm8
    refine fun d2 hd2 => ⟨upd_same, [(.inl 4, .str "x"), (.inr "k", .ref l)], rfl, Nat.le_of_ble_eq_true rfl, ?_⟩
    rw [show mergeK [] [((.inl 4 : Key), V.str "x"), (.inr "k", V.ref l)] = [(.inl 4, .str "x"), (.inr "k", .ref l)] from rfl]
    have s10 : Same H9 (upd (upd H9 d2 (.dK [])) d2 (.dK [(.inl 4, .str "x"), (.inr "k", .ref l)])) := same_upd2 hd2
    have g10 : upd (upd H9 d2 (.dK [])) d2 (.dK [(.inl 4, .str "x"), (.inr "k", .ref l)]) d2 = some (.dK [(.inl 4, .str "x"), (.inr "k", .ref l)]) := upd_same
    generalize upd (upd H9 d2 (.dK [])) d2 (.dK [(.inl 4, .str "x"), (.inr "k", .ref l)]) = H10 at *
    have gm10 := s10 _ _ gm9
    simp only [tMkX]
    walk_at "1"
    refine ⟨by decide, fun m2 hm2 => ⟨by decide, fun l2 hl2 => ?_⟩⟩
    have s11 : Same H10 (upd H10 m2 (.lst [.int 4])) := same_new hm2
    have g11 : upd H10 m2 (.lst [.int 4]) m2 = some (.lst [.int 4]) := upd_same
    generalize upd H10 m2 (.lst [.int 4]) = H11 at *
    have nlm2 : l2 ≠ m2 := by rintro rfl; rw [g11] at hl2; cases hl2
    have s12 : Same H11 (upd H11 l2 (.lst [.int n, .ref m2])) := same_new hl2
    have g12 : upd H11 l2 (.lst [.int n, .ref m2]) l2 = some (.lst [.int n, .ref m2]) := upd_same
    generalize upd H11 l2 (.lst [.int n, .ref m2]) = H12 at *
    have gm12 := s12 _ _ g11
    refine ⟨Nat.le_of_ble_eq_true rfl, (mk_fin (c := "InvalidPlace") (f := "value") (v := .ref l2) (Q := fun x H2 => 5 ≤ sizeLine ∧ ∀ p_1, H2 p_1 = none → uAdd (V.ref p) (V.ref p_1) (upd H2 p_1 (HO.lst [V.ref l, V.ref tp, V.ref d1, V.ref d2, x])) fun x H1 => sp__law_take K [V.ref b, V.int 13] H1 (fun y H2 => uIx K x y H2 Q) E) fun a9 H13 na9 s13 e9 => ⟨by decide, fun B hB => ?_⟩).2⟩
    have s14 : Same H13 (upd H13 B (.lst [.ref l, .ref tp, .ref d1, .ref d2, .ref a9])) := same_new hB
    have g14 : upd H13 B (.lst [.ref l, .ref tp, .ref d1, .ref d2, .ref a9]) B = some (.lst [.ref l, .ref tp, .ref d1, .ref d2, .ref a9]) := upd_same
    generalize upd H13 B (.lst [.ref l, .ref tp, .ref d1, .ref d2, .ref a9]) = H14 at *
    have s514 : Same H5 H14 := s6.trans (s7.trans (s8.trans (s9.trans (s10.trans (s11.trans (s12.trans (s13.trans s14)))))))
    refine ⟨p, B, _, _, rfl, rfl, s514 _ _ hp5, g14, Nat.le_of_ble_eq_true rfl, fun C hC => ?_⟩
    have s15 : Same H14 (upd H14 C (.lst (P8 n y a8 ++ [.ref l, .ref tp, .ref d1, .ref d2, .ref a9]))) := same_new hC
    have g15 : upd H14 C (.lst (P8 n y a8 ++ [.ref l, .ref tp, .ref d1, .ref d2, .ref a9])) C = some (.lst (P8 n y a8 ++ [.ref l, .ref tp, .ref d1, .ref d2, .ref a9])) := upd_same
    show sp__law_take K _ (upd H14 C (.lst (P8 n y a8 ++ [.ref l, .ref tp, .ref d1, .ref d2, .ref a9]))) _ _
    have b14 := b5.same s514
    have nCb := b14.ne hC
    generalize upd H14 C (.lst (P8 n y a8 ++ [.ref l, .ref tp, .ref d1, .ref d2, .ref a9])) = H15 at *
    have b15 := b14.same s15
    have s515 := s514.trans s15
    refine take_of b15 (by omega) (by decide) (by decide) fun k H16 k0 k1 o16 b16 => ?_
    obtain ⟨v, hv, mv⟩ := at_some (xs := P8 n y a8 ++ [.ref l, .ref tp, .ref d1, .ref d2, .ref a9]) k0 (by simpa [P8] using k1)
    refine uIx_lst (o16 _ _ nCb g15) hv (q v H16 (o4.trans (o5.trans ((Same.off s515).trans o16))) ?_)
    refine Th.offb b15.three o16 ?_
    have s1215 : Same H12 H15 := s13.trans (s14.trans s15)
    have s1015 : Same H10 H15 := s11.trans (s12.trans s1215)
    have s915 := s10.trans s1015
    have s815 := s9.trans s915
    have s715 := s8.trans s815
    have gm15 := s715 _ _ gm7
    have gl15 := s715 _ _ g7
    have nm : ∀ {c : Addr} {w : HO}, H15 c = some w → w ≠ .lst [.int 3] → c ≠ mm := fun e n z => n (Option.some.inj ((z ▸ e).symm.trans gm15))
    have nm2 : ∀ {c : Addr} {w : HO}, H15 c = some w → w ≠ .lst [.int 4] → c ≠ m2 := fun e n z => n (Option.some.inj ((z ▸ e).symm.trans (s1215 _ _ gm12)))
    have xo : ∀ {a C : Addr} {d : Option Addr} {i : Int}, exo a C d ≠ .lst [.int i] := fun z => by
      have z' : HO.ext _ = HO.lst _ := z
      cases z'
    have xd : ∀ {a : Addr} {fs : List (Str × V)} {i : Int}, exd a fs ≠ .lst [.int i] := fun z => by
      have z' : HO.ext _ = HO.lst _ := z
      cases z'
    rcases List.mem_append.mp mv with mv | mv
    · exact (t5 v mv).same s515
    simp only [List.mem_cons, List.not_mem_nil, or_false] at mv
    rcases mv with rfl | rfl | rfl | rfl | rfl
    · exact .inr (.inr (.inr ⟨mm, 3, .inl ⟨l, v8, rfl, gl15, nlm⟩, gm15⟩))
    · exact .inr (.inr (.inr ⟨mm, 3, .inr (.inl ⟨tp, v8, rfl, s815 _ _ g8, ntm⟩), gm15⟩))
    · exact .inr (.inr (.inr ⟨mm, 3, .inr (.inr (.inl ⟨d1, l, v8, _, rfl, s915 _ _ g9, .inl rfl, gl15, nm (s915 _ _ g9) (by simp), nlm⟩)), gm15⟩))
    · exact .inr (.inr (.inr ⟨mm, 3, .inr (.inr (.inl ⟨d2, l, v8, _, rfl, s1015 _ _ g10, .inr rfl, gl15, nm (s1015 _ _ g10) (by simp), nlm⟩)), gm15⟩))
    · have s1315 := s14.trans s15
      rcases e9 with ⟨e1, e2⟩ | ⟨d9, e1, e2⟩
      · cases e2
      · exact .inr (.inr (.inr ⟨m2, 4, .inr (.inr (.inr ⟨a9, d9, l2, _, rfl, s1315 _ _ e1, s1315 _ _ e2, s1215 _ _ g12, nm2 (s1315 _ _ e1) xo, nm2 (s1315 _ _ e2) xd, nlm2⟩)), s1215 _ _ gm12⟩))
end
end U
namespace U
open PySem PySem.Spec PyProof.Rows L2
/-! ### lists of truths, compared -/
theorem dp_bls {K : PySem.W.Frag} {H : Hp} {p : Addr} {xs : List Bool} (h : SqL K H p (xs.map V.bl)) : Dp K H (.ref p) (.list (xs.map PyData.bool)) := by
  refine .lst h ?_
  clear h
  induction xs with
  | nil => exact .nil
  | cons n r ih => exact .cons (.bl n) ih
theorem bls_eqv (as bs : List Bool) : PyData.eqv (.list (as.map PyData.bool)) (.list (bs.map PyData.bool)) = decide (as = bs) := by
  rw [PyData.eqv]
  induction as generalizing bs with
  | nil => cases bs <;> simp [PyData.eqvAll]
  | cons a r ih =>
    cases bs with
    | nil => simp [PyData.eqvAll]
    | cons b t =>
      simp only [List.map_cons, PyData.eqvAll, ih, PyData.eqv]
      rw [Bool.eq_iff_iff]
      simp
theorem bls_shaped (xs : List Bool) : SeqAt.shaped (.list (xs.map PyData.bool)) = true := by
  have h1 : PyData.canLayAll0 (xs.map PyData.bool) = true := by
    induction xs with
    | nil => rfl
    | cons a r ih => simp [PyData.canLayAll0, PyData.canLay0, ih]
  have h2 : PyData.depthAll (xs.map PyData.bool) = 0 := by
    clear h1
    induction xs with
    | nil => rfl
    | cons a r ih => simp [PyData.depthAll, PyData.depth, ih]
  unfold SeqAt.shaped
  rw [PyData.canLay0, h1, PyData.depth, h2]
  decide
theorem ne_bls {K : PySem.W.Frag} {H : Hp} {Q : VK} {p q : Addr} {xs ys : List Bool} (h : SqL K H p (xs.map V.bl)) (h' : SqL K H q (ys.map V.bl)) (r : Q (.bl (!decide (xs = ys))) H) : uNe K (.ref p) (.ref q) H Q :=
  ⟨_, _, dp_bls h, dp_bls h', bls_shaped _, bls_shaped _, by rw [bls_eqv]; exact r⟩
def kindsB (c : Str) : List Bool := excL.map fun y => decide (y = c)
theorem kindsV_eq (c : Str) : kindsV c excL = (kindsB c).map V.bl := by
  unfold kindsV kindsB
  rw [List.map_map]
  rfl
def dueB (i : Nat) : List Bool := (List.range 22).map fun j => decide ((i : Int) = (j : Nat))
theorem due_kinds : ∀ (i : Nat) (c : Str), excL[i]? = some c → kindsB c = dueB i := by
  have e : ∀ i : Fin 22, ∀ c, excL[i.val]? = some c → kindsB c = dueB i.val := by
    intro i c h
    have k : ∀ i : Fin 22, kindsB ((excL[i.val]?).getD "") = dueB i.val := by decide +kernel
    have := k i
    rw [h] at this
    exact this
  intro i c h
  have lt : i < 22 := (List.getElem?_eq_some_iff.mp h).1
  exact e ⟨i, lt⟩ c h
theorem len_ints {lo : Int} {n : Nat} : (intsL lo n).length = n := by unfold intsL; rw [List.length_map, List.length_range]
theorem ints_at {lo : Int} {n k : Nat} {x : V} (h : (intsL lo n)[k]? = some x) : x = .int (lo + (k : Nat)) := by
  unfold intsL at h
  rw [List.getElem?_map] at h
  obtain ⟨j, hj, rfl⟩ := Option.map_eq_some_iff.mp h
  have := (List.getElem?_eq_some_iff.mp hj).2
  rw [List.getElem_range] at this
  rw [this]
/-! ### loops over pairs -/
structure Pairs (J : It) (xs : List V) (G : Hp → Prop) : Prop where
  go : ∀ i H, G H → i < xs.length → J.go i H
  yld : ∀ i H v H', G H → J.yld i H v H' → i < xs.length → ∃ T x, v = .ref T ∧ (H T = none ∧ (H' = upd H T (.tup [.int (i : Nat), x]) ∧ xs[i]? = some x))
  stop : ∀ i H, G H → i = xs.length → J.stop i H
theorem pairs_L {K : PySem.W.Frag} {a : Addr} {xs : List V} : Pairs (Ite K a) xs fun H => SqL K H a xs where
  go := fun i H h lt => ⟨xs, xs[i], h, List.getElem?_eq_getElem lt⟩
  yld := fun i H v H' h ⟨T, x, e1, e2, e3, e4⟩ lt => ⟨T, x, e1, e2, e3, e4 xs h⟩
  stop := fun i H h e => ⟨xs, h, Nat.le_of_eq e.symm⟩
theorem for_pairs {J : It} {xs : List V} {G : Hp → Prop} (P : Pairs J xs G) {wi : TI} {g : TG} {tb : TS} {D : Ends} {σ : L2.St} {H : Hp} (hw : ∀ R : It → Hp → Prop, R J H → wi σ H R) (Pv : Nat → L2.St → Hp → Prop) (h0 : Pv 0 σ H) (hG : ∀ i τ H', Pv i τ H' → G H')
    (hs : ∀ i x τ H' T, xs[i]? = some x → Pv i τ H' → H' T = none → g (.ref T) τ (upd H' T (.tup [.int (i : Nat), x])) fun ρ H2 => tb (turnE D (Pv (i + 1))) ρ H2) (hd : ∀ τ H', Pv xs.length τ H' → D.nx τ H') : tFor wi g tb D σ H := by
  refine hw _ ?_
  refine ⟨fun i m τ H' => m = xs.length - i ∧ (i ≤ xs.length ∧ Pv i τ H'), ⟨_, rfl, Nat.zero_le _, h0⟩, ?_⟩
  rintro i m τ H' ⟨rfl, hi, p⟩
  have q := hG i τ H' p
  by_cases lt : i < xs.length
  · refine .inr ⟨P.go i H' q lt, Pv (i + 1), fun σ' H2 p' => ⟨xs.length - (i + 1), by omega, rfl, lt, p'⟩, fun v H2 y => ?_⟩
    obtain ⟨T, x, rfl, nT, rfl, hx⟩ := P.yld i H' v H2 q y lt
    exact hs i x τ H' T hx p nT
  · have e : i = xs.length := Nat.le_antisymm hi (Nat.le_of_not_lt lt)
    exact .inl ⟨P.stop i H' q e, hd τ H' (e ▸ p)⟩
theorem tFor_enumL {K : PySem.W.Frag} {ta : TA} {g : TG} {tb : TS} {D : Ends} {σ : L2.St} {H : Hp} (h : ta σ H fun vs H1 => ∃ a xs, vs = [.ref a] ∧ SqL K H1 a xs ∧ tFor (fun _ H' R => R (Ite K a) H') g tb D σ H1) : tFor (iEnumU K ta) g tb D σ H := .inl h
theorem tFor_zipL {K : PySem.W.Frag} {ta : TA} {g : TG} {tb : TS} {D : Ends} {σ : L2.St} {H : Hp} (h : ta σ H fun vs H1 => ∃ a b xs ys, vs = [.ref a, .ref b] ∧ SqL K H1 a xs ∧ SqL K H1 b ys ∧ tFor (fun _ H' R => R (Itz K a b) H') g tb D σ H1) : tFor (iZipU K ta) g tb D σ H := .inl h
theorem for_zipped {J : It} {xs ys : List V} {G : Hp → Prop} (Z : Zipped J xs ys G) {wi : TI} {g : TG} {tb : TS} {D : Ends} {σ : L2.St} {H : Hp} (hw : ∀ R : It → Hp → Prop, R J H → wi σ H R) (Pv : Nat → L2.St → Hp → Prop) (h0 : Pv 0 σ H) (hG : ∀ i τ H', Pv i τ H' → G H')
    (hs : ∀ i x y τ H' T, xs[i]? = some x → ys[i]? = some y → Pv i τ H' → H' T = none → g (.ref T) τ (upd H' T (.tup [x, y])) fun ρ H2 => tb (turnE D (Pv (i + 1))) ρ H2) (hd : ∀ τ H', Pv (min xs.length ys.length) τ H' → D.nx τ H') : tFor wi g tb D σ H := by
  refine hw _ ?_
  refine ⟨fun i m τ H' => m = min xs.length ys.length - i ∧ (i ≤ min xs.length ys.length ∧ Pv i τ H'), ⟨_, rfl, Nat.zero_le _, h0⟩, ?_⟩
  rintro i m τ H' ⟨rfl, hi, p⟩
  have q := hG i τ H' p
  by_cases lt : i < min xs.length ys.length
  · refine .inr ⟨Z.go i H' q (by omega) (by omega), Pv (i + 1), fun σ' H2 p' => ⟨min xs.length ys.length - (i + 1), by omega, rfl, lt, p'⟩, fun v H2 y => ?_⟩
    obtain ⟨T, x, w, rfl, nT, rfl, e1, e2⟩ := Z.yld i H' v H2 q y
    exact hs i x w τ H' T e1 e2 p nT
  · have e : i = min xs.length ys.length := by omega
    exact .inl ⟨Z.stop i H' q (by omega) (by omega) (by omega), hd τ H' (e ▸ p)⟩
theorem last_at {xs : List V} {v : V} (h : xs.length = 18) (e : xs[17]? = some v) : atI xs (-1) = some v := by
  unfold atI ixN
  rw [h, if_neg (by decide), if_pos (by decide)]
  exact e
theorem nw_fin {K : PySem.W.Frag} {H : Hp} {v u : V} {a : Addr} {R : Hp → Prop} (ha : H a = none) (q : ∀ H', Same H H' → Exn H' a (He.ga K "NoWay") [("goal", u), ("start", v)] → R H') : sp_NoWay_init K [.ref a, v, u] (upd H a (exo a (He.ga K "NoWay") none)) (fun w H2 => w = .non ∧ R H2) E0 :=
  ⟨a, v, u, rfl, upd_same, fun dx hd ne => ⟨rfl, (fun z => q _ z.1 z.2) (exn_new2 (C := He.ga K "NoWay") ha hd ne)⟩⟩
theorem pair_in {K : PySem.W.Frag} {T : Addr} {x y : V} {i j : Nat} {σ : L2.St} {H : Hp} {Q : L2.St → Hp → Prop} (h : H T = some (.tup [x, y])) (q : Q ((σ.set i (some x)).set j (some y)) H) : gTup K 2 (gCons (gName i) (gCons (gName j) gNil)) (.ref T) σ H Q :=
  ⟨T, _, rfl, .inl (.inl h), rfl, x, _, rfl, y, _, rfl, rfl, q⟩
def sp__law_right (K : PySem.W.Frag) : Sp := sp1 fun x H Q _ => Th K H x ∧ ∀ H', Same H H' → Q (.bl true) H'
def t__law_right (K : PySem.W.Frag) (E : XK) : TS := (tSeq (tAsg (tFn (sp__law_made K) E (tCons (tVar 0) tNil)) (gName 1)) (tSeq (tFor (iEnumU K (tCons (tVar 1) tNil)) (gTup K 2 (gCons (gName 2) (gCons (gName 3) gNil))) (tSeq (tAsg (tLc (iRng1 (tCons (tCB (uLen K) (tCons (tVar 1) tNil)) tNil)) (gName 7) tYes (tOp (uEq K) (tVar 2) (tVar 7)) [7]) (gName 4)) (tIfS (tOr (tTest (tOp (uNe K) (tFn (sp__law_kinds K) E (tCons (tVar 3) tNil)) (tVar 4))) (tOr (tNot (tB (tCB (uIsiE K) (tCons (tVar 3) (tCons (tC (.ref (He.ga K "CratesError"))) tNil))))) (tNot (tB (tCB (uIsiE K) (tCons (tVar 3) (tCons (tC (.ty "ValueError")) tNil))))))) (tRet (tC (.bl false))) tNext))) (tSeq (tAsg (tSl (uSl K) (tVar 1) tNoPart (tPart (tC (.int 18)))) (gName 5)) (tSeq (tFor (iZipU K (tCons (tVar 5) (tCons (tFn (sp__law_named K) E (tCons (tVar 0) tNil)) tNil))) (gTup K 2 (gCons (gName 3) (gCons (gName 6) gNil))) (tSeq (tIfS (tOr (tNot (tB (tFn (sp__law_alike K) E (tCons (tFn (sp__law_field K) E (tCons (tVar 3) tNil)) (tCons (tVar 0) tNil))))) (tNot (tB (tFn (sp__law_alike K) E (tCons (tFn (sp__law_field K) E (tCons (tVar 6) tNil)) (tCons (tVar 0) tNil)))))) (tRet (tC (.bl false))) tNext) (tIfS (tTest (tOp (uNe K) (tFn (sp__law_kinds K) E (tCons (tVar 3) tNil)) (tFn (sp__law_kinds K) E (tCons (tVar 6) tNil)))) (tRet (tC (.bl false))) tNext))) (tSeq (tIfS (tTest (tOp (uNe K) (tLst (tCons (tXfE K "goal" (tOp (uIx K) (tVar 5) (tUn (rU fun i => .int (-i)) (tC (.int 1))))) (tCons (tXfE K "goal" (tOp (uIx K) (tFn (sp__law_named K) E (tCons (tVar 0) tNil)) (tUn (rU fun i => .int (-i)) (tC (.int 1))))) tNil))) (tLst (tCons (tC (.int 5)) (tCons (tC (.int 5)) tNil))))) (tRet (tC (.bl false))) tNext) (tRet (tAndV (tFn (sp__law_alike K) E (tCons (tXfE K "goal" (tMkX K "NoWay" (sp_NoWay_init K) (tCons (tC (.int 5)) (tCons (tVar 0) tNil)))) (tCons (tVar 0) tNil))) (tOp (uEq K) (tXfE K "start" (tMkXK K "NoWay" 2 (sp_NoWay_init K) [1, 0] (tCons (tVar 0) (tCons (tC (.int 5)) tNil)))) (tC (.int 5))))))))))
section
variable {K : PySem.W.Frag} (F : KF K) (G : XG K) {vs : List V} {H : Hp} {Q : VK} {E : XK}
local macro_rules | `(tactic| walk_at "w") => `(tactic| try simp only [turnE, lcT, Snoc, tRet, tRetN, tAndV, tOrV, tNotV, tCB, tCons, tVar, tNil, tC, tOp, tSeq, tAsg, gName, gSub, tIfS, tDrop, tFn, tTup, tLst, tNext, tB, tTest, tNot, tAnd, tOr, tIf, tChain, tUn, rU, tFld, tPart, tNoPart, L2.tSl, tBM, tPar, tPar3, tTruth, tDNewK,
  L2.start, List.map_cons, List.map_nil, List.length_cons, List.length_nil, List.replicate_succ, List.replicate_zero, List.append_nil, List.nil_append, List.cons_append, List.singleton_append, Nat.sub_self, Nat.zero_add, Nat.reduceAdd, Nat.reduceSub,
  List.getElem?_cons_zero, List.getElem?_cons_succ, List.set_cons_zero, List.set_cons_succ, Option.some.injEq, exists_eq_left, exists_eq_left', V.int.injEq, V.bl.injEq, V.str.injEq, V.ref.injEq,
  uAdd_int, uAdd_str, uSub_int, uMul_int, uMul_str, uDiv_int, uMod_int, uPow_int, uLt_int, uLe_int, uGt_int, uGe_int, uIs_non, uNis_non, uIs_bl, uNis_bl, sp1, sp2, sp3, sp4, uEq_int, uEq_str, uNe_int, uNe_str, uSl_str, uLen_str, decide_eq_true_eq])
local macro_rules | `(tactic| walk_at "1") => `(tactic| try simp only [turnE, lcT, Snoc, tRet, tRetN, tAndV, tOrV, tNotV, tCB, tCons, tVar, tNil, tC, tOp, tAsg, gName, gSub, tIfS, tDrop, tFn, tTup, tLst, tNext, tB, tTest, tNot, tAnd, tOr, tIf, tChain, tUn, rU, tFld, tPart, tNoPart, L2.tSl, tBM, tPar, tPar3, tTruth, tDNewK,
  L2.start, List.map_cons, List.map_nil, List.length_cons, List.length_nil, List.replicate_succ, List.replicate_zero, List.append_nil, List.nil_append, List.cons_append, List.singleton_append, Nat.sub_self, Nat.zero_add, Nat.reduceAdd, Nat.reduceSub,
  List.getElem?_cons_zero, List.getElem?_cons_succ, List.set_cons_zero, List.set_cons_succ, Option.some.injEq, exists_eq_left, exists_eq_left', V.int.injEq, V.bl.injEq, V.str.injEq, V.ref.injEq,
  uAdd_int, uAdd_str, uSub_int, uMul_int, uMul_str, uDiv_int, uMod_int, uPow_int, uLt_int, uLe_int, uGt_int, uGe_int, uIs_non, uNis_non, uIs_bl, uNis_bl, sp1, sp2, sp3, sp4, uEq_int, uEq_str, uNe_int, uNe_str, uSl_str, uLen_str, decide_eq_true_eq])
local macro_rules | `(tactic| walk_at "s") => `(tactic| ((try dsimp only [turnE]); with_reducible refine seq_ ?_))

include G in
theorem isBase {a : Addr} {c : Str} {fs : List (Str × V)} (hc : c ∈ excL) (he : Exn H a (He.ga K c) fs) (q : Q (.bl true) H) : uIsiE K [.ref a, .ref (He.ga K "CratesError")] H Q := .inl ⟨_, _, .inr ⟨a, _, fs, rfl, rfl, G.c c hc, he⟩, G.b c hc, q⟩
include G in
theorem isVal {a : Addr} {c : Str} {fs : List (Str × V)} (hc : c ∈ excL) (he : Exn H a (He.ga K c) fs) (q : Q (.bl true) H) : uIsiE K [.ref a, .ty "ValueError"] H Q := ⟨_, _, .inr ⟨a, _, fs, rfl, rfl, G.c c hc, he⟩, G.ve c hc, q⟩
include F G in
theorem read__law_right (h : sp__law_right K vs H Q E) : t__law_right K E { nx := fun _ H' => Q .non H', rt := Q } (start ["_law_thing_here", "_law_built", "_law_at", "_law_e", "_law_due", "_law_some", "_law_twin", "_law_other"] vs) H := by
  match vs, h with
  | [v], ⟨th, q⟩ =>
    unfold t__law_right
    walk_at "s"
    walk_at "1"
    refine fun L as H1 s1 g1 al => ?_
    walk_at "s"
    refine tFor_enumL ?_
    walk_at "1"
    refine ⟨L, _, rfl, .inl (.inl g1), ?_⟩
    refine for_pairs (pairs_L (K := K) (a := L) (xs := as.map V.ref)) (fun R r => r)
      (fun i τ H' => ∃ o2 o3 o4 o7, τ = [some v, some (.ref L), o2, o3, o4, none, none, o7] ∧ Same H1 H') ⟨_, _, _, _, rfl, Same.refl _⟩ (fun i τ H' ⟨_, _, _, _, _, s⟩ => .inl (.inl (s _ _ g1))) ?_ ?_
    · rintro i x τ H2 T hx ⟨o2, o3, o4, o7, rfl, s2⟩ nT
      rw [List.getElem?_map] at hx
      obtain ⟨a, ha, rfl⟩ := Option.map_eq_some_iff.mp hx
      refine pair_in upd_same ?_
      have s3 : Same H1 (upd H2 T (.tup [.int (i : Nat), .ref a])) := s2.trans (same_new nT)
      generalize upd H2 T (.tup [.int (i : Nat), .ref a]) = H3 at *
      simp only [List.set_cons_zero, List.set_cons_succ]
      walk_at "s"
      refine tLc_rng1 (n := 22) (fun R r => ?_) (by decide) fun D hD => ?_
      · walk_at "1"
        refine len_at (s3 _ _ g1) ?_
        rw [List.length_map, al.1]
        exact r
      refine lc_grow plain_R (fun acc _ => acc = (List.range acc.length).map fun j => V.bl (decide ((i : Int) = (j : Nat)))) hD (by rw [len_ints]; decide) (fun _ _ => trivial) (fun _ _ => rfl) (fun acc l H H' _ _ z => z) ?_ ?_
      · intro k x acc H4 Q4 hx s4 hl r go
        have ex : x = .int (0 + (k : Nat)) := ints_at hx
        subst ex
        walk_at "1"
        refine go _ H4 (Same.refl _) ?_
        rw [List.length_append, List.length_singleton, List.range_succ, List.map_append, ← r, hl, Int.zero_add]
        rfl
      · intro acc H4 hl s4 hD4 r
        rw [len_ints] at hl
        rw [hl] at r
        have hc : ∃ c, excL[i]? = some c := ⟨_, List.getElem?_eq_getElem (by
          have := (List.getElem?_eq_some_iff.mp ha).1
          rw [al.1] at this
          exact this)⟩
        obtain ⟨c, hc⟩ := hc
        have he := (al.2 i a c ha hc).same (s3.trans s4)
        have mc := List.mem_of_getElem? hc
        simp only [gName, List.set_cons_zero, List.set_cons_succ]
        walk_at "1"
        refine ⟨a, c, _, rfl, mc, he, fun K1 H5 s5 n5 g5 => ?_⟩
        rw [kindsV_eq, due_kinds i c hc] at g5
        have gD : H5 D = some (.lst ((dueB i).map V.bl)) := by
          rw [s5 _ _ hD4, r]
          unfold dueB
          rw [List.map_map]
          rfl
        refine ne_bls (.inl (.inl g5)) (.inl (.inl gD)) ⟨_, rfl, ?_⟩
        rw [decide_eq_true rfl, if_neg (by decide)]
        refine isBase G mc (he.same s5) ⟨_, rfl, ?_⟩
        rw [if_neg (by decide)]
        refine isVal G mc (he.same s5) ⟨_, rfl, ?_⟩
        rw [if_neg (by decide)]
        exact ⟨_, _, _, _, rfl, s3.trans (s4.trans s5)⟩
    · rintro τ H2 ⟨o2, o3, o4, o7, rfl, s2⟩
      walk_at "s"
      walk_at "1"
      refine .inl ⟨L, _, rfl, .inl (.inl (s2 _ _ g1)), fun P hP => ?_⟩
      have len22 : as.length = 22 := al.1
      have ec : cutV (as.map V.ref) none (some 18) = (as.take 18).map V.ref := by
        unfold cutV
        rw [List.length_map, len22, List.map_take]
        rfl
      rw [ec]
      have s3 : Same H1 (upd H2 P (.lst ((as.take 18).map V.ref))) := s2.trans (same_new hP)
      have gP : upd H2 P (.lst ((as.take 18).map V.ref)) P = some (.lst ((as.take 18).map V.ref)) := upd_same
      generalize upd H2 P (.lst ((as.take 18).map V.ref)) = H3 at *
      walk_at "s"
      refine tFor_zipL ?_
      walk_at "1"
      refine fun N bs H4 s4 gN bl => ⟨P, N, _, _, rfl, .inl (.inl (s4 _ _ gP)), .inl (.inl gN), ?_⟩
      refine for_zipped (zipped_LL (K := K) (a := P) (b := N) (xs := (as.take 18).map V.ref) (ys := bs.map V.ref)) (fun R r => r)
        (fun i τ H' => ∃ o3 o4 o6, τ = [some v, some (.ref L), o2, o3, o4, some (.ref P), o6, o7] ∧ Same H4 H') ⟨_, _, _, rfl, Same.refl _⟩ (fun i τ H' ⟨_, _, _, _, s⟩ => ⟨.inl (.inl (s _ _ (s4 _ _ gP))), .inl (.inl (s _ _ gN))⟩) ?_ ?_
      · rintro i x y τ H5 T hx hy ⟨o3, o4, o6, rfl, s5⟩ nT
        rw [List.getElem?_map] at hx hy
        obtain ⟨a, ha, rfl⟩ := Option.map_eq_some_iff.mp hx
        obtain ⟨b, hb, rfl⟩ := Option.map_eq_some_iff.mp hy
        refine pair_in upd_same ?_
        have s6 : Same H4 (upd H5 T (.tup [.ref a, .ref b])) := s5.trans (same_new nT)
        generalize upd H5 T (.tup [.ref a, .ref b]) = H6 at *
        simp only [List.set_cons_zero, List.set_cons_succ]
        have lt : i < 18 := by
          have := (List.getElem?_eq_some_iff.mp hb).1
          rw [bl.1] at this
          exact this
        obtain ⟨c, hc⟩ : ∃ c, (excL.take 18)[i]? = some c := ⟨_, List.getElem?_eq_getElem (show i < (excL.take 18).length from lt)⟩
        have mc := List.mem_of_getElem? hc
        have hc2 : excL[i]? = some c := by rw [List.getElem?_take_of_lt lt] at hc; exact hc
        have ha2 : as[i]? = some a := by rw [List.getElem?_take_of_lt lt] at ha; exact ha
        have m2 := (fs_cases c mc).1
        have s16 : Same H1 H6 := s3.trans (s4.trans s6)
        have ea := (al.2 i a c ha2 hc2).same s16
        have eb := (bl.2 i b c hb hc).same s6
        have t6 := th.same (s1.trans s16)
        walk_at "s"
        walk_at "1"
        refine ⟨a, c, v, rfl, mc, ea, rfl, t6, fun H7 s7 => ⟨_, rfl, ?_⟩⟩
        rw [if_neg (by decide)]
        walk_at "1"
        refine ⟨b, c, v, rfl, mc, eb.same s7, rfl, t6.same s7, fun H8 s8 => ⟨_, rfl, ?_⟩⟩
        rw [if_neg (by decide)]
        walk_at "1"
        have s68 := s7.trans s8
        refine ⟨a, c, _, rfl, m2, ea.same s68, fun K1 H9 s9 n9 g9 => ⟨b, c, _, rfl, m2, eb.same (s68.trans s9), fun K2 H10 s10 n10 g10 => ?_⟩⟩
        rw [kindsV_eq] at g9 g10
        refine ne_bls (.inl (.inl (s10 _ _ g9))) (.inl (.inl g10)) ⟨_, rfl, ?_⟩
        rw [decide_eq_true rfl, if_neg (by decide)]
        exact ⟨_, _, _, rfl, s6.trans (s68.trans (s9.trans s10))⟩
      · rintro τ H5 ⟨o3, o4, o6, rfl, s5⟩
        walk_at "s"
        walk_at "1"
        have s15 : Same H1 H5 := s3.trans (s4.trans s5)
        have mw : ("NoWay" : Str) ∈ excL := by decide +kernel
        have fw := G.f _ mw
        have gw := G.v _ mw "goal" (by decide +kernel)
        have sw := G.v _ mw "start" (by decide +kernel)
        obtain ⟨aw, haw⟩ : ∃ aw, as[17]? = some aw := ⟨_, List.getElem?_eq_getElem (by rw [len22]; decide)⟩
        have ew := (al.2 17 aw "NoWay" haw (by decide +kernel)).same s15
        have law17 : ((as.take 18).map V.ref)[17]? = some (.ref aw) := by rw [List.getElem?_map, List.getElem?_take_of_lt (by decide), haw]; rfl
        simp only [tXfE]
        walk_at "1"
        refine uIx_lst (s5 _ _ (s4 _ _ gP)) (last_at (by rw [List.length_map, List.length_take, len22]; decide) law17) ⟨aw, _, _, .int 5, rfl, fw, gw, ew, rfl, ?_⟩
        walk_at "1"
        refine fun N2 cs H6 s6 gN2 cl => ?_
        obtain ⟨bw, hbw⟩ : ∃ bw, cs[17]? = some bw := ⟨_, List.getElem?_eq_getElem (by rw [cl.1]; decide)⟩
        have ew2 := cl.2 17 bw "NoWay" hbw (by decide +kernel)
        refine uIx_lst gN2 (last_at (by rw [List.length_map, cl.1]; decide) (by rw [List.getElem?_map, hbw]; rfl)) ⟨bw, _, _, .int 5, rfl, fw, gw, ew2, rfl, by decide, fun p1 n1 => ⟨by decide, fun p2 n2 => ?_⟩⟩
        have s7 : Same H6 (upd H6 p1 (.lst [.int 5, .int 5])) := same_new n1
        have g7 : upd H6 p1 (.lst [.int 5, .int 5]) p1 = some (.lst [.int 5, .int 5]) := upd_same
        generalize upd H6 p1 (.lst [.int 5, .int 5]) = H7 at *
        have s8 : Same H7 (upd H7 p2 (.lst [.int 5, .int 5])) := same_new n2
        have g8 : upd H7 p2 (.lst [.int 5, .int 5]) p2 = some (.lst [.int 5, .int 5]) := upd_same
        generalize upd H7 p2 (.lst [.int 5, .int 5]) = H8 at *
        refine ne_ints (ns := [5, 5]) (ms := [5, 5]) (.inl (.inl (s8 _ _ g7))) (.inl (.inl g8)) ⟨_, rfl, ?_⟩
        rw [decide_eq_true rfl, if_neg (by decide)]
        have s18 : Same H1 H8 := s15.trans (s6.trans (s7.trans s8))
        simp only [tMkX, tMkXK]
        walk_at "1"
        refine ⟨Nat.le_of_ble_eq_true rfl, fun a9 n9 => nw_fin n9 fun H9 s9 e9 => ?_⟩
        refine ⟨a9, _, _, v, rfl, fw, gw, e9, rfl, rfl, th.same (s1.trans (s18.trans s9)), fun H10 s10 => ⟨_, rfl, ?_⟩⟩
        rw [if_pos (by decide)]
        refine ⟨trivial, fun a11 n11 => ?_⟩
        refine nw_fin (v := .int 5) (u := v) n11 fun H12 s12 e12 => ?_
        refine ⟨a11, _, _, .int 5, rfl, fw, sw, e12, rfl, ?_⟩
        walk_at "1"
        rw [show decide True = true from rfl]
        exact q _ (s1.trans (s18.trans (s9.trans (s10.trans s12))))
end
end U
namespace U
open PySem PySem.Spec PyProof.Rows L2 TL
def outV : Nat → List V
  | 0 => [.str "base", .bl false]
  | 1 => [.str "base", .bl true]
  | _ => [.str "text", .str "2/4"]
def sp__law_raised (K : PySem.W.Frag) : Sp := sp1 fun x H Q _ => ∃ k : Nat, k < 3 ∧ x = .int (k : Nat) ∧ ∀ l H', Same H H' → H l = none → H' l = some (.lst (outV k)) → Q (.ref l) H'
def t__law_raised (K : PySem.W.Frag) (E : XK) : TS := (tSeq (tTry (fun cls d _ H => E cls d H) (fun W => (tIfS (tTest (tOp (uEq K) (tVar 0) (tC (.int 0)))) (tDrop (tMakeS (He.ga K "Yard") (sp_Yard_init K) W (tCons (tC (.str "beat")) tNil))) (tIfS (tTest (tOp (uEq K) (tVar 0) (tC (.int 1)))) (tDrop (tCmS (He.ga K "Yard") (sp_Yard_even K) W (tC (.ref (He.ga K "Yard"))) (tCons (tC (.int 0)) (tCons (tC (.int 1)) tNil)))) (tDrop (tCmS (He.ga K "Yard") (sp_Yard_read K) W (tC (.ref (He.ga K "Yard"))) (tCons (tC (.str "2/4")) tNil)))))) [⟨(fun cls => PySem.W.exmOne K cls (.ref (He.ga K "InvalidText"))), some 1, fun a cls d => (tRet (tLst (tCons (tC (.str "text")) (tCons (tXv K a cls d "value" (tVar 1)) tNil))))⟩, ⟨(fun cls => PySem.W.exmOne K cls (.ref (He.ga K "CratesError"))), some 1, fun a cls d => (tRet (tLst (tCons (tC (.str "base")) (tCons (tCB (rIsX K a cls d) (tCons (tVar 1) (tCons (tC (.ref (He.ga K "InvalidCount"))) tNil))) tNil))))⟩]) (tRet (tLst tNil)))
def t_law (K : PySem.W.Frag) (E : XK) : TS := (tSeq (tFor (iRng1 (tCons (tCB uMax2 (tCons (tC (.int 2)) (tCons (tCB uMin2 (tCons (tC (.int 6)) (tCons (tCB (uLen K) (tCons (tVar 0) tNil)) tNil))) tNil))) tNil)) (gName 1) (tIfS (tNot (tB (tFn (sp__law_right K) E (tCons (tFn (sp__law_thing K) E (tCons (tFn (sp__law_bag K) E (tCons (tFn (sp__law_cell K) E (tCons (tVar 0) (tCons (tVar 1) tNil))) tNil)) tNil)) tNil)))) (tRet (tC (.bl false))) tNext)) (tSeq (tAsg (tLc (iRng1 (tCons (tC (.int 3)) tNil)) (gName 3) tYes (tFn (sp__law_raised K) E0 (tCons (tVar 3) tNil)) [3]) (gName 2)) (tRet (tOp (uEq K) (tVar 2) (tLst (tCons (tLst (tCons (tC (.str "base")) (tCons (tC (.bl false)) tNil))) (tCons (tLst (tCons (tC (.str "base")) (tCons (tC (.bl true)) tNil))) (tCons (tLst (tCons (tC (.str "text")) (tCons (tC (.str "2/4")) tNil))) tNil))))))))
section
variable {K : PySem.W.Frag} (F : KF K) (C : XF K "CratesError" excN) {vs : List V} {H : Hp} {Q : VK} {E : XK}
local macro_rules | `(tactic| walk_at "w") => `(tactic| try simp only [turnE, lcT, Snoc, tRet, tRetN, tAndV, tOrV, tNotV, tCB, tCons, tVar, tNil, tC, tOp, tSeq, tAsg, gName, gSub, tIfS, tDrop, tFn, tTup, tLst, tNext, tB, tTest, tNot, tAnd, tOr, tIf, tChain, tUn, rU, tFld, tPart, tNoPart, L2.tSl, tBM, tPar, tPar3, tTruth, tDNewK,
  L2.start, List.map_cons, List.map_nil, List.length_cons, List.length_nil, List.replicate_succ, List.replicate_zero, List.append_nil, List.nil_append, List.cons_append, List.singleton_append, Nat.sub_self, Nat.zero_add, Nat.reduceAdd, Nat.reduceSub,
  List.getElem?_cons_zero, List.getElem?_cons_succ, List.set_cons_zero, List.set_cons_succ, Option.some.injEq, exists_eq_left, exists_eq_left', V.int.injEq, V.bl.injEq, V.str.injEq, V.ref.injEq,
  uAdd_int, uAdd_str, uSub_int, uMul_int, uMul_str, uDiv_int, uMod_int, uPow_int, uLt_int, uLe_int, uGt_int, uGe_int, uIs_non, uNis_non, uIs_bl, uNis_bl, sp1, sp2, sp3, sp4, uEq_int, uEq_str, uNe_int, uNe_str, uSl_str, uLen_str, decide_eq_true_eq])
local macro_rules | `(tactic| walk_at "1") => `(tactic| try simp only [turnE, lcT, Snoc, tRet, tRetN, tAndV, tOrV, tNotV, tCB, tCons, tVar, tNil, tC, tOp, tAsg, gName, gSub, tIfS, tDrop, tFn, tTup, tLst, tNext, tB, tTest, tNot, tAnd, tOr, tIf, tChain, tUn, rU, tFld, tPart, tNoPart, L2.tSl, tBM, tPar, tPar3, tTruth, tDNewK,
  L2.start, List.map_cons, List.map_nil, List.length_cons, List.length_nil, List.replicate_succ, List.replicate_zero, List.append_nil, List.nil_append, List.cons_append, List.singleton_append, Nat.sub_self, Nat.zero_add, Nat.reduceAdd, Nat.reduceSub,
  List.getElem?_cons_zero, List.getElem?_cons_succ, List.set_cons_zero, List.set_cons_succ, Option.some.injEq, exists_eq_left, exists_eq_left', V.int.injEq, V.bl.injEq, V.str.injEq, V.ref.injEq,
  uAdd_int, uAdd_str, uSub_int, uMul_int, uMul_str, uDiv_int, uMod_int, uPow_int, uLt_int, uLe_int, uGt_int, uGe_int, uIs_non, uNis_non, uIs_bl, uNis_bl, sp1, sp2, sp3, sp4, uEq_int, uEq_str, uNe_int, uNe_str, uSl_str, uLen_str, decide_eq_true_eq])
local macro_rules | `(tactic| walk_at "s") => `(tactic| ((try dsimp only [turnE]); with_reducible refine seq_ ?_))

include C in
theorem exm_n {x y : Str} (hx : x ∈ excN) (hy : y ∈ ("CratesError" : Str) :: excN) : PySem.W.exmOne K (.ref (He.ga K x)) (.ref (He.ga K y)) = some (decide (y = ("CratesError" : Str) ∨ y = x)) := C.m x hx y hy
include F C in
theorem read__law_raised (h : sp__law_raised K vs H Q E) : t__law_raised K E { nx := fun _ H' => Q .non H', rt := Q } (start ["_law_kind", "_law_e"] vs) H := by
  match vs, h with
  | [_], ⟨k, hk, rfl, q⟩ =>
    unfold t__law_raised
    walk_at "s"
    simp only [tTry, wCl, undone, named, unnamed, WE]
    walk_at "1"
    obtain rfl | rfl | rfl : k = 0 ∨ k = 1 ∨ k = 2 := by omega
    · rw [if_pos (by decide)]
      simp only [tMakeS]
      walk_at "1"
      refine fun y dy ny nd ne => ?_
      have s1 : Same H (upd (upd H dy (.own y)) y (.ins (He.ga K "Yard") dy [])) := fun b o e => by
        rw [upd_ne (ne_of_none e ny), upd_ne (ne_of_none e nd)]
        exact e
      have gy : upd (upd H dy (.own y)) y (.ins (He.ga K "Yard") dy []) y = some (.ins (He.ga K "Yard") dy []) := upd_same
      generalize upd (upd H dy (.own y)) y (.ins (He.ga K "Yard") dy []) = H1 at *
      refine ⟨y, dy, rfl, gy, .inr ⟨.inl ⟨.str, is_str _, by decide, by decide, rfl⟩, fun d H2 s2 nd2 => ?_⟩⟩
      have hd : upd H2 d (.xd [("value", .str "beat")]) d = some (.xd [("value", .str "beat")]) := upd_same
      have s3 : Same H2 (upd H2 d (.xd [("value", .str "beat")])) := same_new nd2
      generalize upd H2 d (.xd [("value", .str "beat")]) = H3 at *
      refine ⟨false, exm_n C (by decide +kernel) (by decide +kernel), fun z => (nomatch z), fun _ => ⟨true, exm_n C (by decide +kernel) (by decide +kernel), fun _ a na => ?_, fun z => (nomatch z)⟩⟩
      refine ⟨_, rfl, _, _, d, _, _, rfl, rfl, rfl, hd, C.c _ (by decide +kernel), C.i _ (by decide +kernel) "InvalidCount" (by decide +kernel), by decide, fun p hp => ?_⟩
      exact q p _ (s1.trans (s2.trans (s3.trans (same_new hp)))) ((s1.trans (s2.trans s3)).free hp) upd_same
    · rw [if_neg (by decide), if_pos (by decide)]
      simp only [tCmS]
      walk_at "1"
      refine ⟨trivial, .inr ⟨.int, is_int _, rfl, fun d H2 s2 nd2 => ?_⟩⟩
      have hd : upd H2 d (.xd [("value", .int 0)]) d = some (.xd [("value", .int 0)]) := upd_same
      have s3 : Same H2 (upd H2 d (.xd [("value", .int 0)])) := same_new nd2
      generalize upd H2 d (.xd [("value", .int 0)]) = H3 at *
      refine ⟨false, exm_n C (by decide +kernel) (by decide +kernel), fun z => (nomatch z), fun _ => ⟨true, exm_n C (by decide +kernel) (by decide +kernel), fun _ a na => ?_, fun z => (nomatch z)⟩⟩
      refine ⟨_, rfl, _, _, d, _, _, rfl, rfl, rfl, hd, C.c _ (by decide +kernel), C.i _ (by decide +kernel) "InvalidCount" (by decide +kernel), by decide, fun p hp => ?_⟩
      exact q p _ (s2.trans (s3.trans (same_new hp))) ((s2.trans s3).free hp) upd_same
    · rw [if_neg (by decide), if_neg (by decide)]
      simp only [tCmS]
      walk_at "1"
      have bad : isYT (.str "2/4") = false := by decide +kernel
      have okT : textOk (tl "2/4") = false := by decide +kernel
      refine ⟨trivial, .str, rfl, is_str _, fun t e => ?_, fun t e ok => ?_, fun _ d H2 s2 nd2 => ?_⟩
      · cases e
        have k : (tl "2/4").length ≤ 100000 ∧ mx 0 (tl "2/4") ≤ 600 ∧ ∀ c ∈ tl "2/4", c < 0x110000 := by decide +kernel
        exact ⟨k.1, k.2.1, k.2.2⟩
      · cases e
        rw [okT] at ok
        cases ok
      · have hd : upd H2 d (.xd [("value", .str "2/4")]) d = some (.xd [("value", .str "2/4")]) := upd_same
        have s3 : Same H2 (upd H2 d (.xd [("value", .str "2/4")])) := same_new nd2
        generalize upd H2 d (.xd [("value", .str "2/4")]) = H3 at *
        refine ⟨true, exm_n C (by decide +kernel) (by decide +kernel), fun _ a na => ?_, fun z => (nomatch z)⟩
        refine ⟨_, rfl, rfl, _, d, _, _, rfl, rfl, C.f _ (by decide +kernel), C.v _ (by decide +kernel), hd, rfl, by decide, fun p hp => ?_⟩
        exact q p _ (s2.trans (s3.trans (same_new hp))) ((s2.trans s3).free hp) upd_same
theorem dp_outs {l1 l2 l3 l : Addr} (h1 : H l1 = some (.lst (outV 0))) (h2 : H l2 = some (.lst (outV 1))) (h3 : H l3 = some (.lst (outV 2))) (h : H l = some (.lst [.ref l1, .ref l2, .ref l3])) :
    Dp K H (.ref l) (.list [.list [.str "base", .bool false], .list [.str "base", .bool true], .list [.str "text", .str "2/4"]]) :=
  .lst (.inl (.inl h)) (.cons (.lst (.inl (.inl h1)) (.cons (.str _) (.cons (.bl _) .nil))) (.cons (.lst (.inl (.inl h2)) (.cons (.str _) (.cons (.bl _) .nil))) (.cons (.lst (.inl (.inl h3)) (.cons (.str _) (.cons (.str _) .nil))) .nil)))
theorem outs_shaped : SeqAt.shaped (.list [.list [.str "base", .bool false], .list [.str "base", .bool true], .list [.str "text", .str "2/4"]]) = true := by decide +kernel
theorem outs_eqv : PyData.eqv (.list [.list [.str "base", .bool false], .list [.str "base", .bool true], .list [.str "text", .str "2/4"]]) (.list [.list [.str "base", .bool false], .list [.str "base", .bool true], .list [.str "text", .str "2/4"]]) = true := by decide +kernel
include F in
theorem read_law (h : sp_law0 K vs H Q E) : t_law K E { nx := fun _ H' => Q .non H', rt := Q } (start ["_law_script", "_law_k", "_law_told", "_law_kind"] vs) H := by
  match vs, h with
  | [_], ⟨a, ns, rfl, hs, q⟩ =>
    unfold t_law
    walk_at "s"
    obtain ⟨N, hN6, hN⟩ := most_of (ns.map V.int).length 6 (by decide)
    refine for_rng1 (n := N) (fun R r => by
      walk_at "1"
      refine uLen_seq (.inl hs) ⟨_, _, rfl, ⟨_, _, rfl, ?_⟩⟩
      show R [.int _] H
      rw [hN]
      exact r) (by omega) (fun i σ H' => Same H H' ∧ ∃ x1, σ = [some (.ref a), x1, none, none]) ⟨Same.refl H, _, rfl⟩ ?_ ?_
    · rintro i σ H0 hi ⟨s0, x1, rfl⟩
      simp only [gName, List.set_cons_zero, List.set_cons_succ]
      walk_at "1"
      refine ⟨a, ns, i, rfl, rfl, Same.seq s0 hs, by omega, by omega, fun c H1 s1 => ?_⟩
      refine ⟨c, rfl, fun b H2 hb0 s2 hb => ?_⟩
      have s02 := s0.trans (s1.trans s2)
      have nb := (s0.trans s1).free hb0
      refine ⟨b, 0, rfl, hb, by decide, fun v H3 o3 th => ⟨th, fun H4 s4 => ⟨true, rfl, ?_⟩⟩⟩
      exact ⟨((Off.trans (Same.off s02) o3).same nb).trans s4, _, rfl⟩
    · rintro σ H0 ⟨s0, x1, rfl⟩
      walk_at "s"
      refine tLc_rng1 (n := 3) (fun R r => r) (by decide) fun D hD => ?_
      refine lc_fresh plain_R outV hD (by rw [len_ints]; decide) (fun _ _ => trivial) ?_ ?_
      · intro i x H2 Q2 hx s2 go
        have lt : i < 3 := by
          have := (List.getElem?_eq_some_iff.mp hx).1
          rw [len_ints] at this
          exact this
        have ex : x = .int (0 + (i : Nat)) := ints_at hx
        rw [Int.zero_add] at ex
        subst ex
        walk_at "1"
        exact ⟨i, lt, rfl, fun l H3 s3 n3 g3 => go l H3 n3 s3 g3⟩
      · intro H2 ls s2 hl gD at_ _ _ _
        rw [len_ints] at hl
        obtain ⟨l1, l2, l3, rfl⟩ : ∃ l1 l2 l3, ls = [l1, l2, l3] := by
          match ls, hl with
          | [l1, l2, l3], _ => exact ⟨l1, l2, l3, rfl⟩
        have e1 := at_ 0 l1 rfl
        have e2 := at_ 1 l2 rfl
        have e3 := at_ 2 l3 rfl
        simp only [gName, List.set_cons_zero, List.set_cons_succ]
        walk_at "1"
        refine ⟨by decide, fun p1 n1 => ⟨by decide, fun p2 n2 => ⟨by decide, fun p3 n3 => ⟨by decide, fun p4 n4 => ?_⟩⟩⟩⟩
        have s3 : Same H2 (upd H2 p1 (.lst (outV 0))) := same_new n1
        have g1 : upd H2 p1 (.lst (outV 0)) p1 = some (.lst (outV 0)) := upd_same
        show uEq K _ _ (upd (upd (upd (upd H2 p1 (.lst (outV 0))) p2 (.lst (outV 1))) p3 (.lst (outV 2))) p4 _) _
        change upd H2 p1 (.lst (outV 0)) p2 = none at n2
        change upd (upd H2 p1 (.lst (outV 0))) p2 (.lst (outV 1)) p3 = none at n3
        change upd (upd (upd H2 p1 (.lst (outV 0))) p2 (.lst (outV 1))) p3 (.lst (outV 2)) p4 = none at n4
        generalize upd H2 p1 (.lst (outV 0)) = H3 at *
        have s4 : Same H3 (upd H3 p2 (.lst (outV 1))) := same_new n2
        have g2 : upd H3 p2 (.lst (outV 1)) p2 = some (.lst (outV 1)) := upd_same
        generalize upd H3 p2 (.lst (outV 1)) = H4 at *
        have s5 : Same H4 (upd H4 p3 (.lst (outV 2))) := same_new n3
        have g3 : upd H4 p3 (.lst (outV 2)) p3 = some (.lst (outV 2)) := upd_same
        generalize upd H4 p3 (.lst (outV 2)) = H5 at *
        have s6 : Same H5 (upd H5 p4 (.lst [.ref p1, .ref p2, .ref p3])) := same_new n4
        have g4 : upd H5 p4 (.lst [.ref p1, .ref p2, .ref p3]) p4 = some (.lst [.ref p1, .ref p2, .ref p3]) := upd_same
        generalize upd H5 p4 (.lst [.ref p1, .ref p2, .ref p3]) = H6 at *
        have s26 := s3.trans (s4.trans (s5.trans s6))
        refine ⟨_, _, dp_outs (s26 _ _ e1) (s26 _ _ e2) (s26 _ _ e3) (s26 _ _ gD), dp_outs (s6 _ _ (s5 _ _ (s4 _ _ g1))) (s6 _ _ (s5 _ _ g2)) (s6 _ _ g3) g4, outs_shaped, outs_shaped, ?_⟩
        rw [outs_eqv]
        exact q _
end
end U
namespace U
open PySem PySem.Spec PyProof.Rows L2
abbrev n__law_bag : List Str := ["_law_cell_here"]
theorem sc__law_bag : FnScope n__law_bag ["_law_cell_here"] (defScope s__law_bag) := ⟨rfl, rfl, rfl, by decide +kernel, rfl, by decide +kernel, by decide +kernel⟩
abbrev n__law_cell : List Str := ["_law_script", "_law_k", "_law_spare"]
theorem sc__law_cell : FnScope n__law_cell ["_law_script", "_law_k"] (defScope s__law_cell) := ⟨rfl, rfl, rfl, by decide +kernel, rfl, by decide +kernel, by decide +kernel⟩
abbrev n_is_integer : List Str := ["value"]
theorem sc_is_integer : FnScope n_is_integer ["value"] (defScope s_is_integer) := ⟨rfl, rfl, rfl, by decide +kernel, rfl, by decide +kernel, by decide +kernel⟩
abbrev n_is_integer_within : List Str := ["value", "low", "high"]
theorem sc_is_integer_within : FnScope n_is_integer_within ["value", "low", "high"] (defScope s_is_integer_within) := ⟨rfl, rfl, rfl, by decide +kernel, rfl, by decide +kernel, by decide +kernel⟩
abbrev n_is_price : List Str := ["value"]
theorem sc_is_price : FnScope n_is_price ["value"] (defScope s_is_price) := ⟨rfl, rfl, rfl, by decide +kernel, rfl, by decide +kernel, by decide +kernel⟩
abbrev n__is_price_row : List Str := ["value", "price"]
theorem sc__is_price_row : FnScope n__is_price_row ["value"] (defScope s__is_price_row) := ⟨rfl, rfl, rfl, by decide +kernel, rfl, by decide +kernel, by decide +kernel⟩
abbrev n__are_rows : List Str := ["value", "row"]
theorem sc__are_rows : FnScope n__are_rows ["value"] (defScope s__are_rows) := ⟨rfl, rfl, rfl, by decide +kernel, rfl, by decide +kernel, by decide +kernel⟩
abbrev n_Yard_init : List Str := ["self", "rows", "row"]
theorem sc_Yard_init : FnScope n_Yard_init ["self", "rows"] (defScope s_Yard_init) := ⟨rfl, rfl, rfl, by decide +kernel, rfl, by decide +kernel, by decide +kernel⟩
abbrev n_Yard_even : List Str := ["cls", "count", "price"]
theorem sc_Yard_even : FnScope n_Yard_even ["cls", "count", "price"] (defScope s_Yard_even) := ⟨rfl, rfl, rfl, by decide +kernel, rfl, by decide +kernel, by decide +kernel⟩
abbrev n_is_numeral : List Str := ["word"]
theorem sc_is_numeral : FnScope n_is_numeral ["word"] (defScope s_is_numeral) := ⟨rfl, rfl, rfl, by decide +kernel, rfl, by decide +kernel, by decide +kernel⟩
abbrev n__is_price_text : List Str := ["word"]
theorem sc__is_price_text : FnScope n__is_price_text ["word"] (defScope s__is_price_text) := ⟨rfl, rfl, rfl, by decide +kernel, rfl, by decide +kernel, by decide +kernel⟩
abbrev n__is_line : List Str := ["line", "words", "word"]
theorem sc__is_line : FnScope n__is_line ["line"] (defScope s__is_line) := ⟨rfl, rfl, rfl, by decide +kernel, rfl, by decide +kernel, by decide +kernel⟩
abbrev n__is_yard_text : List Str := ["value", "lines", "line"]
theorem sc__is_yard_text : FnScope n__is_yard_text ["value"] (defScope s__is_yard_text) := ⟨rfl, rfl, rfl, by decide +kernel, rfl, by decide +kernel, by decide +kernel⟩
abbrev n__price_of : List Str := ["word"]
theorem sc__price_of : FnScope n__price_of ["word"] (defScope s__price_of) := ⟨rfl, rfl, rfl, by decide +kernel, rfl, by decide +kernel, by decide +kernel⟩
abbrev n_Yard_read : List Str := ["cls", "text", "line", "word"]
theorem sc_Yard_read : FnScope n_Yard_read ["cls", "text"] (defScope s_Yard_read) := ⟨rfl, rfl, rfl, by decide +kernel, rfl, by decide +kernel, by decide +kernel⟩
abbrev n__law_raised : List Str := ["_law_kind", "_law_e"]
theorem sc__law_raised : FnScope n__law_raised ["_law_kind"] (defScope s__law_raised) := ⟨rfl, rfl, rfl, by decide +kernel, rfl, by decide +kernel, by decide +kernel⟩
abbrev n__price_text : List Str := ["price"]
theorem sc__price_text : FnScope n__price_text ["price"] (defScope s__price_text) := ⟨rfl, rfl, rfl, by decide +kernel, rfl, by decide +kernel, by decide +kernel⟩
abbrev n_Yard_str : List Str := ["self", "row", "price"]
theorem sc_Yard_str : FnScope n_Yard_str ["self"] (defScope s_Yard_str) := ⟨rfl, rfl, rfl, by decide +kernel, rfl, by decide +kernel, by decide +kernel⟩
abbrev n__law_inner : List Str := ["_law_thing_here"]
theorem sc__law_inner : FnScope n__law_inner ["_law_thing_here"] (defScope s__law_inner) := ⟨rfl, rfl, rfl, by decide +kernel, rfl, by decide +kernel, by decide +kernel⟩
abbrev n__law_alike : List Str := ["_law_one", "_law_thing_here", "_law_inner_here", "_law_grown_now"]
theorem sc__law_alike : FnScope n__law_alike ["_law_one", "_law_thing_here"] (defScope s__law_alike) := ⟨rfl, rfl, rfl, by decide +kernel, rfl, by decide +kernel, by decide +kernel⟩
abbrev n__law_field : List Str := ["_law_e"]
theorem sc__law_field : FnScope n__law_field ["_law_e"] (defScope s__law_field) := ⟨rfl, rfl, rfl, by decide +kernel, rfl, by decide +kernel, by decide +kernel⟩
abbrev n__law_kinds : List Str := ["_law_e", "_law_found"]
theorem sc__law_kinds : FnScope n__law_kinds ["_law_e"] (defScope s__law_kinds) := ⟨rfl, rfl, rfl, by decide +kernel, rfl, by decide +kernel, by decide +kernel⟩
abbrev n__law_made : List Str := ["_law_thing_here", "_law_found"]
theorem sc__law_made : FnScope n__law_made ["_law_thing_here"] (defScope s__law_made) := ⟨rfl, rfl, rfl, by decide +kernel, rfl, by decide +kernel, by decide +kernel⟩
abbrev n__law_named : List Str := ["_law_thing_here", "_law_found"]
theorem sc__law_named : FnScope n__law_named ["_law_thing_here"] (defScope s__law_named) := ⟨rfl, rfl, rfl, by decide +kernel, rfl, by decide +kernel, by decide +kernel⟩
abbrev n__law_right : List Str := ["_law_thing_here", "_law_built", "_law_at", "_law_e", "_law_due", "_law_some", "_law_twin", "_law_other"]
theorem sc__law_right : FnScope n__law_right ["_law_thing_here"] (defScope s__law_right) := ⟨rfl, rfl, rfl, by decide +kernel, rfl, by decide +kernel, by decide +kernel⟩
abbrev n__law_take : List Str := ["_law_bag_here", "_law_limit", "_law_digit", "_law_mixed"]
theorem sc__law_take : FnScope n__law_take ["_law_bag_here", "_law_limit"] (defScope s__law_take) := ⟨rfl, rfl, rfl, by decide +kernel, rfl, by decide +kernel, by decide +kernel⟩
abbrev n__law_thing : List Str := ["_law_bag_here", "_law_amount", "_law_plain", "_law_inner_here", "_law_built"]
theorem sc__law_thing : FnScope n__law_thing ["_law_bag_here"] (defScope s__law_thing) := ⟨rfl, rfl, rfl, by decide +kernel, rfl, by decide +kernel, by decide +kernel⟩
abbrev n_law : List Str := ["_law_script", "_law_k", "_law_told", "_law_kind"]
theorem sc_law : FnScope n_law ["_law_script"] (defScope s_law) := ⟨rfl, rfl, rfl, by decide +kernel, rfl, by decide +kernel, by decide +kernel⟩
structure Ct (K : PySem.W.Frag) (w : World) (mg : Str → Option Value) : Prop where
  says : He5.SaysA fa fn K
  F : KF K
  ks : KS K
  xf : XF K "CratesError" excN
  cr_Yard_read : crB K (He.ga K "Yard") = true
  cm_Yard_read : cmB K (He.ga K "Yard") "read" = true
  cr_Yard_even : crB K (He.ga K "Yard") = true
  cm_Yard_even : cmB K (He.ga K "Yard") "even" = true
  g_CratesError : mg "CratesError" = some (.ref (He.ga K "CratesError"))
  g_InvalidArrangement : mg "InvalidArrangement" = some (.ref (He.ga K "InvalidArrangement"))
  g_InvalidCosts : mg "InvalidCosts" = some (.ref (He.ga K "InvalidCosts"))
  g_InvalidCount : mg "InvalidCount" = some (.ref (He.ga K "InvalidCount"))
  g_InvalidCrate : mg "InvalidCrate" = some (.ref (He.ga K "InvalidCrate"))
  g_InvalidLine : mg "InvalidLine" = some (.ref (He.ga K "InvalidLine"))
  g_InvalidLot : mg "InvalidLot" = some (.ref (He.ga K "InvalidLot"))
  g_InvalidMove : mg "InvalidMove" = some (.ref (He.ga K "InvalidMove"))
  g_InvalidPaper : mg "InvalidPaper" = some (.ref (He.ga K "InvalidPaper"))
  g_InvalidPattern : mg "InvalidPattern" = some (.ref (He.ga K "InvalidPattern"))
  g_InvalidPlace : mg "InvalidPlace" = some (.ref (He.ga K "InvalidPlace"))
  g_InvalidPrice : mg "InvalidPrice" = some (.ref (He.ga K "InvalidPrice"))
  g_InvalidRow : mg "InvalidRow" = some (.ref (He.ga K "InvalidRow"))
  g_InvalidText : mg "InvalidText" = some (.ref (He.ga K "InvalidText"))
  g_InvalidWay : mg "InvalidWay" = some (.ref (He.ga K "InvalidWay"))
  g_InvalidYard : mg "InvalidYard" = some (.ref (He.ga K "InvalidYard"))
  g_NoWay : mg "NoWay" = some (.ref (He.ga K "NoWay"))
  g_NoYard : mg "NoYard" = some (.ref (He.ga K "NoYard"))
  g_NotAllowed : mg "NotAllowed" = some (.ref (He.ga K "NotAllowed"))
  g_NothingToRedo : mg "NothingToRedo" = some (.ref (He.ga K "NothingToRedo"))
  g_NothingToUndo : mg "NothingToUndo" = some (.ref (He.ga K "NothingToUndo"))
  g_TooMany : mg "TooMany" = some (.ref (He.ga K "TooMany"))
  g_UnlikeYards : mg "UnlikeYards" = some (.ref (He.ga K "UnlikeYards"))
  g_WAYS : mg "WAYS" = some (.ref (He.ga K "WAYS"))
  g_Yard : mg "Yard" = some (.ref (He.ga K "Yard"))
  g__are_rows : mg "_are_rows" = some (.ref (He.ga K "_are_rows"))
  g__is_line : mg "_is_line" = some (.ref (He.ga K "_is_line"))
  g__is_price_row : mg "_is_price_row" = some (.ref (He.ga K "_is_price_row"))
  g__is_price_text : mg "_is_price_text" = some (.ref (He.ga K "_is_price_text"))
  g__is_yard_text : mg "_is_yard_text" = some (.ref (He.ga K "_is_yard_text"))
  g__law_alike : mg "_law_alike" = some (.ref (He.ga K "_law_alike"))
  g__law_bag : mg "_law_bag" = some (.ref (He.ga K "_law_bag"))
  g__law_cell : mg "_law_cell" = some (.ref (He.ga K "_law_cell"))
  g__law_field : mg "_law_field" = some (.ref (He.ga K "_law_field"))
  g__law_inner : mg "_law_inner" = some (.ref (He.ga K "_law_inner"))
  g__law_kinds : mg "_law_kinds" = some (.ref (He.ga K "_law_kinds"))
  g__law_made : mg "_law_made" = some (.ref (He.ga K "_law_made"))
  g__law_named : mg "_law_named" = some (.ref (He.ga K "_law_named"))
  g__law_raised : mg "_law_raised" = some (.ref (He.ga K "_law_raised"))
  g__law_right : mg "_law_right" = some (.ref (He.ga K "_law_right"))
  g__law_take : mg "_law_take" = some (.ref (He.ga K "_law_take"))
  g__law_thing : mg "_law_thing" = some (.ref (He.ga K "_law_thing"))
  g__price_of : mg "_price_of" = some (.ref (He.ga K "_price_of"))
  g__price_text : mg "_price_text" = some (.ref (He.ga K "_price_text"))
  g_is_integer : mg "is_integer" = some (.ref (He.ga K "is_integer"))
  g_is_integer_within : mg "is_integer_within" = some (.ref (He.ga K "is_integer_within"))
  g_is_numeral : mg "is_numeral" = some (.ref (He.ga K "is_numeral"))
  g_is_price : mg "is_price" = some (.ref (He.ga K "is_price"))
  g_law : mg "law" = some (.ref (He.ga K "law"))
  int_MOST_CRATES : ∃ t, mg "MOST_CRATES" = some (.int 60 t)
  str__BAR : ∃ t, mg "_BAR" = some (.str "-" t)
  str__DIGITS : ∃ t, mg "_DIGITS" = some (.str "0123456789" t)
  n_ValueError : mg "ValueError" = none
  n_all : mg "all" = none
  n_bool : mg "bool" = none
  n_dict : mg "dict" = none
  n_enumerate : mg "enumerate" = none
  n_int : mg "int" = none
  n_isinstance : mg "isinstance" = none
  n_len : mg "len" = none
  n_list : mg "list" = none
  n_max : mg "max" = none
  n_min : mg "min" = none
  n_range : mg "range" = none
  n_repr : mg "repr" = none
  n_str : mg "str" = none
  n_tuple : mg "tuple" = none
  n_zip : mg "zip" = none
  mk_Yard : Mk K (He.ga K "Yard") (He.ma K (He.ga K "Yard") "__init__")
  m_Yard_init : Meth K (He.ga K "Yard") "__init__" (He.ma K (He.ga K "Yard") "__init__")
  m_Yard_str : Meth K (He.ga K "Yard") "__str__" (He.ma K (He.ga K "Yard") "__str__")
  x_InvalidArrangement : ExcT K "InvalidArrangement" "value"
  x_InvalidCosts : ExcT K "InvalidCosts" "value"
  x_InvalidCount : ExcT K "InvalidCount" "value"
  x_InvalidCrate : ExcT K "InvalidCrate" "value"
  x_InvalidLine : ExcT K "InvalidLine" "value"
  x_InvalidLot : ExcT K "InvalidLot" "value"
  x_InvalidMove : ExcT K "InvalidMove" "value"
  x_InvalidPaper : ExcT K "InvalidPaper" "value"
  x_InvalidPattern : ExcT K "InvalidPattern" "value"
  x_InvalidPlace : ExcT K "InvalidPlace" "value"
  x_InvalidPrice : ExcT K "InvalidPrice" "value"
  x_InvalidRow : ExcT K "InvalidRow" "value"
  x_InvalidText : ExcT K "InvalidText" "value"
  x_InvalidWay : ExcT K "InvalidWay" "value"
  x_InvalidYard : ExcT K "InvalidYard" "value"
  x_NoWay : ExcT K "NoWay" "start"
  x_NotAllowed : ExcT K "NotAllowed" "index"
  x_TooMany : ExcT K "TooMany" "count"
  xg : XG K
  nw : PySem.W.findIn K (.ref (He.ga K "NoWay")) "goal" = some none
  e0_NoYard : PySem.W.excIn K (He.ga K "NoYard") veMro "ValueError.__new__" = true
  k0_NoYard : PySem.W.keepIn K (.ref (He.ga K "NoYard")) = true
  e0_NothingToRedo : PySem.W.excIn K (He.ga K "NothingToRedo") veMro "ValueError.__new__" = true
  k0_NothingToRedo : PySem.W.keepIn K (.ref (He.ga K "NothingToRedo")) = true
  e0_NothingToUndo : PySem.W.excIn K (He.ga K "NothingToUndo") veMro "ValueError.__new__" = true
  k0_NothingToUndo : PySem.W.keepIn K (.ref (He.ga K "NothingToUndo")) = true
  e0_UnlikeYards : PySem.W.excIn K (He.ga K "UnlikeYards") veMro "ValueError.__new__" = true
  k0_UnlikeYards : PySem.W.keepIn K (.ref (He.ga K "UnlikeYards")) = true
theorem ct_of {w : World} {K : PySem.W.Frag} {h : Heap} {mg : Str → Option Value} (X : K.In h) (G : h.Ns mainGlobals mg) (cc : He5.SaysA fa fn K ∧ tabsM ts K = keysM ts w) (e : ex K = true) : Ct K w mg := by
  have c := cc.1
  unfold ex at e
  simp only [Bool.and_eq_true, and_assoc] at e
  obtain ⟨e0, e_sys, e_xf, e_crYard_read, e_cmYard_read, e_crYard_even, e_cmYard_even, e_InvalidArrangement, e_InvalidCosts, e_InvalidCount, e_InvalidCrate, e_InvalidLine, e_InvalidLot, e_InvalidMove, e_InvalidPaper, e_InvalidPattern, e_InvalidPlace, e_InvalidPrice, e_InvalidRow, e_InvalidText, e_InvalidWay, e_InvalidYard, e_NoWay, e_NotAllowed, e_TooMany, e_xg, e_nw, e_b0NoYard, e_b1NoYard, e_b0NothingToRedo, e_b1NothingToRedo, e_b0NothingToUndo, e_b1NothingToUndo, e_b0UnlikeYards, e_b1UnlikeYards⟩ := e
  exact ⟨c, kfB_ok e0, kS_ok e_sys, xF_ok e_xf, e_crYard_read, e_cmYard_read, e_crYard_even, e_cmYard_even, He.glo_ok X G (c.fact 0 (f := .glo "CratesError") rfl), He.glo_ok X G (c.fact 1 (f := .glo "InvalidArrangement") rfl), He.glo_ok X G (c.fact 2 (f := .glo "InvalidCosts") rfl), He.glo_ok X G (c.fact 3 (f := .glo "InvalidCount") rfl), He.glo_ok X G (c.fact 4 (f := .glo "InvalidCrate") rfl), He.glo_ok X G (c.fact 5 (f := .glo "InvalidLine") rfl), He.glo_ok X G (c.fact 6 (f := .glo "InvalidLot") rfl), He.glo_ok X G (c.fact 7 (f := .glo "InvalidMove") rfl), He.glo_ok X G (c.fact 8 (f := .glo "InvalidPaper") rfl), He.glo_ok X G (c.fact 9 (f := .glo "InvalidPattern") rfl), He.glo_ok X G (c.fact 10 (f := .glo "InvalidPlace") rfl), He.glo_ok X G (c.fact 11 (f := .glo "InvalidPrice") rfl), He.glo_ok X G (c.fact 12 (f := .glo "InvalidRow") rfl), He.glo_ok X G (c.fact 13 (f := .glo "InvalidText") rfl), He.glo_ok X G (c.fact 14 (f := .glo "InvalidWay") rfl), He.glo_ok X G (c.fact 15 (f := .glo "InvalidYard") rfl), He.glo_ok X G (c.fact 16 (f := .glo "NoWay") rfl), He.glo_ok X G (c.fact 17 (f := .glo "NoYard") rfl), He.glo_ok X G (c.fact 18 (f := .glo "NotAllowed") rfl), He.glo_ok X G (c.fact 19 (f := .glo "NothingToRedo") rfl), He.glo_ok X G (c.fact 20 (f := .glo "NothingToUndo") rfl), He.glo_ok X G (c.fact 21 (f := .glo "TooMany") rfl), He.glo_ok X G (c.fact 22 (f := .glo "UnlikeYards") rfl), He.glo_ok X G (c.fact 23 (f := .glo "WAYS") rfl), He.glo_ok X G (c.fact 24 (f := .glo "Yard") rfl), He.glo_ok X G (c.fact 25 (f := .glo "_are_rows") rfl), He.glo_ok X G (c.fact 26 (f := .glo "_is_line") rfl), He.glo_ok X G (c.fact 27 (f := .glo "_is_price_row") rfl), He.glo_ok X G (c.fact 28 (f := .glo "_is_price_text") rfl), He.glo_ok X G (c.fact 29 (f := .glo "_is_yard_text") rfl), He.glo_ok X G (c.fact 30 (f := .glo "_law_alike") rfl), He.glo_ok X G (c.fact 31 (f := .glo "_law_bag") rfl), He.glo_ok X G (c.fact 32 (f := .glo "_law_cell") rfl), He.glo_ok X G (c.fact 33 (f := .glo "_law_field") rfl), He.glo_ok X G (c.fact 34 (f := .glo "_law_inner") rfl), He.glo_ok X G (c.fact 35 (f := .glo "_law_kinds") rfl), He.glo_ok X G (c.fact 36 (f := .glo "_law_made") rfl), He.glo_ok X G (c.fact 37 (f := .glo "_law_named") rfl), He.glo_ok X G (c.fact 38 (f := .glo "_law_raised") rfl), He.glo_ok X G (c.fact 39 (f := .glo "_law_right") rfl), He.glo_ok X G (c.fact 40 (f := .glo "_law_take") rfl), He.glo_ok X G (c.fact 41 (f := .glo "_law_thing") rfl), He.glo_ok X G (c.fact 42 (f := .glo "_price_of") rfl), He.glo_ok X G (c.fact 43 (f := .glo "_price_text") rfl), He.glo_ok X G (c.fact 44 (f := .glo "is_integer") rfl), He.glo_ok X G (c.fact 45 (f := .glo "is_integer_within") rfl), He.glo_ok X G (c.fact 46 (f := .glo "is_numeral") rfl), He.glo_ok X G (c.fact 47 (f := .glo "is_price") rfl), He.glo_ok X G (c.fact 48 (f := .glo "law") rfl), He.int_ok X G (c.fact 49 (f := .int "MOST_CRATES" 60) rfl), He.str_ok X G (c.fact 50 (f := .str "_BAR" "-") rfl), He.str_ok X G (c.fact 51 (f := .str "_DIGITS" "0123456789") rfl), He.free_ok X G (c.fact 52 (f := .free "ValueError") rfl), He.free_ok X G (c.fact 53 (f := .free "all") rfl), He.free_ok X G (c.fact 54 (f := .free "bool") rfl), He.free_ok X G (c.fact 55 (f := .free "dict") rfl), He.free_ok X G (c.fact 56 (f := .free "enumerate") rfl), He.free_ok X G (c.fact 57 (f := .free "int") rfl), He.free_ok X G (c.fact 58 (f := .free "isinstance") rfl), He.free_ok X G (c.fact 59 (f := .free "len") rfl), He.free_ok X G (c.fact 60 (f := .free "list") rfl), He.free_ok X G (c.fact 61 (f := .free "max") rfl), He.free_ok X G (c.fact 62 (f := .free "min") rfl), He.free_ok X G (c.fact 63 (f := .free "range") rfl), He.free_ok X G (c.fact 64 (f := .free "repr") rfl), He.free_ok X G (c.fact 65 (f := .free "str") rfl), He.free_ok X G (c.fact 66 (f := .free "tuple") rfl), He.free_ok X G (c.fact 67 (f := .free "zip") rfl), He.mkr_ok (c.fact 68 (f := .mkr "Yard") rfl), He.meth_ok (c.fact 69 (f := .meth "Yard" "__init__") rfl), He.meth_ok (c.fact 70 (f := .meth "Yard" "__str__") rfl), excB_ok e_InvalidArrangement, excB_ok e_InvalidCosts, excB_ok e_InvalidCount, excB_ok e_InvalidCrate, excB_ok e_InvalidLine, excB_ok e_InvalidLot, excB_ok e_InvalidMove, excB_ok e_InvalidPaper, excB_ok e_InvalidPattern, excB_ok e_InvalidPlace, excB_ok e_InvalidPrice, excB_ok e_InvalidRow, excB_ok e_InvalidText, excB_ok e_InvalidWay, excB_ok e_InvalidYard, excB_ok e_NoWay, excB_ok e_NotAllowed, excB_ok e_TooMany, xG_ok e_xg, of_decide_eq_true e_nw, e_b0NoYard, e_b1NoYard, e_b0NothingToRedo, e_b1NothingToRedo, e_b0NothingToUndo, e_b1NothingToUndo, e_b0UnlikeYards, e_b1UnlikeYards⟩
section
variable {P : Program} {w : World} {K : PySem.W.Frag} {mg : Str → Option Value} {base : Heap}
theorem sc_InvalidArrangement_init : FnScope ["self", "value"] ["self", "value"] (defScope s_InvalidArrangement_init) := ⟨rfl, rfl, rfl, by decide +kernel, rfl, by decide +kernel, by decide +kernel⟩
theorem sc_InvalidCosts_init : FnScope ["self", "value"] ["self", "value"] (defScope s_InvalidCosts_init) := ⟨rfl, rfl, rfl, by decide +kernel, rfl, by decide +kernel, by decide +kernel⟩
theorem sc_InvalidCount_init : FnScope ["self", "value"] ["self", "value"] (defScope s_InvalidCount_init) := ⟨rfl, rfl, rfl, by decide +kernel, rfl, by decide +kernel, by decide +kernel⟩
theorem okx_InvalidCount (C : Ct K w mg) : GoodX P w K mg base "InvalidCount" "value" := by
  obtain ⟨fd, F⟩ := C.says.def_ 9 (d := d_InvalidCount_init) rfl
  exact ⟨⟨fd, F.ok sc_InvalidCount_init (fun vs H Q E h => spExcI_len vs H Q E h) (fun cdv A outer s H vs Q E hr h => ⟨_, pss_one (ps_ost (pv 0) (pv 1)), read_excI C.x_InvalidCount h⟩), F.bindsN fun _ _ _ _ _ _ us hl => match us, hl with | [_, _], _ => rfl⟩, C.x_InvalidCount, C.g_InvalidCount⟩
theorem sc_InvalidCrate_init : FnScope ["self", "value"] ["self", "value"] (defScope s_InvalidCrate_init) := ⟨rfl, rfl, rfl, by decide +kernel, rfl, by decide +kernel, by decide +kernel⟩
theorem sc_InvalidLine_init : FnScope ["self", "value"] ["self", "value"] (defScope s_InvalidLine_init) := ⟨rfl, rfl, rfl, by decide +kernel, rfl, by decide +kernel, by decide +kernel⟩
theorem sc_InvalidLot_init : FnScope ["self", "value"] ["self", "value"] (defScope s_InvalidLot_init) := ⟨rfl, rfl, rfl, by decide +kernel, rfl, by decide +kernel, by decide +kernel⟩
theorem sc_InvalidMove_init : FnScope ["self", "value"] ["self", "value"] (defScope s_InvalidMove_init) := ⟨rfl, rfl, rfl, by decide +kernel, rfl, by decide +kernel, by decide +kernel⟩
theorem sc_InvalidPaper_init : FnScope ["self", "value"] ["self", "value"] (defScope s_InvalidPaper_init) := ⟨rfl, rfl, rfl, by decide +kernel, rfl, by decide +kernel, by decide +kernel⟩
theorem sc_InvalidPattern_init : FnScope ["self", "value"] ["self", "value"] (defScope s_InvalidPattern_init) := ⟨rfl, rfl, rfl, by decide +kernel, rfl, by decide +kernel, by decide +kernel⟩
theorem sc_InvalidPlace_init : FnScope ["self", "value"] ["self", "value"] (defScope s_InvalidPlace_init) := ⟨rfl, rfl, rfl, by decide +kernel, rfl, by decide +kernel, by decide +kernel⟩
theorem sc_InvalidPrice_init : FnScope ["self", "value"] ["self", "value"] (defScope s_InvalidPrice_init) := ⟨rfl, rfl, rfl, by decide +kernel, rfl, by decide +kernel, by decide +kernel⟩
theorem okx_InvalidPrice (C : Ct K w mg) : GoodX P w K mg base "InvalidPrice" "value" := by
  obtain ⟨fd, F⟩ := C.says.def_ 1 (d := d_InvalidPrice_init) rfl
  exact ⟨⟨fd, F.ok sc_InvalidPrice_init (fun vs H Q E h => spExcI_len vs H Q E h) (fun cdv A outer s H vs Q E hr h => ⟨_, pss_one (ps_ost (pv 0) (pv 1)), read_excI C.x_InvalidPrice h⟩), F.bindsN fun _ _ _ _ _ _ us hl => match us, hl with | [_, _], _ => rfl⟩, C.x_InvalidPrice, C.g_InvalidPrice⟩
theorem sc_InvalidRow_init : FnScope ["self", "value"] ["self", "value"] (defScope s_InvalidRow_init) := ⟨rfl, rfl, rfl, by decide +kernel, rfl, by decide +kernel, by decide +kernel⟩
theorem sc_InvalidText_init : FnScope ["self", "value"] ["self", "value"] (defScope s_InvalidText_init) := ⟨rfl, rfl, rfl, by decide +kernel, rfl, by decide +kernel, by decide +kernel⟩
theorem okx_InvalidText (C : Ct K w mg) : GoodX P w K mg base "InvalidText" "value" := by
  obtain ⟨fd, F⟩ := C.says.def_ 2 (d := d_InvalidText_init) rfl
  exact ⟨⟨fd, F.ok sc_InvalidText_init (fun vs H Q E h => spExcI_len vs H Q E h) (fun cdv A outer s H vs Q E hr h => ⟨_, pss_one (ps_ost (pv 0) (pv 1)), read_excI C.x_InvalidText h⟩), F.bindsN fun _ _ _ _ _ _ us hl => match us, hl with | [_, _], _ => rfl⟩, C.x_InvalidText, C.g_InvalidText⟩
theorem sc_InvalidWay_init : FnScope ["self", "value"] ["self", "value"] (defScope s_InvalidWay_init) := ⟨rfl, rfl, rfl, by decide +kernel, rfl, by decide +kernel, by decide +kernel⟩
theorem sc_InvalidYard_init : FnScope ["self", "value"] ["self", "value"] (defScope s_InvalidYard_init) := ⟨rfl, rfl, rfl, by decide +kernel, rfl, by decide +kernel, by decide +kernel⟩
theorem okx_InvalidYard (C : Ct K w mg) : GoodX P w K mg base "InvalidYard" "value" := by
  obtain ⟨fd, F⟩ := C.says.def_ 0 (d := d_InvalidYard_init) rfl
  exact ⟨⟨fd, F.ok sc_InvalidYard_init (fun vs H Q E h => spExcI_len vs H Q E h) (fun cdv A outer s H vs Q E hr h => ⟨_, pss_one (ps_ost (pv 0) (pv 1)), read_excI C.x_InvalidYard h⟩), F.bindsN fun _ _ _ _ _ _ us hl => match us, hl with | [_, _], _ => rfl⟩, C.x_InvalidYard, C.g_InvalidYard⟩
theorem sc_NoWay_init : FnScope ["self", "start", "goal"] ["self", "start", "goal"] (defScope s_NoWay_init) := ⟨rfl, rfl, rfl, by decide +kernel, rfl, by decide +kernel, by decide +kernel⟩
theorem sc_NotAllowed_init : FnScope ["self", "index"] ["self", "index"] (defScope s_NotAllowed_init) := ⟨rfl, rfl, rfl, by decide +kernel, rfl, by decide +kernel, by decide +kernel⟩
theorem sc_TooMany_init : FnScope ["self", "count"] ["self", "count"] (defScope s_TooMany_init) := ⟨rfl, rfl, rfl, by decide +kernel, rfl, by decide +kernel, by decide +kernel⟩
theorem okE_InvalidArrangement (C : Ct K w mg) : GoodE P w K mg base "InvalidArrangement" ["self", "value"] (spExcI K "InvalidArrangement" "value") := by
  obtain ⟨fd, F⟩ := C.says.def_ 3 (d := d_InvalidArrangement_init) rfl
  exact ⟨⟨fd, F.ok (k := 0) sc_InvalidArrangement_init (fun vs H Q E h => spExcI_len vs H Q E h) (fun cdv A outer s H vs Q E hr h => ⟨_, pss_one (ps_ost (pv 0) (pv 1)), read_excI C.x_InvalidArrangement h⟩), F.bindsN fun _ _ _ _ _ _ us hl => match us, hl with | [_, _], _ => rfl⟩, C.x_InvalidArrangement.oc, C.x_InvalidArrangement.ini, C.x_InvalidArrangement.fn, C.g_InvalidArrangement⟩
theorem okEK_InvalidArrangement_0 (C : Ct K w mg) : ∃ fd, FnOk P w K mg base (L2.CX P w) 1 (He.ma K (He.ga K "InvalidArrangement") "__init__") fd ["self", "value"] (spExcI K "InvalidArrangement" "value") ∧ KBn K fd ["self", "value"] 1 ["value"] (fun us ws => kwP [0] us ws) (fun vs zs => kwP [0] vs zs) := by
  obtain ⟨fd, F⟩ := C.says.def_ 3 (d := d_InvalidArrangement_init) rfl
  exact ⟨fd, F.ok (k := 0) sc_InvalidArrangement_init (fun vs H Q E h => spExcI_len vs H Q E h) (fun cdv A outer s H vs Q E hr h => ⟨_, pss_one (ps_ost (pv 0) (pv 1)), read_excI C.x_InvalidArrangement h⟩), kbN F 1 ["value"] (fun vs zs => kwP [0] vs zs) (fun h1 h2 => kwP_rel [0] h1 h2) fun _ _ _ _ _ _ us ws h1 h2 => match us, ws, h1, h2 with | [_], [_], _, _ => rfl⟩
theorem okE_InvalidCosts (C : Ct K w mg) : GoodE P w K mg base "InvalidCosts" ["self", "value"] (spExcI K "InvalidCosts" "value") := by
  obtain ⟨fd, F⟩ := C.says.def_ 13 (d := d_InvalidCosts_init) rfl
  exact ⟨⟨fd, F.ok (k := 0) sc_InvalidCosts_init (fun vs H Q E h => spExcI_len vs H Q E h) (fun cdv A outer s H vs Q E hr h => ⟨_, pss_one (ps_ost (pv 0) (pv 1)), read_excI C.x_InvalidCosts h⟩), F.bindsN fun _ _ _ _ _ _ us hl => match us, hl with | [_, _], _ => rfl⟩, C.x_InvalidCosts.oc, C.x_InvalidCosts.ini, C.x_InvalidCosts.fn, C.g_InvalidCosts⟩
theorem okEK_InvalidCosts_0 (C : Ct K w mg) : ∃ fd, FnOk P w K mg base (L2.CX P w) 1 (He.ma K (He.ga K "InvalidCosts") "__init__") fd ["self", "value"] (spExcI K "InvalidCosts" "value") ∧ KBn K fd ["self", "value"] 1 ["value"] (fun us ws => kwP [0] us ws) (fun vs zs => kwP [0] vs zs) := by
  obtain ⟨fd, F⟩ := C.says.def_ 13 (d := d_InvalidCosts_init) rfl
  exact ⟨fd, F.ok (k := 0) sc_InvalidCosts_init (fun vs H Q E h => spExcI_len vs H Q E h) (fun cdv A outer s H vs Q E hr h => ⟨_, pss_one (ps_ost (pv 0) (pv 1)), read_excI C.x_InvalidCosts h⟩), kbN F 1 ["value"] (fun vs zs => kwP [0] vs zs) (fun h1 h2 => kwP_rel [0] h1 h2) fun _ _ _ _ _ _ us ws h1 h2 => match us, ws, h1, h2 with | [_], [_], _, _ => rfl⟩
theorem okE_InvalidCount (C : Ct K w mg) : GoodE P w K mg base "InvalidCount" ["self", "value"] (spExcI K "InvalidCount" "value") := by
  obtain ⟨fd, F⟩ := C.says.def_ 9 (d := d_InvalidCount_init) rfl
  exact ⟨⟨fd, F.ok (k := 0) sc_InvalidCount_init (fun vs H Q E h => spExcI_len vs H Q E h) (fun cdv A outer s H vs Q E hr h => ⟨_, pss_one (ps_ost (pv 0) (pv 1)), read_excI C.x_InvalidCount h⟩), F.bindsN fun _ _ _ _ _ _ us hl => match us, hl with | [_, _], _ => rfl⟩, C.x_InvalidCount.oc, C.x_InvalidCount.ini, C.x_InvalidCount.fn, C.g_InvalidCount⟩
theorem okEK_InvalidCount_0 (C : Ct K w mg) : ∃ fd, FnOk P w K mg base (L2.CX P w) 1 (He.ma K (He.ga K "InvalidCount") "__init__") fd ["self", "value"] (spExcI K "InvalidCount" "value") ∧ KBn K fd ["self", "value"] 1 ["value"] (fun us ws => kwP [0] us ws) (fun vs zs => kwP [0] vs zs) := by
  obtain ⟨fd, F⟩ := C.says.def_ 9 (d := d_InvalidCount_init) rfl
  exact ⟨fd, F.ok (k := 0) sc_InvalidCount_init (fun vs H Q E h => spExcI_len vs H Q E h) (fun cdv A outer s H vs Q E hr h => ⟨_, pss_one (ps_ost (pv 0) (pv 1)), read_excI C.x_InvalidCount h⟩), kbN F 1 ["value"] (fun vs zs => kwP [0] vs zs) (fun h1 h2 => kwP_rel [0] h1 h2) fun _ _ _ _ _ _ us ws h1 h2 => match us, ws, h1, h2 with | [_], [_], _, _ => rfl⟩
theorem okE_InvalidCrate (C : Ct K w mg) : GoodE P w K mg base "InvalidCrate" ["self", "value"] (spExcI K "InvalidCrate" "value") := by
  obtain ⟨fd, F⟩ := C.says.def_ 6 (d := d_InvalidCrate_init) rfl
  exact ⟨⟨fd, F.ok (k := 0) sc_InvalidCrate_init (fun vs H Q E h => spExcI_len vs H Q E h) (fun cdv A outer s H vs Q E hr h => ⟨_, pss_one (ps_ost (pv 0) (pv 1)), read_excI C.x_InvalidCrate h⟩), F.bindsN fun _ _ _ _ _ _ us hl => match us, hl with | [_, _], _ => rfl⟩, C.x_InvalidCrate.oc, C.x_InvalidCrate.ini, C.x_InvalidCrate.fn, C.g_InvalidCrate⟩
theorem okEK_InvalidCrate_0 (C : Ct K w mg) : ∃ fd, FnOk P w K mg base (L2.CX P w) 1 (He.ma K (He.ga K "InvalidCrate") "__init__") fd ["self", "value"] (spExcI K "InvalidCrate" "value") ∧ KBn K fd ["self", "value"] 1 ["value"] (fun us ws => kwP [0] us ws) (fun vs zs => kwP [0] vs zs) := by
  obtain ⟨fd, F⟩ := C.says.def_ 6 (d := d_InvalidCrate_init) rfl
  exact ⟨fd, F.ok (k := 0) sc_InvalidCrate_init (fun vs H Q E h => spExcI_len vs H Q E h) (fun cdv A outer s H vs Q E hr h => ⟨_, pss_one (ps_ost (pv 0) (pv 1)), read_excI C.x_InvalidCrate h⟩), kbN F 1 ["value"] (fun vs zs => kwP [0] vs zs) (fun h1 h2 => kwP_rel [0] h1 h2) fun _ _ _ _ _ _ us ws h1 h2 => match us, ws, h1, h2 with | [_], [_], _, _ => rfl⟩
theorem okE_InvalidLine (C : Ct K w mg) : GoodE P w K mg base "InvalidLine" ["self", "value"] (spExcI K "InvalidLine" "value") := by
  obtain ⟨fd, F⟩ := C.says.def_ 14 (d := d_InvalidLine_init) rfl
  exact ⟨⟨fd, F.ok (k := 0) sc_InvalidLine_init (fun vs H Q E h => spExcI_len vs H Q E h) (fun cdv A outer s H vs Q E hr h => ⟨_, pss_one (ps_ost (pv 0) (pv 1)), read_excI C.x_InvalidLine h⟩), F.bindsN fun _ _ _ _ _ _ us hl => match us, hl with | [_, _], _ => rfl⟩, C.x_InvalidLine.oc, C.x_InvalidLine.ini, C.x_InvalidLine.fn, C.g_InvalidLine⟩
theorem okEK_InvalidLine_0 (C : Ct K w mg) : ∃ fd, FnOk P w K mg base (L2.CX P w) 1 (He.ma K (He.ga K "InvalidLine") "__init__") fd ["self", "value"] (spExcI K "InvalidLine" "value") ∧ KBn K fd ["self", "value"] 1 ["value"] (fun us ws => kwP [0] us ws) (fun vs zs => kwP [0] vs zs) := by
  obtain ⟨fd, F⟩ := C.says.def_ 14 (d := d_InvalidLine_init) rfl
  exact ⟨fd, F.ok (k := 0) sc_InvalidLine_init (fun vs H Q E h => spExcI_len vs H Q E h) (fun cdv A outer s H vs Q E hr h => ⟨_, pss_one (ps_ost (pv 0) (pv 1)), read_excI C.x_InvalidLine h⟩), kbN F 1 ["value"] (fun vs zs => kwP [0] vs zs) (fun h1 h2 => kwP_rel [0] h1 h2) fun _ _ _ _ _ _ us ws h1 h2 => match us, ws, h1, h2 with | [_], [_], _, _ => rfl⟩
theorem okE_InvalidLot (C : Ct K w mg) : GoodE P w K mg base "InvalidLot" ["self", "value"] (spExcI K "InvalidLot" "value") := by
  obtain ⟨fd, F⟩ := C.says.def_ 12 (d := d_InvalidLot_init) rfl
  exact ⟨⟨fd, F.ok (k := 0) sc_InvalidLot_init (fun vs H Q E h => spExcI_len vs H Q E h) (fun cdv A outer s H vs Q E hr h => ⟨_, pss_one (ps_ost (pv 0) (pv 1)), read_excI C.x_InvalidLot h⟩), F.bindsN fun _ _ _ _ _ _ us hl => match us, hl with | [_, _], _ => rfl⟩, C.x_InvalidLot.oc, C.x_InvalidLot.ini, C.x_InvalidLot.fn, C.g_InvalidLot⟩
theorem okEK_InvalidLot_0 (C : Ct K w mg) : ∃ fd, FnOk P w K mg base (L2.CX P w) 1 (He.ma K (He.ga K "InvalidLot") "__init__") fd ["self", "value"] (spExcI K "InvalidLot" "value") ∧ KBn K fd ["self", "value"] 1 ["value"] (fun us ws => kwP [0] us ws) (fun vs zs => kwP [0] vs zs) := by
  obtain ⟨fd, F⟩ := C.says.def_ 12 (d := d_InvalidLot_init) rfl
  exact ⟨fd, F.ok (k := 0) sc_InvalidLot_init (fun vs H Q E h => spExcI_len vs H Q E h) (fun cdv A outer s H vs Q E hr h => ⟨_, pss_one (ps_ost (pv 0) (pv 1)), read_excI C.x_InvalidLot h⟩), kbN F 1 ["value"] (fun vs zs => kwP [0] vs zs) (fun h1 h2 => kwP_rel [0] h1 h2) fun _ _ _ _ _ _ us ws h1 h2 => match us, ws, h1, h2 with | [_], [_], _, _ => rfl⟩
theorem okE_InvalidMove (C : Ct K w mg) : GoodE P w K mg base "InvalidMove" ["self", "value"] (spExcI K "InvalidMove" "value") := by
  obtain ⟨fd, F⟩ := C.says.def_ 7 (d := d_InvalidMove_init) rfl
  exact ⟨⟨fd, F.ok (k := 0) sc_InvalidMove_init (fun vs H Q E h => spExcI_len vs H Q E h) (fun cdv A outer s H vs Q E hr h => ⟨_, pss_one (ps_ost (pv 0) (pv 1)), read_excI C.x_InvalidMove h⟩), F.bindsN fun _ _ _ _ _ _ us hl => match us, hl with | [_, _], _ => rfl⟩, C.x_InvalidMove.oc, C.x_InvalidMove.ini, C.x_InvalidMove.fn, C.g_InvalidMove⟩
theorem okEK_InvalidMove_0 (C : Ct K w mg) : ∃ fd, FnOk P w K mg base (L2.CX P w) 1 (He.ma K (He.ga K "InvalidMove") "__init__") fd ["self", "value"] (spExcI K "InvalidMove" "value") ∧ KBn K fd ["self", "value"] 1 ["value"] (fun us ws => kwP [0] us ws) (fun vs zs => kwP [0] vs zs) := by
  obtain ⟨fd, F⟩ := C.says.def_ 7 (d := d_InvalidMove_init) rfl
  exact ⟨fd, F.ok (k := 0) sc_InvalidMove_init (fun vs H Q E h => spExcI_len vs H Q E h) (fun cdv A outer s H vs Q E hr h => ⟨_, pss_one (ps_ost (pv 0) (pv 1)), read_excI C.x_InvalidMove h⟩), kbN F 1 ["value"] (fun vs zs => kwP [0] vs zs) (fun h1 h2 => kwP_rel [0] h1 h2) fun _ _ _ _ _ _ us ws h1 h2 => match us, ws, h1, h2 with | [_], [_], _, _ => rfl⟩
theorem okE_InvalidPaper (C : Ct K w mg) : GoodE P w K mg base "InvalidPaper" ["self", "value"] (spExcI K "InvalidPaper" "value") := by
  obtain ⟨fd, F⟩ := C.says.def_ 11 (d := d_InvalidPaper_init) rfl
  exact ⟨⟨fd, F.ok (k := 0) sc_InvalidPaper_init (fun vs H Q E h => spExcI_len vs H Q E h) (fun cdv A outer s H vs Q E hr h => ⟨_, pss_one (ps_ost (pv 0) (pv 1)), read_excI C.x_InvalidPaper h⟩), F.bindsN fun _ _ _ _ _ _ us hl => match us, hl with | [_, _], _ => rfl⟩, C.x_InvalidPaper.oc, C.x_InvalidPaper.ini, C.x_InvalidPaper.fn, C.g_InvalidPaper⟩
theorem okEK_InvalidPaper_0 (C : Ct K w mg) : ∃ fd, FnOk P w K mg base (L2.CX P w) 1 (He.ma K (He.ga K "InvalidPaper") "__init__") fd ["self", "value"] (spExcI K "InvalidPaper" "value") ∧ KBn K fd ["self", "value"] 1 ["value"] (fun us ws => kwP [0] us ws) (fun vs zs => kwP [0] vs zs) := by
  obtain ⟨fd, F⟩ := C.says.def_ 11 (d := d_InvalidPaper_init) rfl
  exact ⟨fd, F.ok (k := 0) sc_InvalidPaper_init (fun vs H Q E h => spExcI_len vs H Q E h) (fun cdv A outer s H vs Q E hr h => ⟨_, pss_one (ps_ost (pv 0) (pv 1)), read_excI C.x_InvalidPaper h⟩), kbN F 1 ["value"] (fun vs zs => kwP [0] vs zs) (fun h1 h2 => kwP_rel [0] h1 h2) fun _ _ _ _ _ _ us ws h1 h2 => match us, ws, h1, h2 with | [_], [_], _, _ => rfl⟩
theorem okE_InvalidPattern (C : Ct K w mg) : GoodE P w K mg base "InvalidPattern" ["self", "value"] (spExcI K "InvalidPattern" "value") := by
  obtain ⟨fd, F⟩ := C.says.def_ 10 (d := d_InvalidPattern_init) rfl
  exact ⟨⟨fd, F.ok (k := 0) sc_InvalidPattern_init (fun vs H Q E h => spExcI_len vs H Q E h) (fun cdv A outer s H vs Q E hr h => ⟨_, pss_one (ps_ost (pv 0) (pv 1)), read_excI C.x_InvalidPattern h⟩), F.bindsN fun _ _ _ _ _ _ us hl => match us, hl with | [_, _], _ => rfl⟩, C.x_InvalidPattern.oc, C.x_InvalidPattern.ini, C.x_InvalidPattern.fn, C.g_InvalidPattern⟩
theorem okEK_InvalidPattern_0 (C : Ct K w mg) : ∃ fd, FnOk P w K mg base (L2.CX P w) 1 (He.ma K (He.ga K "InvalidPattern") "__init__") fd ["self", "value"] (spExcI K "InvalidPattern" "value") ∧ KBn K fd ["self", "value"] 1 ["value"] (fun us ws => kwP [0] us ws) (fun vs zs => kwP [0] vs zs) := by
  obtain ⟨fd, F⟩ := C.says.def_ 10 (d := d_InvalidPattern_init) rfl
  exact ⟨fd, F.ok (k := 0) sc_InvalidPattern_init (fun vs H Q E h => spExcI_len vs H Q E h) (fun cdv A outer s H vs Q E hr h => ⟨_, pss_one (ps_ost (pv 0) (pv 1)), read_excI C.x_InvalidPattern h⟩), kbN F 1 ["value"] (fun vs zs => kwP [0] vs zs) (fun h1 h2 => kwP_rel [0] h1 h2) fun _ _ _ _ _ _ us ws h1 h2 => match us, ws, h1, h2 with | [_], [_], _, _ => rfl⟩
theorem okE_InvalidPlace (C : Ct K w mg) : GoodE P w K mg base "InvalidPlace" ["self", "value"] (spExcI K "InvalidPlace" "value") := by
  obtain ⟨fd, F⟩ := C.says.def_ 4 (d := d_InvalidPlace_init) rfl
  exact ⟨⟨fd, F.ok (k := 0) sc_InvalidPlace_init (fun vs H Q E h => spExcI_len vs H Q E h) (fun cdv A outer s H vs Q E hr h => ⟨_, pss_one (ps_ost (pv 0) (pv 1)), read_excI C.x_InvalidPlace h⟩), F.bindsN fun _ _ _ _ _ _ us hl => match us, hl with | [_, _], _ => rfl⟩, C.x_InvalidPlace.oc, C.x_InvalidPlace.ini, C.x_InvalidPlace.fn, C.g_InvalidPlace⟩
theorem okEK_InvalidPlace_0 (C : Ct K w mg) : ∃ fd, FnOk P w K mg base (L2.CX P w) 1 (He.ma K (He.ga K "InvalidPlace") "__init__") fd ["self", "value"] (spExcI K "InvalidPlace" "value") ∧ KBn K fd ["self", "value"] 1 ["value"] (fun us ws => kwP [0] us ws) (fun vs zs => kwP [0] vs zs) := by
  obtain ⟨fd, F⟩ := C.says.def_ 4 (d := d_InvalidPlace_init) rfl
  exact ⟨fd, F.ok (k := 0) sc_InvalidPlace_init (fun vs H Q E h => spExcI_len vs H Q E h) (fun cdv A outer s H vs Q E hr h => ⟨_, pss_one (ps_ost (pv 0) (pv 1)), read_excI C.x_InvalidPlace h⟩), kbN F 1 ["value"] (fun vs zs => kwP [0] vs zs) (fun h1 h2 => kwP_rel [0] h1 h2) fun _ _ _ _ _ _ us ws h1 h2 => match us, ws, h1, h2 with | [_], [_], _, _ => rfl⟩
theorem okE_InvalidPrice (C : Ct K w mg) : GoodE P w K mg base "InvalidPrice" ["self", "value"] (spExcI K "InvalidPrice" "value") := by
  obtain ⟨fd, F⟩ := C.says.def_ 1 (d := d_InvalidPrice_init) rfl
  exact ⟨⟨fd, F.ok (k := 0) sc_InvalidPrice_init (fun vs H Q E h => spExcI_len vs H Q E h) (fun cdv A outer s H vs Q E hr h => ⟨_, pss_one (ps_ost (pv 0) (pv 1)), read_excI C.x_InvalidPrice h⟩), F.bindsN fun _ _ _ _ _ _ us hl => match us, hl with | [_, _], _ => rfl⟩, C.x_InvalidPrice.oc, C.x_InvalidPrice.ini, C.x_InvalidPrice.fn, C.g_InvalidPrice⟩
theorem okEK_InvalidPrice_0 (C : Ct K w mg) : ∃ fd, FnOk P w K mg base (L2.CX P w) 1 (He.ma K (He.ga K "InvalidPrice") "__init__") fd ["self", "value"] (spExcI K "InvalidPrice" "value") ∧ KBn K fd ["self", "value"] 1 ["value"] (fun us ws => kwP [0] us ws) (fun vs zs => kwP [0] vs zs) := by
  obtain ⟨fd, F⟩ := C.says.def_ 1 (d := d_InvalidPrice_init) rfl
  exact ⟨fd, F.ok (k := 0) sc_InvalidPrice_init (fun vs H Q E h => spExcI_len vs H Q E h) (fun cdv A outer s H vs Q E hr h => ⟨_, pss_one (ps_ost (pv 0) (pv 1)), read_excI C.x_InvalidPrice h⟩), kbN F 1 ["value"] (fun vs zs => kwP [0] vs zs) (fun h1 h2 => kwP_rel [0] h1 h2) fun _ _ _ _ _ _ us ws h1 h2 => match us, ws, h1, h2 with | [_], [_], _, _ => rfl⟩
theorem okE_InvalidRow (C : Ct K w mg) : GoodE P w K mg base "InvalidRow" ["self", "value"] (spExcI K "InvalidRow" "value") := by
  obtain ⟨fd, F⟩ := C.says.def_ 8 (d := d_InvalidRow_init) rfl
  exact ⟨⟨fd, F.ok (k := 0) sc_InvalidRow_init (fun vs H Q E h => spExcI_len vs H Q E h) (fun cdv A outer s H vs Q E hr h => ⟨_, pss_one (ps_ost (pv 0) (pv 1)), read_excI C.x_InvalidRow h⟩), F.bindsN fun _ _ _ _ _ _ us hl => match us, hl with | [_, _], _ => rfl⟩, C.x_InvalidRow.oc, C.x_InvalidRow.ini, C.x_InvalidRow.fn, C.g_InvalidRow⟩
theorem okEK_InvalidRow_0 (C : Ct K w mg) : ∃ fd, FnOk P w K mg base (L2.CX P w) 1 (He.ma K (He.ga K "InvalidRow") "__init__") fd ["self", "value"] (spExcI K "InvalidRow" "value") ∧ KBn K fd ["self", "value"] 1 ["value"] (fun us ws => kwP [0] us ws) (fun vs zs => kwP [0] vs zs) := by
  obtain ⟨fd, F⟩ := C.says.def_ 8 (d := d_InvalidRow_init) rfl
  exact ⟨fd, F.ok (k := 0) sc_InvalidRow_init (fun vs H Q E h => spExcI_len vs H Q E h) (fun cdv A outer s H vs Q E hr h => ⟨_, pss_one (ps_ost (pv 0) (pv 1)), read_excI C.x_InvalidRow h⟩), kbN F 1 ["value"] (fun vs zs => kwP [0] vs zs) (fun h1 h2 => kwP_rel [0] h1 h2) fun _ _ _ _ _ _ us ws h1 h2 => match us, ws, h1, h2 with | [_], [_], _, _ => rfl⟩
theorem okE_InvalidText (C : Ct K w mg) : GoodE P w K mg base "InvalidText" ["self", "value"] (spExcI K "InvalidText" "value") := by
  obtain ⟨fd, F⟩ := C.says.def_ 2 (d := d_InvalidText_init) rfl
  exact ⟨⟨fd, F.ok (k := 0) sc_InvalidText_init (fun vs H Q E h => spExcI_len vs H Q E h) (fun cdv A outer s H vs Q E hr h => ⟨_, pss_one (ps_ost (pv 0) (pv 1)), read_excI C.x_InvalidText h⟩), F.bindsN fun _ _ _ _ _ _ us hl => match us, hl with | [_, _], _ => rfl⟩, C.x_InvalidText.oc, C.x_InvalidText.ini, C.x_InvalidText.fn, C.g_InvalidText⟩
theorem okEK_InvalidText_0 (C : Ct K w mg) : ∃ fd, FnOk P w K mg base (L2.CX P w) 1 (He.ma K (He.ga K "InvalidText") "__init__") fd ["self", "value"] (spExcI K "InvalidText" "value") ∧ KBn K fd ["self", "value"] 1 ["value"] (fun us ws => kwP [0] us ws) (fun vs zs => kwP [0] vs zs) := by
  obtain ⟨fd, F⟩ := C.says.def_ 2 (d := d_InvalidText_init) rfl
  exact ⟨fd, F.ok (k := 0) sc_InvalidText_init (fun vs H Q E h => spExcI_len vs H Q E h) (fun cdv A outer s H vs Q E hr h => ⟨_, pss_one (ps_ost (pv 0) (pv 1)), read_excI C.x_InvalidText h⟩), kbN F 1 ["value"] (fun vs zs => kwP [0] vs zs) (fun h1 h2 => kwP_rel [0] h1 h2) fun _ _ _ _ _ _ us ws h1 h2 => match us, ws, h1, h2 with | [_], [_], _, _ => rfl⟩
theorem okE_InvalidWay (C : Ct K w mg) : GoodE P w K mg base "InvalidWay" ["self", "value"] (spExcI K "InvalidWay" "value") := by
  obtain ⟨fd, F⟩ := C.says.def_ 5 (d := d_InvalidWay_init) rfl
  exact ⟨⟨fd, F.ok (k := 0) sc_InvalidWay_init (fun vs H Q E h => spExcI_len vs H Q E h) (fun cdv A outer s H vs Q E hr h => ⟨_, pss_one (ps_ost (pv 0) (pv 1)), read_excI C.x_InvalidWay h⟩), F.bindsN fun _ _ _ _ _ _ us hl => match us, hl with | [_, _], _ => rfl⟩, C.x_InvalidWay.oc, C.x_InvalidWay.ini, C.x_InvalidWay.fn, C.g_InvalidWay⟩
theorem okEK_InvalidWay_0 (C : Ct K w mg) : ∃ fd, FnOk P w K mg base (L2.CX P w) 1 (He.ma K (He.ga K "InvalidWay") "__init__") fd ["self", "value"] (spExcI K "InvalidWay" "value") ∧ KBn K fd ["self", "value"] 1 ["value"] (fun us ws => kwP [0] us ws) (fun vs zs => kwP [0] vs zs) := by
  obtain ⟨fd, F⟩ := C.says.def_ 5 (d := d_InvalidWay_init) rfl
  exact ⟨fd, F.ok (k := 0) sc_InvalidWay_init (fun vs H Q E h => spExcI_len vs H Q E h) (fun cdv A outer s H vs Q E hr h => ⟨_, pss_one (ps_ost (pv 0) (pv 1)), read_excI C.x_InvalidWay h⟩), kbN F 1 ["value"] (fun vs zs => kwP [0] vs zs) (fun h1 h2 => kwP_rel [0] h1 h2) fun _ _ _ _ _ _ us ws h1 h2 => match us, ws, h1, h2 with | [_], [_], _, _ => rfl⟩
theorem okE_InvalidYard (C : Ct K w mg) : GoodE P w K mg base "InvalidYard" ["self", "value"] (spExcI K "InvalidYard" "value") := by
  obtain ⟨fd, F⟩ := C.says.def_ 0 (d := d_InvalidYard_init) rfl
  exact ⟨⟨fd, F.ok (k := 0) sc_InvalidYard_init (fun vs H Q E h => spExcI_len vs H Q E h) (fun cdv A outer s H vs Q E hr h => ⟨_, pss_one (ps_ost (pv 0) (pv 1)), read_excI C.x_InvalidYard h⟩), F.bindsN fun _ _ _ _ _ _ us hl => match us, hl with | [_, _], _ => rfl⟩, C.x_InvalidYard.oc, C.x_InvalidYard.ini, C.x_InvalidYard.fn, C.g_InvalidYard⟩
theorem okEK_InvalidYard_0 (C : Ct K w mg) : ∃ fd, FnOk P w K mg base (L2.CX P w) 1 (He.ma K (He.ga K "InvalidYard") "__init__") fd ["self", "value"] (spExcI K "InvalidYard" "value") ∧ KBn K fd ["self", "value"] 1 ["value"] (fun us ws => kwP [0] us ws) (fun vs zs => kwP [0] vs zs) := by
  obtain ⟨fd, F⟩ := C.says.def_ 0 (d := d_InvalidYard_init) rfl
  exact ⟨fd, F.ok (k := 0) sc_InvalidYard_init (fun vs H Q E h => spExcI_len vs H Q E h) (fun cdv A outer s H vs Q E hr h => ⟨_, pss_one (ps_ost (pv 0) (pv 1)), read_excI C.x_InvalidYard h⟩), kbN F 1 ["value"] (fun vs zs => kwP [0] vs zs) (fun h1 h2 => kwP_rel [0] h1 h2) fun _ _ _ _ _ _ us ws h1 h2 => match us, ws, h1, h2 with | [_], [_], _, _ => rfl⟩
theorem okE_NoWay (C : Ct K w mg) : GoodE P w K mg base "NoWay" ["self", "start", "goal"] (sp_NoWay_init K) := by
  obtain ⟨fd, F⟩ := C.says.def_ 17 (d := d_NoWay_init) rfl
  exact ⟨⟨fd, F.ok (k := 0) sc_NoWay_init (fun vs H Q E h => noWay_len vs H Q E h) (fun cdv A outer s H vs Q E hr h => ⟨t_NoWayI K, pss_cons (ps_ost (pv 0) (pv 1)) (pss_one (ps_ost (pv 0) (pv 2))), read_NoWayI C.x_NoWay.oc C.x_NoWay.nf C.nw h⟩), F.bindsN fun _ _ _ _ _ _ us hl => match us, hl with | [_, _, _], _ => rfl⟩, C.x_NoWay.oc, C.x_NoWay.ini, C.x_NoWay.fn, C.g_NoWay⟩
theorem okEK_NoWay_1_0 (C : Ct K w mg) : ∃ fd, FnOk P w K mg base (L2.CX P w) 1 (He.ma K (He.ga K "NoWay") "__init__") fd ["self", "start", "goal"] (sp_NoWay_init K) ∧ KBn K fd ["self", "start", "goal"] 1 ["goal", "start"] (fun us ws => kwP [1, 0] us ws) (fun vs zs => kwP [1, 0] vs zs) := by
  obtain ⟨fd, F⟩ := C.says.def_ 17 (d := d_NoWay_init) rfl
  exact ⟨fd, F.ok (k := 0) sc_NoWay_init (fun vs H Q E h => noWay_len vs H Q E h) (fun cdv A outer s H vs Q E hr h => ⟨t_NoWayI K, pss_cons (ps_ost (pv 0) (pv 1)) (pss_one (ps_ost (pv 0) (pv 2))), read_NoWayI C.x_NoWay.oc C.x_NoWay.nf C.nw h⟩), kbN F 1 ["goal", "start"] (fun vs zs => kwP [1, 0] vs zs) (fun h1 h2 => kwP_rel [1, 0] h1 h2) fun _ _ _ _ _ _ us ws h1 h2 => match us, ws, h1, h2 with | [_], [_, _], _, _ => rfl⟩
theorem okE_NotAllowed (C : Ct K w mg) : GoodE P w K mg base "NotAllowed" ["self", "index"] (spExcI K "NotAllowed" "index") := by
  obtain ⟨fd, F⟩ := C.says.def_ 15 (d := d_NotAllowed_init) rfl
  exact ⟨⟨fd, F.ok (k := 0) sc_NotAllowed_init (fun vs H Q E h => spExcI_len vs H Q E h) (fun cdv A outer s H vs Q E hr h => ⟨_, pss_one (ps_ost (pv 0) (pv 1)), read_excI C.x_NotAllowed h⟩), F.bindsN fun _ _ _ _ _ _ us hl => match us, hl with | [_, _], _ => rfl⟩, C.x_NotAllowed.oc, C.x_NotAllowed.ini, C.x_NotAllowed.fn, C.g_NotAllowed⟩
theorem okEK_NotAllowed_0 (C : Ct K w mg) : ∃ fd, FnOk P w K mg base (L2.CX P w) 1 (He.ma K (He.ga K "NotAllowed") "__init__") fd ["self", "index"] (spExcI K "NotAllowed" "index") ∧ KBn K fd ["self", "index"] 1 ["index"] (fun us ws => kwP [0] us ws) (fun vs zs => kwP [0] vs zs) := by
  obtain ⟨fd, F⟩ := C.says.def_ 15 (d := d_NotAllowed_init) rfl
  exact ⟨fd, F.ok (k := 0) sc_NotAllowed_init (fun vs H Q E h => spExcI_len vs H Q E h) (fun cdv A outer s H vs Q E hr h => ⟨_, pss_one (ps_ost (pv 0) (pv 1)), read_excI C.x_NotAllowed h⟩), kbN F 1 ["index"] (fun vs zs => kwP [0] vs zs) (fun h1 h2 => kwP_rel [0] h1 h2) fun _ _ _ _ _ _ us ws h1 h2 => match us, ws, h1, h2 with | [_], [_], _, _ => rfl⟩
theorem okE_TooMany (C : Ct K w mg) : GoodE P w K mg base "TooMany" ["self", "count"] (spExcI K "TooMany" "count") := by
  obtain ⟨fd, F⟩ := C.says.def_ 16 (d := d_TooMany_init) rfl
  exact ⟨⟨fd, F.ok (k := 0) sc_TooMany_init (fun vs H Q E h => spExcI_len vs H Q E h) (fun cdv A outer s H vs Q E hr h => ⟨_, pss_one (ps_ost (pv 0) (pv 1)), read_excI C.x_TooMany h⟩), F.bindsN fun _ _ _ _ _ _ us hl => match us, hl with | [_, _], _ => rfl⟩, C.x_TooMany.oc, C.x_TooMany.ini, C.x_TooMany.fn, C.g_TooMany⟩
theorem okEK_TooMany_0 (C : Ct K w mg) : ∃ fd, FnOk P w K mg base (L2.CX P w) 1 (He.ma K (He.ga K "TooMany") "__init__") fd ["self", "count"] (spExcI K "TooMany" "count") ∧ KBn K fd ["self", "count"] 1 ["count"] (fun us ws => kwP [0] us ws) (fun vs zs => kwP [0] vs zs) := by
  obtain ⟨fd, F⟩ := C.says.def_ 16 (d := d_TooMany_init) rfl
  exact ⟨fd, F.ok (k := 0) sc_TooMany_init (fun vs H Q E h => spExcI_len vs H Q E h) (fun cdv A outer s H vs Q E hr h => ⟨_, pss_one (ps_ost (pv 0) (pv 1)), read_excI C.x_TooMany h⟩), kbN F 1 ["count"] (fun vs zs => kwP [0] vs zs) (fun h1 h2 => kwP_rel [0] h1 h2) fun _ _ _ _ _ _ us ws h1 h2 => match us, ws, h1, h2 with | [_], [_], _, _ => rfl⟩
theorem ok__law_bag (C : Ct K w mg) : GoodO P w K mg base 1 "_law_bag" ["_law_cell_here"] (sp__law_bag K) := by
  obtain ⟨fd, F⟩ := C.says.def_ 34 (d := d__law_bag) rfl
  exact ⟨⟨fd, F.ok (k := 0) sc__law_bag (fun vs H Q E h => sp1_len vs H Q E h) (fun cdv A outer s H vs Q E hr h => ⟨t__law_bag K E, (have hu := hr.units; (pss_one (ps_ret (pe_lst (pa_cons (pe_callB (call_max2 rfl) (by rfl) C.n_max (by decide +kernel) (pa_cons pe_int (pa_cons (pe_op op_uSub (pv 0) (pe_op op_uPow pe_int pe_int)) pa_nil))) (pa_cons (pe_op op_uMod (pe_callTy call_int1 (by rfl) C.n_int (by decide +kernel) (pa_cons (pv 0) pa_nil)) pe_int) (pa_cons pe_int pa_nil))))))), read__law_bag C.F h⟩), F.bindsN fun _ _ _ _ _ _ us hl => match us, hl with | [_], _ => rfl⟩, C.g__law_bag, F.kp⟩
theorem ok__law_cell (C : Ct K w mg) : GoodO P w K mg base 1 "_law_cell" ["_law_script", "_law_k"] (sp__law_cell K) := by
  obtain ⟨fd, F⟩ := C.says.def_ 33 (d := d__law_cell) rfl
  exact ⟨⟨fd, F.ok (k := 0) sc__law_cell (fun vs H Q E h => sp2_len vs H Q E h) (fun cdv A outer s H vs Q E hr h => ⟨t__law_cell K E, (have hu := hr.units; (pss_cons (ps_set (i := 2) sc__law_cell.nd rfl (Or.inl rfl) (pe_op op_uAdd (pe_op op_uMul pe_int (pv 1)) pe_int)) (pss_one (ps_ret (pe_ifExp (pt_cmpR op_uLt (pv 1) (pe_callB call_uLen (by rfl) C.n_len boot_len (pa_cons (pv 0) pa_nil)) (by rfl)) (pe_ix ix_u (pv 0) (pv 1) (fun _ _ => rfl)) (pe_op op_uAdd (pv 2) (pe_ifExp (pt_cmpR op_uGt (pe_callB call_uLen (by rfl) C.n_len boot_len (pa_cons (pv 0) pa_nil)) pe_int (by rfl)) (pe_op op_uMod (pe_callTy call_int1 (by rfl) C.n_int (by decide +kernel) (pa_cons (pe_ix ix_u (pv 0) pe_int (fun _ _ => rfl)) pa_nil)) pe_int) pe_int))))))), read__law_cell C.F h⟩), F.bindsN fun _ _ _ _ _ _ us hl => match us, hl with | [_, _], _ => rfl⟩, C.g__law_cell, F.kp⟩
theorem ok_is_integer (C : Ct K w mg) : GoodO P w K mg base 1 "is_integer" ["value"] (sp_is_integer K) := by
  obtain ⟨fd, F⟩ := C.says.def_ 19 (d := d_is_integer) rfl
  exact ⟨⟨fd, F.ok (k := 0) sc_is_integer (fun vs H Q E h => sp1_len vs H Q E h) (fun cdv A outer s H vs Q E hr h => ⟨t_is_integer K E, (have hu := hr.units; (pss_one (ps_ret (pe_and (pe_callB call_uIsi (by rfl) C.n_isinstance (by decide +kernel) (pa_cons (pv 0) (pa_cons (pe_bltn (v := .ty "int") (by rfl) C.n_int (by decide +kernel) rfl) pa_nil))) (pe_one (pe_not (pe_callB call_uIsi (by rfl) C.n_isinstance (by decide +kernel) (pa_cons (pv 0) (pa_cons (pe_bltn (v := .ty "bool") (by rfl) C.n_bool (by decide +kernel) rfl) pa_nil))))))))), read_is_integer C.F h⟩), F.bindsN fun _ _ _ _ _ _ us hl => match us, hl with | [_], _ => rfl⟩, C.g_is_integer, F.kp⟩
theorem ok_is_integer_within (C : Ct K w mg) : GoodO P w K mg base 2 "is_integer_within" ["value", "low", "high"] (sp_is_integer_within K) := by
  obtain ⟨fd, F⟩ := C.says.def_ 20 (d := d_is_integer_within) rfl
  exact ⟨⟨fd, F.ok (k := 1) sc_is_integer_within (fun vs H Q E h => sp3_len vs H Q E h) (fun cdv A outer s H vs Q E hr h => ⟨t_is_integer_within K E, (have hu := hr.units; (pss_one (ps_ret (pe_and (pe_fo (ok_is_integer C) (hr.mono (by decide)) (by rfl) (passes_call (takes_of rfl rfl rfl rfl) fun _ _ _ _ h => h) (ha := (pa_cons (pv 0) pa_nil))) (pe_one (pe_chain op_uLe op_uLe (pv 1) (pv 0) (pv 2))))))), read_is_integer_within C.F h⟩), F.bindsN fun _ _ _ _ _ _ us hl => match us, hl with | [_, _, _], _ => rfl⟩, C.g_is_integer_within, F.kp⟩
theorem ok_is_price (C : Ct K w mg) : GoodO P w K mg base 2 "is_price" ["value"] (sp_is_price K) := by
  obtain ⟨fd, F⟩ := C.says.def_ 18 (d := d_is_price) rfl
  exact ⟨⟨fd, F.ok (k := 1) sc_is_price (fun vs H Q E h => sp1_len vs H Q E h) (fun cdv A outer s H vs Q E hr h => ⟨t_is_price K E, (have hu := hr.units; (pss_one (ps_ret (pe_and (pe_fo (ok_is_integer C) (hr.mono (by decide)) (by rfl) (passes_call (takes_of rfl rfl rfl rfl) fun _ _ _ _ h => h) (ha := (pa_cons (pv 0) pa_nil))) (pe_one (pe_cmpR op_uGt (pv 0) pe_int (by rfl))))))), read_is_price C.F h⟩), F.bindsN fun _ _ _ _ _ _ us hl => match us, hl with | [_], _ => rfl⟩, C.g_is_price, F.kp⟩
theorem ok__is_price_row (C : Ct K w mg) : GoodO P w K mg base 3 "_is_price_row" ["value"] (sp__is_price_row K) := by
  obtain ⟨fd, F⟩ := C.says.def_ 27 (d := d__is_price_row) rfl
  exact ⟨⟨fd, F.ok (k := 2) sc__is_price_row (fun vs H Q E h => sp1_len vs H Q E h) (fun cdv A outer s H vs Q E hr h => ⟨t__is_price_row K E, (have hu := hr.units; (pss_one (ps_ret (pe_and (pe_callB call_uIsi (by rfl) C.n_isinstance (by decide +kernel) (pa_cons (pv 0) (pa_cons (pe_tup (pa_cons (pe_bltn (v := .ty "list") (by rfl) C.n_list (by decide +kernel) rfl) (pa_cons (pe_bltn (v := .ty "tuple") (by rfl) C.n_tuple (by decide +kernel) rfl) pa_nil))) pa_nil))) (pe_and (pe_cmpR (op_uEq hu) (pe_callB call_uLen (by rfl) C.n_len boot_len (pa_cons (pv 0) pa_nil)) (pe_callB call_uLen (by rfl) C.n_len boot_len (pa_cons (pe_glob (by rfl) C.g_WAYS rfl) pa_nil)) (by rfl)) (pe_one (pe_callB (cr_all rfl) (by rfl) C.n_all (by decide +kernel) (pa_cons (pe_lc (own := [("price", 1)]) (g := (gName 1)) (tt := tYes) rfl sc__is_price_row.nd (pi_seq (pv 0)) (blkOk_by (N := n__is_price_row) (sc := defScope s__is_price_row) (by decide +kernel)) (fun _ _ _ _ _ => (pg_name (i := 1) sc__is_price_row.nd rfl (Or.inl rfl))) (fun _ _ _ _ _ => pts_nil) (fun _ _ _ _ _ => (pe_or (pe_cmpR op_uIs (pv 1) pe_non (by rfl)) (pe_one (pe_fo (ok_is_price C) (hr.mono (by decide)) (by rfl) passL (ha := (pa_cons (pv 1) pa_nil))))))) pa_nil)))))))), read__is_price_row C.F h⟩), F.bindsN fun _ _ _ _ _ _ us hl => match us, hl with | [_], _ => rfl⟩, C.g__is_price_row, F.kp⟩
theorem ok__are_rows (C : Ct K w mg) : GoodO P w K mg base 4 "_are_rows" ["value"] (sp__are_rows K) := by
  obtain ⟨fd, F⟩ := C.says.def_ 26 (d := d__are_rows) rfl
  exact ⟨⟨fd, F.ok (k := 3) sc__are_rows (fun vs H Q E h => sp1_len vs H Q E h) (fun cdv A outer s H vs Q E hr h => ⟨t__are_rows K E, (have hu := hr.units; (pss_one (ps_ret (pe_and (pe_callB call_uIsi (by rfl) C.n_isinstance (by decide +kernel) (pa_cons (pv 0) (pa_cons (pe_tup (pa_cons (pe_bltn (v := .ty "list") (by rfl) C.n_list (by decide +kernel) rfl) (pa_cons (pe_bltn (v := .ty "tuple") (by rfl) C.n_tuple (by decide +kernel) rfl) pa_nil))) pa_nil))) (pe_and (pe_chain op_uLe op_uLe pe_int (pe_callB call_uLen (by rfl) C.n_len boot_len (pa_cons (pv 0) pa_nil)) (pe_int_of (by rfl) (C.int_MOST_CRATES))) (pe_one (pe_callB (cr_all rfl) (by rfl) C.n_all (by decide +kernel) (pa_cons (pe_lc (own := [("row", 1)]) (g := (gName 1)) (tt := tYes) rfl sc__are_rows.nd (pi_seq (pv 0)) (blkOk_by (N := n__are_rows) (sc := defScope s__are_rows) (by decide +kernel)) (fun _ _ _ _ _ => (pg_name (i := 1) sc__are_rows.nd rfl (Or.inl rfl))) (fun _ _ _ _ _ => pts_nil) (fun _ _ _ _ _ => (pe_fo (ok__is_price_row C) (hr.mono (by decide)) (by rfl) passL (ha := (pa_cons (pv 1) pa_nil))))) pa_nil)))))))), read__are_rows C.F h⟩), F.bindsN fun _ _ _ _ _ _ us hl => match us, hl with | [_], _ => rfl⟩, C.g__are_rows, F.kp⟩
theorem ok_Yard_init (C : Ct K w mg) : GoodM P w K mg base 5 "Yard" "__init__" ["self", "rows"] (sp_Yard_init K) := by
  obtain ⟨fd, F⟩ := C.says.def_ 22 (d := d_Yard_init) rfl
  exact ⟨⟨fd, F.ok (k := 4) sc_Yard_init (fun vs H Q E h => sp2_len vs H Q E h) (fun cdv A outer s H vs Q E hr h => ⟨t_Yard_init K E, (have hu := hr.units; (pss_cons (ps_if (pt_not (pt_val (pe_fo (ok__are_rows C) (hr.mono (by decide)) (by rfl) (passes_call (takes_of rfl rfl rfl rfl) fun _ _ _ _ h => h) (ha := (pa_cons (pv 1) pa_nil))))) (pss_one (ps_rse (okx_InvalidYard C) (hr.mono (by decide)) rfl (takes_of rfl rfl rfl rfl) (by rfl) (pa_cons (pv 1) pa_nil))) pss_nil) (pss_cons (ps_fld (pv 0) (pe_callTy (call_uTup rfl) (by rfl) C.n_tuple (by decide +kernel) (pa_cons (pe_lc (own := [("row", 2)]) (g := (gName 2)) (tt := tYes) rfl sc_Yard_init.nd (pi_seq (pv 1)) (blkOk_by (N := n_Yard_init) (sc := defScope s_Yard_init) (by decide +kernel)) (fun _ _ _ _ _ => (pg_name (i := 2) sc_Yard_init.nd rfl (Or.inl rfl))) (fun _ _ _ _ _ => pts_nil) (fun _ _ _ _ _ => (pe_callTy (call_uTup rfl) (by rfl) C.n_tuple (by decide +kernel) (pa_cons (pv 2) pa_nil)))) pa_nil)) rfl) (pss_one (ps_fld (pv 0) pe_non rfl))))), read_Yard_init C.F h⟩), F.bindsN fun _ _ _ _ _ _ us hl => match us, hl with | [_, _], _ => rfl⟩, C.m_Yard_init, C.F.cl⟩
theorem ok_Yard_even (C : Ct K w mg) : GoodC P w K mg base 7 "Yard" "even" ["cls", "count", "price"] (sp_Yard_even K) := by
  obtain ⟨fd, F⟩ := C.says.def_ 24 (d := d_Yard_even) rfl
  exact ⟨⟨fd, F.ok (k := 6) sc_Yard_even (fun vs H Q E h => sp3_len vs H Q E h) (fun cdv A outer s H vs Q E hr h => ⟨t_Yard_even K E, (have hu := hr.units; (pss_cons (ps_if (pt_not (pt_val (pe_fo (ok_is_integer_within C) (hr.mono (by decide)) (by rfl) (passes_call (takes_of rfl rfl rfl rfl) fun _ _ _ _ h => h) (ha := (pa_cons (pv 1) (pa_cons pe_int (pa_cons (pe_int_of (by rfl) (C.int_MOST_CRATES)) pa_nil))))))) (pss_one (ps_rse (okx_InvalidCount C) (hr.mono (by decide)) rfl (takes_of rfl rfl rfl rfl) (by rfl) (pa_cons (pv 1) pa_nil))) pss_nil) (pss_cons (ps_if (pt_not (pt_val (pe_fo (ok_is_price C) (hr.mono (by decide)) (by rfl) (passes_call (takes_of rfl rfl rfl rfl) fun _ _ _ _ h => h) (ha := (pa_cons (pv 2) pa_nil))))) (pss_one (ps_rse (okx_InvalidPrice C) (hr.mono (by decide)) rfl (takes_of rfl rfl rfl rfl) (by rfl) (pa_cons (pv 2) pa_nil))) pss_nil) (pss_one (ps_ret (pe_mkL (ok_Yard_init C) C.mk_Yard (hr.mono (by decide)) rfl (Or.inl rfl) C.mk_Yard.kp (passes_call (takes_of rfl rfl rfl rfl) fun _ _ _ _ h => h) (ha := (pa_cons (pe_op op_uMul (pe_lst (pa_cons (pe_op op_uMul (pe_lst (pa_cons (pv 2) pa_nil)) (pe_callB call_uLen (by rfl) C.n_len boot_len (pa_cons (pe_glob (by rfl) C.g_WAYS rfl) pa_nil))) pa_nil)) (pv 1)) pa_nil)))))))), read_Yard_even C.F h⟩), F.bindsN fun _ _ _ _ _ _ us hl => match us, hl with | [_, _, _], _ => rfl⟩, crB_ok C.cr_Yard_even, cmB_ok C.cm_Yard_even⟩
theorem ok_is_numeral (C : Ct K w mg) : GoodO P w K mg base 1 "is_numeral" ["word"] (sp_is_numeral K) := by
  obtain ⟨fd, F⟩ := C.says.def_ 21 (d := d_is_numeral) rfl
  exact ⟨⟨fd, F.ok (k := 0) sc_is_numeral (fun vs H Q E h => sp1_len vs H Q E h) (fun cdv A outer s H vs Q E hr h => ⟨t_is_numeral K E, (have hu := hr.units; (pss_one (ps_ret (pe_and (pe_cmpR (op_uNe hu) (pv 0) pe_str (by rfl)) (pe_and (pe_cmpR (op_uEq hu) (pe_bm PySem.F.plainAttrs_str PySem.F.slot_str_strip PySem.F.type_str_strip mt_stripU (pv 0) (pa_cons (pe_str_of (by rfl) (C.str__DIGITS)) pa_nil)) pe_str (by rfl)) (pe_one (pe_or (pe_cmpR (op_uNe hu) (pe_ix ix_u (pv 0) pe_int (fun _ _ => rfl)) pe_str (by rfl)) (pe_one (pe_cmpR (op_uEq hu) (pv 0) pe_str (by rfl)))))))))), read_is_numeral C.F h⟩), F.bindsN fun _ _ _ _ _ _ us hl => match us, hl with | [_], _ => rfl⟩, C.g_is_numeral, F.kp⟩
theorem ok__is_price_text (C : Ct K w mg) : GoodO P w K mg base 2 "_is_price_text" ["word"] (sp__is_price_text K) := by
  obtain ⟨fd, F⟩ := C.says.def_ 30 (d := d__is_price_text) rfl
  exact ⟨⟨fd, F.ok (k := 1) sc__is_price_text (fun vs H Q E h => sp1_len vs H Q E h) (fun cdv A outer s H vs Q E hr h => ⟨t__is_price_text K E, (have hu := hr.units; (pss_one (ps_ret (pe_or (pe_cmpR (op_uEq hu) (pv 0) (pe_str_of (by rfl) (C.str__BAR)) (by rfl)) (pe_one (pe_and (pe_fo (ok_is_numeral C) (hr.mono (by decide)) (by rfl) (passes_call (takes_of rfl rfl rfl rfl) fun _ _ _ _ h => h) (ha := (pa_cons (pv 0) pa_nil))) (pe_one (pe_cmpR (op_uNe hu) (pv 0) pe_str (by rfl))))))))), read__is_price_text C.F h⟩), F.bindsN fun _ _ _ _ _ _ us hl => match us, hl with | [_], _ => rfl⟩, C.g__is_price_text, F.kp⟩
theorem ok__is_line (C : Ct K w mg) : GoodO P w K mg base 3 "_is_line" ["line"] (sp__is_line K) := by
  obtain ⟨fd, F⟩ := C.says.def_ 29 (d := d__is_line) rfl
  exact ⟨⟨fd, F.ok (k := 2) sc__is_line (fun vs H Q E h => sp1_len vs H Q E h) (fun cdv A outer s H vs Q E hr h => ⟨t__is_line K E, (have hu := hr.units; (pss_cons (ps_set (i := 1) sc__is_line.nd rfl (Or.inl rfl) (pe_bm PySem.F.plainAttrs_str PySem.F.slot_str_split PySem.F.type_str_split mt_splitU (pv 0) (pa_cons pe_str pa_nil))) (pss_one (ps_ret (pe_and (pe_cmpR (op_uEq hu) (pe_callB call_uLen (by rfl) C.n_len boot_len (pa_cons (pv 1) pa_nil)) (pe_callB call_uLen (by rfl) C.n_len boot_len (pa_cons (pe_glob (by rfl) C.g_WAYS rfl) pa_nil)) (by rfl)) (pe_one (pe_callB (cr_all rfl) (by rfl) C.n_all (by decide +kernel) (pa_cons (pe_lc (own := [("word", 2)]) (g := (gName 2)) (tt := tYes) rfl sc__is_line.nd (pi_seq (pv 1)) (blkOk_by (N := n__is_line) (sc := defScope s__is_line) (by decide +kernel)) (fun _ _ _ _ _ => (pg_name (i := 2) sc__is_line.nd rfl (Or.inl rfl))) (fun _ _ _ _ _ => pts_nil) (fun _ _ _ _ _ => (pe_fo (ok__is_price_text C) (hr.mono (by decide)) (by rfl) passL (ha := (pa_cons (pv 2) pa_nil))))) pa_nil)))))))), read__is_line C.F h⟩), F.bindsN fun _ _ _ _ _ _ us hl => match us, hl with | [_], _ => rfl⟩, C.g__is_line, F.kp⟩
theorem ok__is_yard_text (C : Ct K w mg) : GoodO P w K mg base 4 "_is_yard_text" ["value"] (sp__is_yard_text K) := by
  obtain ⟨fd, F⟩ := C.says.def_ 28 (d := d__is_yard_text) rfl
  exact ⟨⟨fd, F.ok (k := 3) sc__is_yard_text (fun vs H Q E h => sp1_len vs H Q E h) (fun cdv A outer s H vs Q E hr h => ⟨t__is_yard_text K E, (have hu := hr.units; (pss_cons (ps_if (pt_not (pt_val (pe_callB call_uIsi (by rfl) C.n_isinstance (by decide +kernel) (pa_cons (pv 0) (pa_cons (pe_bltn (v := .ty "str") (by rfl) C.n_str (by decide +kernel) rfl) pa_nil))))) (pss_one (ps_ret pe_bl)) pss_nil) (pss_cons (ps_set (i := 1) sc__is_yard_text.nd rfl (Or.inl rfl) (pe_bm PySem.F.plainAttrs_str PySem.F.slot_str_split PySem.F.type_str_split mt_splitU (pv 0) (pa_cons pe_str pa_nil))) (pss_one (ps_ret (pe_and (pe_cmpR op_uLe (pe_callB call_uLen (by rfl) C.n_len boot_len (pa_cons (pv 1) pa_nil)) (pe_int_of (by rfl) (C.int_MOST_CRATES)) (by rfl)) (pe_one (pe_callB (cr_all rfl) (by rfl) C.n_all (by decide +kernel) (pa_cons (pe_lc (own := [("line", 2)]) (g := (gName 2)) (tt := tYes) rfl sc__is_yard_text.nd (pi_seq (pv 1)) (blkOk_by (N := n__is_yard_text) (sc := defScope s__is_yard_text) (by decide +kernel)) (fun _ _ _ _ _ => (pg_name (i := 2) sc__is_yard_text.nd rfl (Or.inl rfl))) (fun _ _ _ _ _ => pts_nil) (fun _ _ _ _ _ => (pe_fo (ok__is_line C) (hr.mono (by decide)) (by rfl) passL (ha := (pa_cons (pv 2) pa_nil))))) pa_nil))))))))), read__is_yard_text C.F h⟩), F.bindsN fun _ _ _ _ _ _ us hl => match us, hl with | [_], _ => rfl⟩, C.g__is_yard_text, F.kp⟩
theorem ok__price_of (C : Ct K w mg) : GoodO P w K mg base 1 "_price_of" ["word"] (sp__price_of K) := by
  obtain ⟨fd, F⟩ := C.says.def_ 32 (d := d__price_of) rfl
  exact ⟨⟨fd, F.ok (k := 0) sc__price_of (fun vs H Q E h => sp1_len vs H Q E h) (fun cdv A outer s H vs Q E hr h => ⟨t__price_of K E, (have hu := hr.units; (pss_one (ps_ret (pe_ifExp (pt_cmpR (op_uEq hu) (pv 0) (pe_str_of (by rfl) (C.str__BAR)) (by rfl)) pe_non (pe_callTy call_intS (by rfl) C.n_int (by decide +kernel) (pa_cons (pv 0) pa_nil)))))), read__price_of C.F h⟩), F.bindsN fun _ _ _ _ _ _ us hl => match us, hl with | [_], _ => rfl⟩, C.g__price_of, F.kp⟩
theorem ok_Yard_read (C : Ct K w mg) : GoodC P w K mg base 7 "Yard" "read" ["cls", "text"] (sp_Yard_read K) := by
  obtain ⟨fd, F⟩ := C.says.def_ 23 (d := d_Yard_read) rfl
  exact ⟨⟨fd, F.ok (k := 6) sc_Yard_read (fun vs H Q E h => sp2_len vs H Q E h) (fun cdv A outer s H vs Q E hr h => ⟨t_Yard_read K E, (have hu := hr.units; (pss_cons (ps_if (pt_not (pt_val (pe_fo (ok__is_yard_text C) (hr.mono (by decide)) (by rfl) (passes_call (takes_of rfl rfl rfl rfl) fun _ _ _ _ h => h) (ha := (pa_cons (pv 1) pa_nil))))) (pss_one (ps_rse (okx_InvalidText C) (hr.mono (by decide)) rfl (takes_of rfl rfl rfl rfl) (by rfl) (pa_cons (pv 1) pa_nil))) pss_nil) (pss_one (ps_ret (pe_mkL (ok_Yard_init C) C.mk_Yard (hr.mono (by decide)) rfl (Or.inl rfl) C.mk_Yard.kp (passes_call (takes_of rfl rfl rfl rfl) fun _ _ _ _ h => h) (ha := (pa_cons (pe_lc (own := [("line", 2)]) (g := (gName 2)) (tt := tYes) rfl sc_Yard_read.nd (pi_seq (pe_bm PySem.F.plainAttrs_str PySem.F.slot_str_split PySem.F.type_str_split mt_splitU (pv 1) (pa_cons pe_str pa_nil))) (blkOk_by (N := n_Yard_read) (sc := defScope s_Yard_read) (by decide +kernel)) (fun _ _ _ _ _ => (pg_name (i := 2) sc_Yard_read.nd rfl (Or.inl rfl))) (fun _ _ _ _ _ => pts_nil) (fun _ _ _ _ _ => (pe_lc (own := [("word", 3)]) (g := (gName 3)) (tt := tYes) rfl sc_Yard_read.nd (pi_seq (pe_bm PySem.F.plainAttrs_str PySem.F.slot_str_split PySem.F.type_str_split mt_splitU (pv 2) (pa_cons pe_str pa_nil))) (blkOk_by (N := n_Yard_read) (sc := ({ kind := .function, names := [(".0", .local), ("line", .local)], isGenerator := false, isCoroutine := false } : Scope)) (by decide +kernel)) (fun _ _ _ _ _ => (pg_name (i := 3) sc_Yard_read.nd rfl (Or.inl rfl))) (fun _ _ _ _ _ => pts_nil) (fun _ _ _ _ _ => (pe_fo (ok__price_of C) (hr.mono (by decide)) (by rfl) passL (ha := (pa_cons (pv 3) pa_nil))))))) pa_nil))))))), read_Yard_read C.F h⟩), F.bindsN fun _ _ _ _ _ _ us hl => match us, hl with | [_, _], _ => rfl⟩, crB_ok C.cr_Yard_read, cmB_ok C.cm_Yard_read⟩
theorem ok__law_raised (C : Ct K w mg) : GoodO P w K mg base 8 "_law_raised" ["_law_kind"] (sp__law_raised K) := by
  obtain ⟨fd, F⟩ := C.says.def_ 44 (d := d__law_raised) rfl
  exact ⟨⟨fd, F.ok (k := 7) sc__law_raised (fun vs H Q E h => sp1_len vs H Q E h) (fun cdv A outer s H vs Q E hr h => ⟨t__law_raised K E, (have hu := hr.units; (pss_cons (ps_tryT rfl rfl sc__law_raised.nd (takes_of rfl rfl rfl rfl) (fun W pn xe tk po => (pss_one (ps_if (pt_cmpR (op_uEq hu) (pv 0) pe_int (by rfl)) (pss_one (ps_expr (pe_mkS (ok_Yard_init C) C.mk_Yard C.g_Yard (hr.mono (by decide)) (by rfl) tk (ha := (pa_cons pe_str pa_nil))))) (pss_one (ps_if (pt_cmpR (op_uEq hu) (pv 0) pe_int (by rfl)) (pss_one (ps_expr (pe_cmS (ok_Yard_even C) (pe_glob (by rfl) C.g_Yard rfl) (hr.mono (by decide)) tk (ha := (pa_cons pe_int (pa_cons pe_int pa_nil)))))) (pss_one (ps_expr (pe_cmS (ok_Yard_read C) (pe_glob (by rfl) C.g_Yard rfl) (hr.mono (by decide)) tk (ha := (pa_cons pe_str pa_nil)))))))))) (ClsOk.cons (te_name (c := .ref (He.ga K "InvalidText")) ⟨by rfl, by decide, .inl C.g_InvalidText⟩) ⟨rfl, rfl⟩ (fun a oe cls d pn hz hf => (pss_one (ps_ret (pe_lst (pa_cons pe_str (pa_cons (pe_xv hz hf (pv 1)) pa_nil)))))) (ClsOk.cons (te_name (c := .ref (He.ga K "CratesError")) ⟨by rfl, by decide, .inl C.g_CratesError⟩) ⟨rfl, rfl⟩ (fun a oe cls d pn hz hf => (pss_one (ps_ret (pe_lst (pa_cons pe_str (pa_cons (pe_callB (call_isX hz hf) (by rfl) C.n_isinstance (by decide +kernel) (pa_cons (pv 1) (pa_cons (pe_glob (by rfl) C.g_InvalidCount rfl) pa_nil))) pa_nil)))))) ClsOk.nil))) (pss_one (ps_ret (pe_lst pa_nil))))), read__law_raised C.F C.xf h⟩), F.bindsN fun _ _ _ _ _ _ us hl => match us, hl with | [_], _ => rfl⟩, C.g__law_raised, F.kp⟩
theorem ok__price_text (C : Ct K w mg) : GoodO P w K mg base 1 "_price_text" ["price"] (sp__price_text K) := by
  obtain ⟨fd, F⟩ := C.says.def_ 31 (d := d__price_text) rfl
  exact ⟨⟨fd, F.ok (k := 0) sc__price_text (fun vs H Q E h => sp1_len vs H Q E h) (fun cdv A outer s H vs Q E hr h => ⟨t__price_text K E, (have hu := hr.units; (pss_one (ps_ret (pe_ifExp (pt_cmpR op_uIs (pv 0) pe_non (by rfl)) (pe_str_of (by rfl) (C.str__BAR)) (pe_callTy call_str_int (by rfl) C.n_str (by decide +kernel) (pa_cons (pv 0) pa_nil)))))), read__price_text C.F h⟩), F.bindsN fun _ _ _ _ _ _ us hl => match us, hl with | [_], _ => rfl⟩, C.g__price_text, F.kp⟩
theorem ok_Yard_str (C : Ct K w mg) : GoodM P w K mg base 2 "Yard" "__str__" ["self"] (sp_Yard_str K) := by
  obtain ⟨fd, F⟩ := C.says.def_ 25 (d := d_Yard_str) rfl
  exact ⟨⟨fd, F.ok (k := 1) sc_Yard_str (fun vs H Q E h => sp1_len vs H Q E h) (fun cdv A outer s H vs Q E hr h => ⟨t_Yard_str K E, (have hu := hr.units; (pss_one (ps_ret (pe_joinU pe_str (pe_lc (own := [("row", 1)]) (g := (gName 1)) (tt := tYes) rfl sc_Yard_str.nd (pi_seq (pe_fld (pv 0) rfl)) (blkOk_by (N := n_Yard_str) (sc := defScope s_Yard_str) (by decide +kernel)) (fun _ _ _ _ _ => (pg_name (i := 1) sc_Yard_str.nd rfl (Or.inl rfl))) (fun _ _ _ _ _ => pts_nil) (fun _ _ _ _ _ => (pe_joinU pe_str (pe_lc (own := [("price", 2)]) (g := (gName 2)) (tt := tYes) rfl sc_Yard_str.nd (pi_seq (pv 1)) (blkOk_by (N := n_Yard_str) (sc := ({ kind := .function, names := [(".0", .local), ("row", .local)], isGenerator := false, isCoroutine := false } : Scope)) (by decide +kernel)) (fun _ _ _ _ _ => (pg_name (i := 2) sc_Yard_str.nd rfl (Or.inl rfl))) (fun _ _ _ _ _ => pts_nil) (fun _ _ _ _ _ => (pe_fo (ok__price_text C) (hr.mono (by decide)) (by rfl) passL (ha := (pa_cons (pv 2) pa_nil)))))))))))), read_Yard_str C.F h⟩), F.bindsN fun _ _ _ _ _ _ us hl => match us, hl with | [_], _ => rfl⟩, C.m_Yard_str, C.F.cl⟩
theorem ok__law_inner (C : Ct K w mg) : GoodO P w K mg base 1 "_law_inner" ["_law_thing_here"] (sp__law_inner K) := by
  obtain ⟨fd, F⟩ := C.says.def_ 41 (d := d__law_inner) rfl
  exact ⟨⟨fd, F.ok (k := 0) sc__law_inner (fun vs H Q E h => sp1_len vs H Q E h) (fun cdv A outer s H vs Q E hr h => ⟨t__law_inner K E, (have hu := hr.units; (pss_cons (ps_if (pt_val (pe_callB call_uIsiE (by rfl) C.n_isinstance (by decide +kernel) (pa_cons (pv 0) (pa_cons (pe_tup (pa_cons (pe_bltn (v := .ty "list") (by rfl) C.n_list (by decide +kernel) rfl) (pa_cons (pe_bltn (v := .ty "tuple") (by rfl) C.n_tuple (by decide +kernel) rfl) pa_nil))) pa_nil)))) (pss_one (ps_ret (pe_ix ix_u (pv 0) pe_int (fun _ _ => rfl)))) pss_nil) (pss_cons (ps_if (pt_val (pe_callB call_uIsiE (by rfl) C.n_isinstance (by decide +kernel) (pa_cons (pv 0) (pa_cons (pe_bltn (v := .ty "dict") (by rfl) C.n_dict (by decide +kernel) rfl) pa_nil)))) (pss_one (ps_ret (pe_ix ix_u (pe_dget (Nat.lt_of_le_of_lt (Nat.add_le_add_left (by decide) _) hu) (pv 0) pe_str (fun _ _ => rfl)) pe_int (fun _ _ => rfl)))) pss_nil) (pss_one (ps_ret (pe_ifExp (pt_val (pe_callB call_uIsiE (by rfl) C.n_isinstance (by decide +kernel) (pa_cons (pv 0) (pa_cons (pe_glob (by rfl) C.g_InvalidPlace rfl) pa_nil)))) (pe_ix ix_u (pe_xfE (pv 0)) pe_int (fun _ _ => rfl)) (pe_lst pa_nil))))))), read__law_inner C.F C.xg h⟩), F.bindsN fun _ _ _ _ _ _ us hl => match us, hl with | [_], _ => rfl⟩, C.g__law_inner, F.kp⟩
theorem ok__law_alike (C : Ct K w mg) : Good P w K mg base 5 "_law_alike" ["_law_one", "_law_thing_here"] (sp__law_alike K) := by
  obtain ⟨fd, F⟩ := C.says.def_ 42 (d := d__law_alike) rfl
  exact ⟨⟨fd, fnG_of (k := 4) F sc__law_alike (fun vs H Q E h => sp2_len vs H Q E h) (fun cdv A outer s H vs Q E hA hr h => ⟨t__law_alike K E, (have hu := hr.units; (pss_cons (ps_if (pt_val (pe_callB call_uIsiE (by rfl) C.n_isinstance (by decide +kernel) (pa_cons (pv 1) (pa_cons (pe_glob (by rfl) C.g_Yard rfl) pa_nil)))) (pss_one (ps_ret (pe_and (pe_callB call_uIsiE (by rfl) C.n_isinstance (by decide +kernel) (pa_cons (pv 0) (pa_cons (pe_glob (by rfl) C.g_Yard rfl) pa_nil))) (pe_one (pe_cmpR (op_uEq hu) (Exists.elim (ok_Yard_str C).fn fun _ z => pe_callTy (call_strO z.1 (ok_Yard_str (P := P) (base := base) C).mt.at_ (ok_Yard_str (P := P) (base := base) C).mt.fn z.2 (hr.mono (by decide)) (passes_call (takes_of rfl rfl rfl rfl) fun _ _ _ _ h => h)) (by rfl) C.n_str (by decide +kernel) (pa_cons (pv 0) pa_nil)) (Exists.elim (ok_Yard_str C).fn fun _ z => pe_callTy (call_strO z.1 (ok_Yard_str (P := P) (base := base) C).mt.at_ (ok_Yard_str (P := P) (base := base) C).mt.fn z.2 (hr.mono (by decide)) (passes_call (takes_of rfl rfl rfl rfl) fun _ _ _ _ h => h)) (by rfl) C.n_str (by decide +kernel) (pa_cons (pv 1) pa_nil)) (by rfl)))))) pss_nil) (pss_cons (ps_if (pt_val (pe_callB call_uIsiE (by rfl) C.n_isinstance (by decide +kernel) (pa_cons (pv 1) (pa_cons (pe_glob (by rfl) C.g_InvalidText rfl) pa_nil)))) (pss_one (ps_ret (pe_and (pe_callB call_uIsiE (by rfl) C.n_isinstance (by decide +kernel) (pa_cons (pv 0) (pa_cons (pe_glob (by rfl) C.g_InvalidText rfl) pa_nil))) (pe_one (pe_cmpR (op_uEq hu) (pe_xfE (pv 0)) (pe_xfE (pv 1)) (by rfl)))))) pss_nil) (pss_cons (ps_if (pt_not (pt_val (pe_callB call_uIsiE (by rfl) C.n_isinstance (by decide +kernel) (pa_cons (pv 1) (pa_cons (pe_tup (pa_cons (pe_bltn (v := .ty "list") (by rfl) C.n_list (by decide +kernel) rfl) (pa_cons (pe_bltn (v := .ty "tuple") (by rfl) C.n_tuple (by decide +kernel) rfl) (pa_cons (pe_bltn (v := .ty "dict") (by rfl) C.n_dict (by decide +kernel) rfl) (pa_cons (pe_glob (by rfl) C.g_InvalidPlace rfl) pa_nil))))) pa_nil))))) (pss_one (ps_ret (pe_cmpR (op_uEq hu) (pe_callB (call_uReprQ hA hu C.ks) (by rfl) C.n_repr (by decide +kernel) (pa_cons (pv 0) pa_nil)) (pe_callB (call_uReprQ hA hu C.ks) (by rfl) C.n_repr (by decide +kernel) (pa_cons (pv 1) pa_nil)) (by rfl)))) pss_nil) (pss_cons (ps_set (i := 2) sc__law_alike.nd rfl (Or.inl rfl) (pe_fo (ok__law_inner C) (hr.mono (by decide)) (by rfl) (passes_call (takes_of rfl rfl rfl rfl) fun _ _ _ _ h => h) (ha := (pa_cons (pv 1) pa_nil)))) (pss_cons (ps_expr (pe_bm PySem.F.plainAttrs_list PySem.F.slot_list_append PySem.F.type_list_append mt_append (pv 2) (pa_cons (pe_callB call_uLen (by rfl) C.n_len boot_len (pa_cons (pv 2) pa_nil)) pa_nil))) (pss_cons (ps_set (i := 3) sc__law_alike.nd rfl (Or.inl rfl) (pe_cmpR (op_uEq hu) (pe_callB call_uLen (by rfl) C.n_len boot_len (pa_cons (pe_fo (ok__law_inner C) (hr.mono (by decide)) (by rfl) (passes_call (takes_of rfl rfl rfl rfl) fun _ _ _ _ h => h) (ha := (pa_cons (pv 0) pa_nil))) pa_nil)) (pe_callB call_uLen (by rfl) C.n_len boot_len (pa_cons (pv 2) pa_nil)) (by rfl))) (pss_cons (ps_expr (pe_bm0 PySem.F.plainAttrs_list PySem.F.slot_list_pop PySem.F.type_list_pop mt_pop (pv 2))) (pss_cons (ps_if (pt_val (pe_callB call_uIsiE (by rfl) C.n_isinstance (by decide +kernel) (pa_cons (pv 1) (pa_cons (pe_bltn (v := .ty "dict") (by rfl) C.n_dict (by decide +kernel) rfl) pa_nil)))) (pss_cons (ps_asg pe_int (pg_sub (pv 1) pe_str (set_dict (Nat.lt_of_le_of_lt (Nat.add_le_add_left (by decide) _) hu)))) (pss_cons (ps_set (i := 3) sc__law_alike.nd rfl (Or.inl rfl) (pe_and (pv 3) (pe_one (pe_cmpR (op_dIn (Nat.lt_of_le_of_lt (Nat.add_le_add_left (by decide) _) hr.un)) pe_str (pv 0) (by rfl))))) (pss_one (ps_expr (pe_dpop1 (pv 1) pe_str ⟨rfl, rfl, rfl, rfl⟩))))) pss_nil) (pss_cons (ps_if (PW.pt (pw_or (pt_not (pt_truth (pv 3) (by intro _; rfl))) (pw_or1 (pt_not (pt_val (pe_callB call_uIsiE (by rfl) C.n_isinstance (by decide +kernel) (pa_cons (pv 1) (pa_cons (pe_bltn (v := .ty "list") (by rfl) C.n_list (by decide +kernel) rfl) pa_nil)))))))) (pss_one (ps_ret (pv 3))) pss_nil) (pss_cons (ps_expr (pe_bm PySem.F.plainAttrs_list PySem.F.slot_list_append PySem.F.type_list_append mt_append (pv 1) (pa_cons pe_int pa_nil))) (pss_cons (ps_set (i := 3) sc__law_alike.nd rfl (Or.inl rfl) (pe_cmpR (op_uEq hu) (pe_callB call_uLen (by rfl) C.n_len boot_len (pa_cons (pv 0) pa_nil)) (pe_callB call_uLen (by rfl) C.n_len boot_len (pa_cons (pv 1) pa_nil)) (by rfl))) (pss_cons (ps_expr (pe_bm0 PySem.F.plainAttrs_list PySem.F.slot_list_pop PySem.F.type_list_pop mt_pop (pv 1))) (pss_one (ps_ret (pv 3)))))))))))))))), read__law_alike C.F C.xg h⟩), F.bindsN fun _ _ _ _ _ _ us hl => match us, hl with | [_, _], _ => rfl⟩, C.g__law_alike, F.kp⟩
theorem ok__law_field (C : Ct K w mg) : GoodO P w K mg base 1 "_law_field" ["_law_e"] (sp__law_field K) := by
  obtain ⟨fd, F⟩ := C.says.def_ 39 (d := d__law_field) rfl
  exact ⟨⟨fd, F.ok (k := 0) sc__law_field (fun vs H Q E h => sp1_len vs H Q E h) (fun cdv A outer s H vs Q E hr h => ⟨t__law_field K E, (have hu := hr.units; (pss_cons (ps_if (pt_val (pe_callB call_uIsiE (by rfl) C.n_isinstance (by decide +kernel) (pa_cons (pv 0) (pa_cons (pe_glob (by rfl) C.g_NotAllowed rfl) pa_nil)))) (pss_one (ps_ret (pe_xfE (pv 0)))) pss_nil) (pss_cons (ps_if (pt_val (pe_callB call_uIsiE (by rfl) C.n_isinstance (by decide +kernel) (pa_cons (pv 0) (pa_cons (pe_glob (by rfl) C.g_TooMany rfl) pa_nil)))) (pss_one (ps_ret (pe_xfE (pv 0)))) pss_nil) (pss_one (ps_ret (pe_ifExp (pt_val (pe_callB call_uIsiE (by rfl) C.n_isinstance (by decide +kernel) (pa_cons (pv 0) (pa_cons (pe_glob (by rfl) C.g_NoWay rfl) pa_nil)))) (pe_xfE (pv 0)) (pe_xfE (pv 0)))))))), read__law_field C.F C.xg h⟩), F.bindsN fun _ _ _ _ _ _ us hl => match us, hl with | [_], _ => rfl⟩, C.g__law_field, F.kp⟩
theorem ok__law_kinds (C : Ct K w mg) : GoodO P w K mg base 1 "_law_kinds" ["_law_e"] (sp__law_kinds K) := by
  obtain ⟨fd, F⟩ := C.says.def_ 40 (d := d__law_kinds) rfl
  exact ⟨⟨fd, F.ok (k := 0) sc__law_kinds (fun vs H Q E h => sp1_len vs H Q E h) (fun cdv A outer s H vs Q E hr h => ⟨t__law_kinds K E, (have hu := hr.units; (pss_cons (ps_set (i := 1) sc__law_kinds.nd rfl (Or.inl rfl) (pe_lst (pa_cons (pe_callB call_uIsiE (by rfl) C.n_isinstance (by decide +kernel) (pa_cons (pv 0) (pa_cons (pe_glob (by rfl) C.g_InvalidYard rfl) pa_nil))) (pa_cons (pe_callB call_uIsiE (by rfl) C.n_isinstance (by decide +kernel) (pa_cons (pv 0) (pa_cons (pe_glob (by rfl) C.g_InvalidPrice rfl) pa_nil))) (pa_cons (pe_callB call_uIsiE (by rfl) C.n_isinstance (by decide +kernel) (pa_cons (pv 0) (pa_cons (pe_glob (by rfl) C.g_InvalidText rfl) pa_nil))) pa_nil))))) (pss_cons (ps_set (i := 1) sc__law_kinds.nd rfl (Or.inl rfl) (pe_op op_uAdd (pv 1) (pe_lst (pa_cons (pe_callB call_uIsiE (by rfl) C.n_isinstance (by decide +kernel) (pa_cons (pv 0) (pa_cons (pe_glob (by rfl) C.g_InvalidArrangement rfl) pa_nil))) (pa_cons (pe_callB call_uIsiE (by rfl) C.n_isinstance (by decide +kernel) (pa_cons (pv 0) (pa_cons (pe_glob (by rfl) C.g_InvalidPlace rfl) pa_nil))) pa_nil))))) (pss_cons (ps_set (i := 1) sc__law_kinds.nd rfl (Or.inl rfl) (pe_op op_uAdd (pv 1) (pe_lst (pa_cons (pe_callB call_uIsiE (by rfl) C.n_isinstance (by decide +kernel) (pa_cons (pv 0) (pa_cons (pe_glob (by rfl) C.g_InvalidWay rfl) pa_nil))) (pa_cons (pe_callB call_uIsiE (by rfl) C.n_isinstance (by decide +kernel) (pa_cons (pv 0) (pa_cons (pe_glob (by rfl) C.g_InvalidCrate rfl) pa_nil))) (pa_cons (pe_callB call_uIsiE (by rfl) C.n_isinstance (by decide +kernel) (pa_cons (pv 0) (pa_cons (pe_glob (by rfl) C.g_InvalidMove rfl) pa_nil))) pa_nil)))))) (pss_cons (ps_set (i := 1) sc__law_kinds.nd rfl (Or.inl rfl) (pe_op op_uAdd (pv 1) (pe_lst (pa_cons (pe_callB call_uIsiE (by rfl) C.n_isinstance (by decide +kernel) (pa_cons (pv 0) (pa_cons (pe_glob (by rfl) C.g_InvalidRow rfl) pa_nil))) (pa_cons (pe_callB call_uIsiE (by rfl) C.n_isinstance (by decide +kernel) (pa_cons (pv 0) (pa_cons (pe_glob (by rfl) C.g_InvalidCount rfl) pa_nil))) (pa_cons (pe_callB call_uIsiE (by rfl) C.n_isinstance (by decide +kernel) (pa_cons (pv 0) (pa_cons (pe_glob (by rfl) C.g_InvalidPattern rfl) pa_nil))) pa_nil)))))) (pss_cons (ps_set (i := 1) sc__law_kinds.nd rfl (Or.inl rfl) (pe_op op_uAdd (pv 1) (pe_lst (pa_cons (pe_callB call_uIsiE (by rfl) C.n_isinstance (by decide +kernel) (pa_cons (pv 0) (pa_cons (pe_glob (by rfl) C.g_InvalidPaper rfl) pa_nil))) (pa_cons (pe_callB call_uIsiE (by rfl) C.n_isinstance (by decide +kernel) (pa_cons (pv 0) (pa_cons (pe_glob (by rfl) C.g_InvalidLot rfl) pa_nil))) (pa_cons (pe_callB call_uIsiE (by rfl) C.n_isinstance (by decide +kernel) (pa_cons (pv 0) (pa_cons (pe_glob (by rfl) C.g_InvalidCosts rfl) pa_nil))) pa_nil)))))) (pss_cons (ps_set (i := 1) sc__law_kinds.nd rfl (Or.inl rfl) (pe_op op_uAdd (pv 1) (pe_lst (pa_cons (pe_callB call_uIsiE (by rfl) C.n_isinstance (by decide +kernel) (pa_cons (pv 0) (pa_cons (pe_glob (by rfl) C.g_InvalidLine rfl) pa_nil))) (pa_cons (pe_callB call_uIsiE (by rfl) C.n_isinstance (by decide +kernel) (pa_cons (pv 0) (pa_cons (pe_glob (by rfl) C.g_NotAllowed rfl) pa_nil))) (pa_cons (pe_callB call_uIsiE (by rfl) C.n_isinstance (by decide +kernel) (pa_cons (pv 0) (pa_cons (pe_glob (by rfl) C.g_TooMany rfl) pa_nil))) pa_nil)))))) (pss_cons (ps_set (i := 1) sc__law_kinds.nd rfl (Or.inl rfl) (pe_op op_uAdd (pv 1) (pe_lst (pa_cons (pe_callB call_uIsiE (by rfl) C.n_isinstance (by decide +kernel) (pa_cons (pv 0) (pa_cons (pe_glob (by rfl) C.g_NoWay rfl) pa_nil))) (pa_cons (pe_callB call_uIsiE (by rfl) C.n_isinstance (by decide +kernel) (pa_cons (pv 0) (pa_cons (pe_glob (by rfl) C.g_UnlikeYards rfl) pa_nil))) (pa_cons (pe_callB call_uIsiE (by rfl) C.n_isinstance (by decide +kernel) (pa_cons (pv 0) (pa_cons (pe_glob (by rfl) C.g_NoYard rfl) pa_nil))) pa_nil)))))) (pss_cons (ps_set (i := 1) sc__law_kinds.nd rfl (Or.inl rfl) (pe_op op_uAdd (pv 1) (pe_lst (pa_cons (pe_callB call_uIsiE (by rfl) C.n_isinstance (by decide +kernel) (pa_cons (pv 0) (pa_cons (pe_glob (by rfl) C.g_NothingToUndo rfl) pa_nil))) (pa_cons (pe_callB call_uIsiE (by rfl) C.n_isinstance (by decide +kernel) (pa_cons (pv 0) (pa_cons (pe_glob (by rfl) C.g_NothingToRedo rfl) pa_nil))) pa_nil))))) (pss_one (ps_ret (pv 1)))))))))))), read__law_kinds C.F C.xg h⟩), F.bindsN fun _ _ _ _ _ _ us hl => match us, hl with | [_], _ => rfl⟩, C.g__law_kinds, F.kp⟩
theorem ok__law_made (C : Ct K w mg) : GoodO P w K mg base 3 "_law_made" ["_law_thing_here"] (sp__law_made K) := by
  obtain ⟨fd, F⟩ := C.says.def_ 37 (d := d__law_made) rfl
  exact ⟨⟨fd, F.ok (k := 2) sc__law_made (fun vs H Q E h => sp1_len vs H Q E h) (fun cdv A outer s H vs Q E hr h => ⟨t__law_made K E, (have hu := hr.units; (pss_cons (ps_set (i := 1) sc__law_made.nd rfl (Or.inl rfl) (pe_lst (pa_cons (pe_mkX (okE_InvalidYard C) (hr.mono (by decide)) (by rfl) (ha := (pa_cons (pv 0) pa_nil))) (pa_cons (pe_mkX (okE_InvalidPrice C) (hr.mono (by decide)) (by rfl) (ha := (pa_cons (pv 0) pa_nil))) (pa_cons (pe_mkX (okE_InvalidText C) (hr.mono (by decide)) (by rfl) (ha := (pa_cons (pv 0) pa_nil))) (pa_cons (pe_mkX (okE_InvalidArrangement C) (hr.mono (by decide)) (by rfl) (ha := (pa_cons (pv 0) pa_nil))) pa_nil)))))) (pss_cons (ps_set (i := 1) sc__law_made.nd rfl (Or.inl rfl) (pe_op op_uAdd (pv 1) (pe_lst (pa_cons (pe_mkX (okE_InvalidPlace C) (hr.mono (by decide)) (by rfl) (ha := (pa_cons (pv 0) pa_nil))) (pa_cons (pe_mkX (okE_InvalidWay C) (hr.mono (by decide)) (by rfl) (ha := (pa_cons (pv 0) pa_nil))) (pa_cons (pe_mkX (okE_InvalidCrate C) (hr.mono (by decide)) (by rfl) (ha := (pa_cons (pv 0) pa_nil))) (pa_cons (pe_mkX (okE_InvalidMove C) (hr.mono (by decide)) (by rfl) (ha := (pa_cons (pv 0) pa_nil))) pa_nil))))))) (pss_cons (ps_set (i := 1) sc__law_made.nd rfl (Or.inl rfl) (pe_op op_uAdd (pv 1) (pe_lst (pa_cons (pe_mkX (okE_InvalidRow C) (hr.mono (by decide)) (by rfl) (ha := (pa_cons (pv 0) pa_nil))) (pa_cons (pe_mkX (okE_InvalidCount C) (hr.mono (by decide)) (by rfl) (ha := (pa_cons (pv 0) pa_nil))) (pa_cons (pe_mkX (okE_InvalidPattern C) (hr.mono (by decide)) (by rfl) (ha := (pa_cons (pv 0) pa_nil))) (pa_cons (pe_mkX (okE_InvalidPaper C) (hr.mono (by decide)) (by rfl) (ha := (pa_cons (pv 0) pa_nil))) pa_nil))))))) (pss_cons (ps_set (i := 1) sc__law_made.nd rfl (Or.inl rfl) (pe_op op_uAdd (pv 1) (pe_lst (pa_cons (pe_mkX (okE_InvalidLot C) (hr.mono (by decide)) (by rfl) (ha := (pa_cons (pv 0) pa_nil))) (pa_cons (pe_mkX (okE_InvalidCosts C) (hr.mono (by decide)) (by rfl) (ha := (pa_cons (pv 0) pa_nil))) (pa_cons (pe_mkX (okE_InvalidLine C) (hr.mono (by decide)) (by rfl) (ha := (pa_cons (pv 0) pa_nil))) (pa_cons (pe_mkX (okE_NotAllowed C) (hr.mono (by decide)) (by rfl) (ha := (pa_cons (pv 0) pa_nil))) pa_nil))))))) (pss_cons (ps_set (i := 1) sc__law_made.nd rfl (Or.inl rfl) (pe_op op_uAdd (pv 1) (pe_lst (pa_cons (pe_mkX (okE_TooMany C) (hr.mono (by decide)) (by rfl) (ha := (pa_cons (pv 0) pa_nil))) (pa_cons (pe_mkX (okE_NoWay C) (hr.mono (by decide)) (by rfl) (ha := (pa_cons (pv 0) (pa_cons pe_int pa_nil)))) (pa_cons (pe_mkX0 C.e0_UnlikeYards C.g_UnlikeYards C.k0_UnlikeYards (by rfl)) (pa_cons (pe_mkX0 C.e0_NoYard C.g_NoYard C.k0_NoYard (by rfl)) (pa_cons (pe_mkX0 C.e0_NothingToUndo C.g_NothingToUndo C.k0_NothingToUndo (by rfl)) pa_nil)))))))) (pss_cons (ps_set (i := 1) sc__law_made.nd rfl (Or.inl rfl) (pe_op op_uAdd (pv 1) (pe_lst (pa_cons (pe_mkX0 C.e0_NothingToRedo C.g_NothingToRedo C.k0_NothingToRedo (by rfl)) pa_nil)))) (pss_one (ps_ret (pv 1)))))))))), read__law_made C.F h⟩), F.bindsN fun _ _ _ _ _ _ us hl => match us, hl with | [_], _ => rfl⟩, C.g__law_made, F.kp⟩
theorem ok__law_named (C : Ct K w mg) : GoodO P w K mg base 3 "_law_named" ["_law_thing_here"] (sp__law_named K) := by
  obtain ⟨fd, F⟩ := C.says.def_ 38 (d := d__law_named) rfl
  exact ⟨⟨fd, F.ok (k := 2) sc__law_named (fun vs H Q E h => sp1_len vs H Q E h) (fun cdv A outer s H vs Q E hr h => ⟨t__law_named K E, (have hu := hr.units; (pss_cons (ps_set (i := 1) sc__law_named.nd rfl (Or.inl rfl) (pe_lst (pa_cons (pe_mkXK (ks := ["value"]) (okE_InvalidYard C) (okEK_InvalidYard_0 C) (hr.mono (by decide)) (by rfl) (pk_cons (pv 0) pk_nil)) (pa_cons (pe_mkXK (ks := ["value"]) (okE_InvalidPrice C) (okEK_InvalidPrice_0 C) (hr.mono (by decide)) (by rfl) (pk_cons (pv 0) pk_nil)) (pa_cons (pe_mkXK (ks := ["value"]) (okE_InvalidText C) (okEK_InvalidText_0 C) (hr.mono (by decide)) (by rfl) (pk_cons (pv 0) pk_nil)) pa_nil))))) (pss_cons (ps_set (i := 1) sc__law_named.nd rfl (Or.inl rfl) (pe_op op_uAdd (pv 1) (pe_lst (pa_cons (pe_mkXK (ks := ["value"]) (okE_InvalidArrangement C) (okEK_InvalidArrangement_0 C) (hr.mono (by decide)) (by rfl) (pk_cons (pv 0) pk_nil)) (pa_cons (pe_mkXK (ks := ["value"]) (okE_InvalidPlace C) (okEK_InvalidPlace_0 C) (hr.mono (by decide)) (by rfl) (pk_cons (pv 0) pk_nil)) (pa_cons (pe_mkXK (ks := ["value"]) (okE_InvalidWay C) (okEK_InvalidWay_0 C) (hr.mono (by decide)) (by rfl) (pk_cons (pv 0) pk_nil)) pa_nil)))))) (pss_cons (ps_set (i := 1) sc__law_named.nd rfl (Or.inl rfl) (pe_op op_uAdd (pv 1) (pe_lst (pa_cons (pe_mkXK (ks := ["value"]) (okE_InvalidCrate C) (okEK_InvalidCrate_0 C) (hr.mono (by decide)) (by rfl) (pk_cons (pv 0) pk_nil)) (pa_cons (pe_mkXK (ks := ["value"]) (okE_InvalidMove C) (okEK_InvalidMove_0 C) (hr.mono (by decide)) (by rfl) (pk_cons (pv 0) pk_nil)) (pa_cons (pe_mkXK (ks := ["value"]) (okE_InvalidRow C) (okEK_InvalidRow_0 C) (hr.mono (by decide)) (by rfl) (pk_cons (pv 0) pk_nil)) pa_nil)))))) (pss_cons (ps_set (i := 1) sc__law_named.nd rfl (Or.inl rfl) (pe_op op_uAdd (pv 1) (pe_lst (pa_cons (pe_mkXK (ks := ["value"]) (okE_InvalidCount C) (okEK_InvalidCount_0 C) (hr.mono (by decide)) (by rfl) (pk_cons (pv 0) pk_nil)) (pa_cons (pe_mkXK (ks := ["value"]) (okE_InvalidPattern C) (okEK_InvalidPattern_0 C) (hr.mono (by decide)) (by rfl) (pk_cons (pv 0) pk_nil)) (pa_cons (pe_mkXK (ks := ["value"]) (okE_InvalidPaper C) (okEK_InvalidPaper_0 C) (hr.mono (by decide)) (by rfl) (pk_cons (pv 0) pk_nil)) pa_nil)))))) (pss_cons (ps_set (i := 1) sc__law_named.nd rfl (Or.inl rfl) (pe_op op_uAdd (pv 1) (pe_lst (pa_cons (pe_mkXK (ks := ["value"]) (okE_InvalidLot C) (okEK_InvalidLot_0 C) (hr.mono (by decide)) (by rfl) (pk_cons (pv 0) pk_nil)) (pa_cons (pe_mkXK (ks := ["value"]) (okE_InvalidCosts C) (okEK_InvalidCosts_0 C) (hr.mono (by decide)) (by rfl) (pk_cons (pv 0) pk_nil)) (pa_cons (pe_mkXK (ks := ["value"]) (okE_InvalidLine C) (okEK_InvalidLine_0 C) (hr.mono (by decide)) (by rfl) (pk_cons (pv 0) pk_nil)) pa_nil)))))) (pss_cons (ps_set (i := 1) sc__law_named.nd rfl (Or.inl rfl) (pe_op op_uAdd (pv 1) (pe_lst (pa_cons (pe_mkXK (ks := ["index"]) (okE_NotAllowed C) (okEK_NotAllowed_0 C) (hr.mono (by decide)) (by rfl) (pk_cons (pv 0) pk_nil)) (pa_cons (pe_mkXK (ks := ["count"]) (okE_TooMany C) (okEK_TooMany_0 C) (hr.mono (by decide)) (by rfl) (pk_cons (pv 0) pk_nil)) (pa_cons (pe_mkXK (ks := ["goal", "start"]) (okE_NoWay C) (okEK_NoWay_1_0 C) (hr.mono (by decide)) (by rfl) (pk_cons pe_int (pk_cons (pv 0) pk_nil))) pa_nil)))))) (pss_one (ps_ret (pv 1)))))))))), read__law_named C.F h⟩), F.bindsN fun _ _ _ _ _ _ us hl => match us, hl with | [_], _ => rfl⟩, C.g__law_named, F.kp⟩
theorem ok__law_right (C : Ct K w mg) : Good P w K mg base 6 "_law_right" ["_law_thing_here"] (sp__law_right K) := by
  obtain ⟨fd, F⟩ := C.says.def_ 43 (d := d__law_right) rfl
  exact ⟨⟨fd, fnG_of (k := 5) F sc__law_right (fun vs H Q E h => sp1_len vs H Q E h) (fun cdv A outer s H vs Q E hA hr h => ⟨t__law_right K E, (have hu := hr.units; (pss_cons (ps_set (i := 1) sc__law_right.nd rfl (Or.inl rfl) (pe_fo (ok__law_made C) (hr.mono (by decide)) (by rfl) (passes_call (takes_of rfl rfl rfl rfl) fun _ _ _ _ h => h) (ha := (pa_cons (pv 0) pa_nil)))) (pss_cons (ps_for (passes_of rfl) rfl (pi_enumU (by rfl) C.n_enumerate (pa_cons (pv 1) pa_nil)) (pg_tup (by rfl) (pgs_cons (pg_name (i := 2) sc__law_right.nd rfl (Or.inr rfl)) (pgs_cons (pg_name (i := 3) sc__law_right.nd rfl (Or.inl rfl)) pgs_nil))) (pss_cons (ps_setLc (i := 4) (own := [("_law_other", 7)]) (g := (gName 7)) (tt := tYes) rfl sc__law_right.nd rfl rfl (by exact sw_true rfl rfl rfl (by decide +kernel)) (pi_range1 (by rfl) C.n_range (pa_cons (pe_callB call_uLen (by rfl) C.n_len boot_len (pa_cons (pv 1) pa_nil)) pa_nil)) (blkOk_by (N := n__law_right) (sc := defScope s__law_right) (by decide +kernel)) (fun _ _ _ _ _ => (pg_name (i := 7) sc__law_right.nd rfl (Or.inl rfl))) (fun _ _ _ _ _ => pts_nil) (fun _ _ _ _ _ => (pe_cmpR (op_uEq hu) (pv 2) (pv 7) (by rfl)))) (pss_one (ps_if (PW.pt (pw_or (pt_cmpR (op_uNe hu) (pe_fo (ok__law_kinds C) (hr.mono (by decide)) (by rfl) (passes_call (takes_of rfl rfl rfl rfl) fun _ _ _ _ h => h) (ha := (pa_cons (pv 3) pa_nil))) (pv 4) (by rfl)) (pw_or (pt_not (pt_val (pe_callB call_uIsiE (by rfl) C.n_isinstance (by decide +kernel) (pa_cons (pv 3) (pa_cons (pe_glob (by rfl) C.g_CratesError rfl) pa_nil))))) (pw_or1 (pt_not (pt_val (pe_callB call_uIsiE (by rfl) C.n_isinstance (by decide +kernel) (pa_cons (pv 3) (pa_cons (pe_bltn (v := .ty "ValueError") (by rfl) C.n_ValueError (by decide +kernel) rfl) pa_nil))))))))) (pss_one (ps_ret pe_bl)) pss_nil)))) (pss_cons (ps_set (i := 5) sc__law_right.nd rfl (Or.inl rfl) (pe_slice sl_u (pv 1) po_none (po_some pe_int))) (pss_cons (ps_for (passes_of rfl) rfl (pi_zipU (by rfl) C.n_zip (pa_cons (pv 5) (pa_cons (pe_fo (ok__law_named C) (hr.mono (by decide)) (by rfl) (passes_call (takes_of rfl rfl rfl rfl) fun _ _ _ _ h => h) (ha := (pa_cons (pv 0) pa_nil))) pa_nil))) (pg_tup (by rfl) (pgs_cons (pg_name (i := 3) sc__law_right.nd rfl (Or.inl rfl)) (pgs_cons (pg_name (i := 6) sc__law_right.nd rfl (Or.inl rfl)) pgs_nil))) (pss_cons (ps_if (PW.pt (pw_or (pt_not (pt_val (pe_fn (ok__law_alike C) hA (hr.mono (by decide)) (by rfl) (passes_call (takes_of rfl rfl rfl rfl) fun _ _ _ _ h => h) (ha := (pa_cons (pe_fo (ok__law_field C) (hr.mono (by decide)) (by rfl) (passes_call (takes_of rfl rfl rfl rfl) fun _ _ _ _ h => h) (ha := (pa_cons (pv 3) pa_nil))) (pa_cons (pv 0) pa_nil)))))) (pw_or1 (pt_not (pt_val (pe_fn (ok__law_alike C) hA (hr.mono (by decide)) (by rfl) (passes_call (takes_of rfl rfl rfl rfl) fun _ _ _ _ h => h) (ha := (pa_cons (pe_fo (ok__law_field C) (hr.mono (by decide)) (by rfl) (passes_call (takes_of rfl rfl rfl rfl) fun _ _ _ _ h => h) (ha := (pa_cons (pv 6) pa_nil))) (pa_cons (pv 0) pa_nil))))))))) (pss_one (ps_ret pe_bl)) pss_nil) (pss_one (ps_if (pt_cmpR (op_uNe hu) (pe_fo (ok__law_kinds C) (hr.mono (by decide)) (by rfl) (passes_call (takes_of rfl rfl rfl rfl) fun _ _ _ _ h => h) (ha := (pa_cons (pv 3) pa_nil))) (pe_fo (ok__law_kinds C) (hr.mono (by decide)) (by rfl) (passes_call (takes_of rfl rfl rfl rfl) fun _ _ _ _ h => h) (ha := (pa_cons (pv 6) pa_nil))) (by rfl)) (pss_one (ps_ret pe_bl)) pss_nil)))) (pss_cons (ps_if (pt_cmpR (op_uNe hu) (pe_lst (pa_cons (pe_xfE (pe_ix ix_u (pv 5) (pe_un un_neg pe_int) (fun _ _ => rfl))) (pa_cons (pe_xfE (pe_ix ix_u (pe_fo (ok__law_named C) (hr.mono (by decide)) (by rfl) (passes_call (takes_of rfl rfl rfl rfl) fun _ _ _ _ h => h) (ha := (pa_cons (pv 0) pa_nil))) (pe_un un_neg pe_int) (fun _ _ => rfl))) pa_nil))) (pe_lst (pa_cons pe_int (pa_cons pe_int pa_nil))) (by rfl)) (pss_one (ps_ret pe_bl)) pss_nil) (pss_one (ps_ret (pe_and (pe_fn (ok__law_alike C) hA (hr.mono (by decide)) (by rfl) (passes_call (takes_of rfl rfl rfl rfl) fun _ _ _ _ h => h) (ha := (pa_cons (pe_xfE (pe_mkX (okE_NoWay C) (hr.mono (by decide)) (by rfl) (ha := (pa_cons pe_int (pa_cons (pv 0) pa_nil))))) (pa_cons (pv 0) pa_nil)))) (pe_one (pe_cmpR (op_uEq hu) (pe_xfE (pe_mkXK (ks := ["goal", "start"]) (okE_NoWay C) (okEK_NoWay_1_0 C) (hr.mono (by decide)) (by rfl) (pk_cons (pv 0) (pk_cons pe_int pk_nil)))) pe_int (by rfl)))))))))))), read__law_right C.F C.xg h⟩), F.bindsN fun _ _ _ _ _ _ us hl => match us, hl with | [_], _ => rfl⟩, C.g__law_right, F.kp⟩
theorem ok__law_take (C : Ct K w mg) : GoodO P w K mg base 1 "_law_take" ["_law_bag_here", "_law_limit"] (sp__law_take K) := by
  obtain ⟨fd, F⟩ := C.says.def_ 35 (d := d__law_take) rfl
  exact ⟨⟨fd, F.ok (k := 0) sc__law_take (fun vs H Q E h => sp2_len vs H Q E h) (fun cdv A outer s H vs Q E hr h => ⟨t__law_take K E, (have hu := hr.units; (pss_cons (ps_if (pt_cmpR op_uGt (pe_ix ix_u (pv 0) pe_int (fun _ _ => rfl)) pe_int (by rfl)) (pss_cons (ps_set (i := 2) sc__law_take.nd rfl (Or.inl rfl) (pe_op op_uMod (pe_callTy call_int1 (by rfl) C.n_int (by decide +kernel) (pa_cons (pe_ix ix_u (pv 0) pe_int (fun _ _ => rfl)) pa_nil)) (pv 1))) (pss_cons (ps_asg (pe_op op_uDiv (pe_ix ix_u (pv 0) pe_int (fun _ _ => rfl)) (pv 1)) (pg_sub (pv 0) pe_int set_list)) (pss_one (ps_ret (pv 2))))) pss_nil) (pss_cons (ps_asg (pe_op op_uAdd (pe_ix ix_u (pv 0) pe_int (fun _ _ => rfl)) pe_int) (pg_sub (pv 0) pe_int set_list)) (pss_cons (ps_set (i := 3) sc__law_take.nd rfl (Or.inl rfl) (pe_op op_uMod (pe_op op_uPow (pe_callTy call_int1 (by rfl) C.n_int (by decide +kernel) (pa_cons (pe_op op_uAdd (pe_op op_uAdd (pe_ix ix_u (pv 0) pe_int (fun _ _ => rfl)) (pe_op op_uMul pe_int (pe_ix ix_u (pv 0) pe_int (fun _ _ => rfl)))) pe_int) pa_nil)) pe_int) pe_int)) (pss_cons (ps_set (i := 3) sc__law_take.nd rfl (Or.inl rfl) (pe_op op_uMod (pe_op op_uPow (pe_callTy call_int1 (by rfl) C.n_int (by decide +kernel) (pa_cons (pe_op op_uAdd (pv 3) (pe_op op_uMul pe_int (pe_ix ix_u (pv 0) pe_int (fun _ _ => rfl)))) pa_nil)) pe_int) pe_int)) (pss_one (ps_ret (pe_op op_uMod (pe_callTy call_int1 (by rfl) C.n_int (by decide +kernel) (pa_cons (pe_op op_uDiv (pv 3) pe_int) pa_nil)) (pv 1))))))))), read__law_take C.F h⟩), F.bindsN fun _ _ _ _ _ _ us hl => match us, hl with | [_, _], _ => rfl⟩, C.g__law_take, F.kp⟩
theorem ok__law_thing (C : Ct K w mg) : GoodO P w K mg base 8 "_law_thing" ["_law_bag_here"] (sp__law_thing K) := by
  obtain ⟨fd, F⟩ := C.says.def_ 36 (d := d__law_thing) rfl
  exact ⟨⟨fd, F.ok (k := 7) sc__law_thing (fun vs H Q E h => sp1_len vs H Q E h) (fun cdv A outer s H vs Q E hr h => ⟨t__law_thing K E, (have hu := hr.units; (pss_cons (ps_set (i := 1) sc__law_thing.nd rfl (Or.inl rfl) (pe_fo (ok__law_take C) (hr.mono (by decide)) (by rfl) (passes_call (takes_of rfl rfl rfl rfl) fun _ _ _ _ h => h) (ha := (pa_cons (pv 0) (pa_cons (pe_op op_uPow pe_int pe_int) pa_nil))))) (pss_cons (ps_set (i := 2) sc__law_thing.nd rfl (Or.inl rfl) (pe_lst (pa_cons pe_non (pa_cons pe_bl (pa_cons pe_bl (pa_cons (pv 1) (pa_cons (pe_op op_uSub pe_int (pv 1)) (pa_cons (pe_op op_uMul pe_str (pe_op op_uMod (pv 1) pe_int)) (pa_cons (pe_cm' (ok_Yard_even C) (pe_glob (by rfl) C.g_Yard rfl) (hr.mono (by decide)) (passes_call (takes_of rfl rfl rfl rfl) fun _ _ _ _ h => h) (ha := (pa_cons pe_int (pa_cons (pe_op op_uAdd pe_int (pv 1)) pa_nil)))) (pa_cons (pe_mkX (okE_InvalidText C) (hr.mono (by decide)) (by rfl) (ha := (pa_cons (pv 1) pa_nil))) pa_nil)))))))))) (pss_cons (ps_set (i := 3) sc__law_thing.nd rfl (Or.inl rfl) (pe_lst (pa_cons (pe_ix ix_u (pv 2) (pe_fo (ok__law_take C) (hr.mono (by decide)) (by rfl) (passes_call (takes_of rfl rfl rfl rfl) fun _ _ _ _ h => h) (ha := (pa_cons (pv 0) (pa_cons pe_int pa_nil)))) (fun _ _ => rfl)) (pa_cons (pe_lst (pa_cons pe_int pa_nil)) pa_nil)))) (pss_cons (ps_set (i := 4) sc__law_thing.nd rfl (Or.inl rfl) (pe_lst (pa_cons (pv 3) (pa_cons (pe_callTy (call_uTup rfl) (by rfl) C.n_tuple (by decide +kernel) (pa_cons (pv 3) pa_nil)) (pa_cons (pe_disp (pps_cons pe_str (pv 3) pps_nil) rfl rfl (by simp) (by simp)) (pa_cons (pe_disp (pps_cons pe_int pe_str (pps_cons pe_str (pv 3) pps_nil)) rfl rfl (by simp) (by simp)) (pa_cons (pe_mkX (okE_InvalidPlace C) (hr.mono (by decide)) (by rfl) (ha := (pa_cons (pe_lst (pa_cons (pv 1) (pa_cons (pe_lst (pa_cons pe_int pa_nil)) pa_nil))) pa_nil))) pa_nil))))))) (pss_one (ps_ret (pe_ix ix_u (pe_op op_uAdd (pv 2) (pv 4)) (pe_fo (ok__law_take C) (hr.mono (by decide)) (by rfl) (passes_call (takes_of rfl rfl rfl rfl) fun _ _ _ _ h => h) (ha := (pa_cons (pv 0) (pa_cons pe_int pa_nil)))) (fun _ _ => rfl))))))))), read__law_thing C.F h⟩), F.bindsN fun _ _ _ _ _ _ us hl => match us, hl with | [_], _ => rfl⟩, C.g__law_thing, F.kp⟩
theorem okF_law (C : Ct K w mg) {fd : FuncData} (F : FunD K d_law.name d_law.qual d_law.params d_law.body d_law.scope (d_law.dvs K) (d_law.kws K) (d_law.at_ K) fd) : FnG P w K mg base 9 (He.ga K "law") fd ["_law_script"] (sp_law0 K) :=
  fnG_of (k := 8) F sc_law (fun vs H Q E h => sp1_len vs H Q E h) (fun cdv A outer s H vs Q E hA hr h => ⟨t_law K E, (have hu := hr.units; (pss_cons (ps_for (passes_of rfl) rfl (pi_range1 (by rfl) C.n_range (pa_cons (pe_callB (call_max2 rfl) (by rfl) C.n_max (by decide +kernel) (pa_cons pe_int (pa_cons (pe_callB (call_min2 rfl) (by rfl) C.n_min (by decide +kernel) (pa_cons pe_int (pa_cons (pe_callB call_uLen (by rfl) C.n_len boot_len (pa_cons (pv 0) pa_nil)) pa_nil))) pa_nil))) pa_nil)) (pg_name (i := 1) sc_law.nd rfl (Or.inl rfl)) (pss_one (ps_if (pt_not (pt_val (pe_fn (ok__law_right C) hA (hr.mono (by decide)) (by rfl) (passes_call (takes_of rfl rfl rfl rfl) fun _ _ _ _ h => h) (ha := (pa_cons (pe_fo (ok__law_thing C) (hr.mono (by decide)) (by rfl) (passes_call (takes_of rfl rfl rfl rfl) fun _ _ _ _ h => h) (ha := (pa_cons (pe_fo (ok__law_bag C) (hr.mono (by decide)) (by rfl) (passes_call (takes_of rfl rfl rfl rfl) fun _ _ _ _ h => h) (ha := (pa_cons (pe_fo (ok__law_cell C) (hr.mono (by decide)) (by rfl) (passes_call (takes_of rfl rfl rfl rfl) fun _ _ _ _ h => h) (ha := (pa_cons (pv 0) (pa_cons (pv 1) pa_nil)))) pa_nil))) pa_nil))) pa_nil))))) (pss_one (ps_ret pe_bl)) pss_nil))) (pss_cons (ps_setLc (i := 2) (own := [("_law_kind", 3)]) (g := (gName 3)) (tt := tYes) rfl sc_law.nd rfl rfl (by exact sw_true rfl rfl rfl (by decide +kernel)) (pi_range1 (by rfl) C.n_range (pa_cons pe_int pa_nil)) (blkOk_by (N := n_law) (sc := defScope s_law) (by decide +kernel)) (fun _ _ _ _ _ => (pg_name (i := 3) sc_law.nd rfl (Or.inl rfl))) (fun _ _ _ _ _ => pts_nil) (fun _ _ _ _ _ => (pe_fo (ok__law_raised C) (hr.mono (by decide)) (by rfl) passL (ha := (pa_cons (pv 3) pa_nil))))) (pss_one (ps_ret (pe_cmpR (op_uEq hu) (pv 2) (pe_lst (pa_cons (pe_lst (pa_cons pe_str (pa_cons pe_bl pa_nil))) (pa_cons (pe_lst (pa_cons pe_str (pa_cons pe_bl pa_nil))) (pa_cons (pe_lst (pa_cons pe_str (pa_cons pe_str pa_nil))) pa_nil)))) (by rfl))))))), read_law C.F h⟩)
end
end U
open PySem PySem.W PySem.Calls PyProof.Rows
theorem PySem.Challenge.cw_cratetowers_k01_exceptions_holds : PySem.Challenge.rw_cratetowers_k01_exceptions.Holds := by
  w_on; o_law
  refine HandSHeadRun.head_any (r := OpenLaw.row PySem.Challenge.rw_cratetowers_k01_exceptions) (q := view (OpenLaw.row PySem.Challenge.rw_cratetowers_k01_exceptions).prog [59]) (H := U.hk) (ob := U.ob) (M := 20000) (loose := U.loose) (d := HandSHeadRun.topDef (OpenLaw.row PySem.Challenge.rw_cratetowers_k01_exceptions).prog 59) (kwd := []) U.ob_eq
    (by kernel_rfl) (fun s => by kernel_rfl) U.run (by kernel_rfl) (by kernel_rfl) (by kernel_rfl) (by rfl) (by first | assumption | decide +kernel) (by decide +kernel) ⟨rfl, rfl, rfl, rfl, rfl, by decide +kernel⟩ ?hw ?hc
  case hw => w_witness2
  case hc =>
    refine U.walk_G (l := PySem.Challenge.rw_cratetowers_k01_exceptions) (n := 63) (k := 9) (x := "_law_script") ⟨rfl, by decide, by decide⟩ rfl (by decide) (by kernel_rfl) ?F
    intro w mg fa h hmg0 Y G
    obtain ⟨K, KX, c, e⟩ := Y
    have hmg : mg ("law" : PySem.Str) = some (.ref fa) := by
      have e : (HandSHeadRun.topDef (OpenLaw.row PySem.Challenge.rw_cratetowers_k01_exceptions).prog 59).name = ("law" : PySem.Str) := by kernel_rfl
      rw [← e]
      exact hmg0
    have C := U.ct_of KX G c e
    have e2 := hmg.symm.trans C.g_law
    cases e2
    obtain ⟨fd, F⟩ := c.1.def_ 45 (d := U.d_law) rfl
    have b := L2.FunD.bindsA (ps := ["_law_script"]) F fun _ _ _ _ _ _ us hl => match us, hl with | [_], _ => rfl
    exact ⟨K, U.sp_law0 K, fd, fun s v => b s [v] rfl, KX, fun base _ _ => U.okF_law C F, fun H a ns hl _ hS => ⟨a, ns, rfl, hS, fun _ => rfl⟩⟩

