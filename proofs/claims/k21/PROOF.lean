import PyProof.Rows.All
import Wide.All
import OpenK.AllK
import Wide.FinOn
import KE.KStateDown
import Lean
import HandS.ForMost
import HandS.WordsExc
import HandS.Exc
import HandS.ExcInit
import HandS.IsInst
import HandS.Defaults
import HandS.Wide
import HandS.Style
import HandS.Strs
import HandS.More
import HandS.RaiseMore
import HandS.Flow
import HandS.HeadHook2
import HandS.HeadEnd
import HandS.EndBits
import HandS.StrMore
import PyProof.ReprRoads
import PyProof.Draws
import PyProof.EnumMake
import PyProof.ListStr
import PyProof.TupleOfStr
import HandS.Conv
import PyProof.Rows.StrRev
import HandS.HeadHook3
import PyProof.Rows.StrLast
import Wide.Txt
import KE.GoesMore
import HandS.DictComp
import HandS.Sort
import HandS.SortInts
import HandS.Small
import HandS.Deep
import KE.KDictSum
import KE.KDictList
import HandS.Zip
import PyProof.StrWalks
import HandS.TryMany
import HandS.ExcField
import HandS.ExcIs
import KE.KTryMore
import KE.KIsAll
import HandS.ExcOwn
import HandS.ClsMeth
import HandS.HeadNt
import PyProof.ReprLen
import HandS.CallLocal
import HandS.OwnEq
import KE.KCallOwn
import KE.KEqDeep
import PyProof.Rows.ReprShort
import KE.KDictZip
import KE.DataMinMax
import KE.KRevSl
import HandS.SortKw
import HandS.WideBits
import HandS.Head0
import HandS.Head1
import HandS.Head2
import HandS.TupAny
import KE.IntTextLaws
import PyProof.StrLawsRepr
import KE.GoesZip
import KE.KEqNest
import KE.DatumOrd
import PyProof.NeKinds
import HandS.WordsDict
import HandS.Finally
import KE.KEqDict
import HandS.ListItems
import PySem.Challenge.RW_cratetowers_k21_papers_of_yards
set_option Elab.async false
set_option linter.all false
set_option maxRecDepth 100000
set_option maxHeartbeats 0
namespace U
open PySem PySem.Spec PyProof.Rows L2

/-! ### operators on values, by the values' kinds -/
section
variable {X : Cx}
def uAdd : R2 := fun x y H Q => match x, y with
  | .int i, .int j => Q (.int (i + j)) H
  | .str i, .str j => i.length + j.length ≤ sizeLine ∧ Q (.str (i ++ j)) H
  | .ref a, .ref b => rCat (.ref a) (.ref b) H Q
  | _, _ => False
theorem op_uAdd : OpR X (binaryOp .Add) uAdd := by
  intro pins s σ H x y u v Q I rx ry h
  cases x <;> cases y <;> first
    | exact (show False from h).elim
    | exact op_add pins s σ H _ _ u v Q I rx ry ⟨_, _, rfl, rfl, h⟩
    | exact op_add_str pins s σ H _ _ u v Q I rx ry ⟨_, _, rfl, rfl, h⟩
    | exact op_cat pins s σ H _ _ u v Q I rx ry h
def uSub : R2 := fun x y H Q => match x, y with
  | .int i, .int j => Q (.int (i - j)) H
  | _, _ => False
theorem op_uSub : OpR X (binaryOp .Sub) uSub := by
  intro pins s σ H x y u v Q I rx ry h
  cases x <;> cases y <;> first
    | exact (show False from h).elim
    | exact op_sub pins s σ H _ _ u v Q I rx ry ⟨_, _, rfl, rfl, h⟩
/-- a text, so many times -/
def rMulS : R2 := fun x y H Q => ∃ z n, x = .str z ∧ y = .int n ∧ 0 ≤ n ∧ n ≤ 1000 ∧ z.length ≤ 10000 ∧ Q (.str (Txt.mul z n)) H
theorem op_mulS : OpR X (binaryOp .Mult) rMulS := by
  intro ps s σ H x y v u R I rx ry h
  obtain ⟨z, n, rfl, rfl, h0, h1, h2, q⟩ := h
  obtain ⟨t, rfl⟩ := rx
  obtain ⟨t', rfl⟩ := ry
  refine SB.mul ⟨?_, ?_, ?_⟩ fun t' k => ⟨.str _, H, I.tok _, ⟨_, rfl⟩, q⟩
  · have e1 : ¬ n < -(2 ^ 63 : Int) := by omega
    have e2 : ¬ n ≥ 2 ^ 63 := by omega
    rw [decide_eq_false e1, decide_eq_false e2] <;> rfl
  · intro k1 _ k2
    have e : (z.length : Int) * n ≤ 10000 * 1000 := Int.mul_le_mul (by omega) h1 h0 (by omega)
    have e3 : (z.length : Int) ≤ (2 ^ 63 - 1) / n := Int.le_ediv_of_mul_le (by omega) (by omega)
    omega
  · intro _ _
    have e : z.length * n.toNat ≤ 10000 * 1000 := Nat.mul_le_mul h2 (by omega)
    have hs := sizeLine_eq
    show decide (_ > sizeLine) = false
    exact decide_eq_false (Nat.not_lt.mpr (by omega))
def uMul : R2 := fun x y H Q => match x, y with
  | .int i, .int j => CMul i j ∧ Q (.int (i * j)) H
  | .str z, .int n => 0 ≤ n ∧ n ≤ 1000 ∧ z.length ≤ 10000 ∧ Q (.str (Txt.mul z n)) H
  | .ref a, .int n => rRep (.ref a) (.int n) H Q
  | _, _ => False
theorem op_uMul : OpR X (binaryOp .Mult) uMul := by
  intro pins s σ H x y u v Q I rx ry h
  cases x <;> cases y <;> first
    | exact (show False from h).elim
    | exact op_mul pins s σ H _ _ u v Q I rx ry ⟨_, _, rfl, rfl, h⟩
    | exact op_mulS pins s σ H _ _ u v Q I rx ry ⟨_, _, rfl, rfl, h⟩
    | exact op_rep pins s σ H _ _ u v Q I rx ry h
def uDiv : R2 := fun x y H Q => match x, y with
  | .int i, .int j => CDivW i j ∧ Q (.int (i / j)) H
  | _, _ => False
theorem op_uDiv : OpR X (binaryOp .FloorDiv) uDiv := by
  intro pins s σ H x y u v Q I rx ry h
  cases x <;> cases y <;> first
    | exact (show False from h).elim
    | exact op_fdivW pins s σ H _ _ u v Q I rx ry ⟨_, _, rfl, rfl, h⟩
def uMod : R2 := fun x y H Q => match x, y with
  | .int i, .int j => 0 < j ∧ Q (.int (i % j)) H
  | _, _ => False
theorem op_uMod : OpR X (binaryOp .Mod) uMod := by
  intro pins s σ H x y u v Q I rx ry h
  cases x <;> cases y <;> first
    | exact (show False from h).elim
    | exact op_mod pins s σ H _ _ u v Q I rx ry ⟨_, _, rfl, rfl, h⟩
def uPow : R2 := fun x y H Q => match x, y with
  | .int i, .int j => CPow i j ∧ Q (.int (i ^ j.toNat)) H
  | _, _ => False
theorem op_uPow : OpR X (binaryOp .Pow) uPow := by
  intro pins s σ H x y u v Q I rx ry h
  cases x <;> cases y <;> first
    | exact (show False from h).elim
    | exact op_pow pins s σ H _ _ u v Q I rx ry ⟨_, _, rfl, rfl, h⟩
/-! comparisons -/
def uEq (K : PySem.W.Frag) : R2 := fun x y H Q => match x, y with
  | .ref a, y => rEqD K (.ref a) y H Q
  | .int i, .int j => Q (.bl (decide (i = j))) H
  | .str i, .str j => Q (.bl (decide (i = j))) H
  | .non, y => rEq .non y H Q
  | .bl b, y => rEq (.bl b) y H Q
  | .int i, .non => Q (.bl false) H
  | .str i, .non => Q (.bl false) H
  | _, _ => False
theorem op_uEq (hu : X.A.units + 64 < cLine) : OpR X (compareOp .Eq) (uEq X.K) := by
  intro pins s σ H x y u v Q I rx ry h
  cases x <;> cases y <;> first
    | exact (show False from h).elim
    | exact op_eqD hu pins s σ H _ _ u v Q I rx ry h
    | exact op_eq pins s σ H _ _ u v Q I rx ry h
    | exact op_eq pins s σ H _ _ u v Q I rx ry ⟨rfl, by simpa [uEq] using h⟩
def uNe (K : PySem.W.Frag) : R2 := fun x y H Q => match x, y with
  | .ref a, y => rNeD K (.ref a) y H Q
  | .int i, .int j => Q (.bl (!decide (i = j))) H
  | .str i, .str j => Q (.bl (!decide (i = j))) H
  | .non, y => rNe .non y H Q
  | .bl b, y => rNe (.bl b) y H Q
  | .int i, .non => Q (.bl true) H
  | .str i, .non => Q (.bl true) H
  | _, _ => False
theorem op_uNe (hu : X.A.units + 64 < cLine) : OpR X (compareOp .NotEq) (uNe X.K) := by
  intro pins s σ H x y u v Q I rx ry h
  cases x <;> cases y <;> first
    | exact (show False from h).elim
    | exact op_neD hu pins s σ H _ _ u v Q I rx ry h
    | exact op_ne pins s σ H _ _ u v Q I rx ry h
    | exact op_ne pins s σ H _ _ u v Q I rx ry ⟨rfl, by simpa [uNe] using h⟩
def uCmp (p : Int → Int → Bool) : R2 := fun x y H Q => match x, y with
  | .int i, .int j => Q (.bl (p i j)) H
  | _, _ => False
theorem uCmp_of {f : Value → Value → Sem Value} {p : Int → Int → Bool} (h : OpR X f (rI0 fun i j => .bl (p i j))) : OpR X f (uCmp p) := by
  intro pins s σ H x y u v Q I rx ry q
  cases x <;> cases y <;> first
    | exact (show False from q).elim
    | exact h pins s σ H _ _ u v Q I rx ry ⟨_, _, rfl, rfl, q⟩
abbrev uLt : R2 := uCmp fun i j => decide (i < j)
abbrev uLe : R2 := uCmp fun i j => decide (i ≤ j)
abbrev uGt : R2 := uCmp fun i j => decide (j < i)
abbrev uGe : R2 := uCmp fun i j => decide (j ≤ i)
theorem op_uLt : OpR X (compareOp .Lt) uLt := uCmp_of op_lt
theorem op_uLe : OpR X (compareOp .LtE) uLe := uCmp_of op_le
theorem op_uGt : OpR X (compareOp .Gt) uGt := uCmp_of op_gt
theorem op_uGe : OpR X (compareOp .GtE) uGe := uCmp_of op_ge
def uIs : R2 := fun x y H Q => match y with
  | .non => Q (.bl (decide (x = .non))) H
  | .bl b => (match x with
    | .bl a => Q (.bl (decide (a = b))) H
    | _ => False)
  | _ => False
theorem op_uIs : OpR X (compareOp .Is) uIs := by
  intro pins s σ H x y u v Q I rx ry h
  cases y <;> try exact (show False from h).elim
  · exact op_isN pins s σ H _ _ u v Q I rx ry ⟨rfl, h⟩
  · cases x <;> try exact (show False from h).elim
    exact op_isBl pins s σ H _ _ u v Q I rx ry ⟨_, _, rfl, rfl, h⟩
def uNis : R2 := fun x y H Q => match y with
  | .non => Q (.bl (!decide (x = .non))) H
  | .bl b => (match x with
    | .bl a => Q (.bl (!decide (a = b))) H
    | _ => False)
  | _ => False
theorem op_uNis : OpR X (compareOp .IsNot) uNis := by
  intro pins s σ H x y u v Q I rx ry h
  cases y <;> try exact (show False from h).elim
  · exact op_notN pins s σ H _ _ u v Q I rx ry ⟨rfl, h⟩
  · cases x <;> try exact (show False from h).elim
    exact op_notBl pins s σ H _ _ u v Q I rx ry ⟨_, _, rfl, rfl, h⟩
def uIn (K : PySem.W.Frag) (neg : Bool) : R2 := fun x y H Q => match y with
  | .ref p => rIn K neg x (.ref p) H Q
  | .str z => (match x with
    | .str i => Q (.bl (if neg then !(!(Builtin.Str.occurrences z i 0 z.length 1).isEmpty) else !(Builtin.Str.occurrences z i 0 z.length 1).isEmpty)) H
    | _ => False)
  | _ => False
theorem op_uIn : OpR X (compareOp .In) (uIn X.K false) := by
  intro pins s σ H x y u v Q I rx ry h
  cases y <;> try exact (show False from h).elim
  · cases x <;> try exact (show False from h).elim
    exact op_in_str pins s σ H _ _ u v Q I rx ry ⟨_, _, rfl, rfl, h⟩
  · exact op_in_seq pins s σ H _ _ u v Q I rx ry h
theorem op_uNin : OpR X (compareOp .NotIn) (uIn X.K true) := by
  intro pins s σ H x y u v Q I rx ry h
  cases y <;> try exact (show False from h).elim
  · cases x <;> try exact (show False from h).elim
    exact op_notIn_str pins s σ H _ _ u v Q I rx ry ⟨_, _, rfl, rfl, h⟩
  · exact op_notIn_seq pins s σ H _ _ u v Q I rx ry h
/-! subscripts -/
def uIx (K : PySem.W.Frag) : R2 := fun x y H Q => match x, y with
  | .str z, .int i => z.length ≤ sizeLine ∧ ∃ c, atI z.cps.toList i = some c ∧ Q (.str ⟨#[c]⟩) H
  | .ref p, .int i => ∃ xs v, (SqL K H p xs ∨ SqT K H p xs) ∧ atI xs i = some v ∧ Q v H
  | _, _ => False
theorem ix_u : IxR X (uIx X.K) := by
  intro ea eb pins s σ H x y u v Q I rx ry h
  cases x <;> cases y <;> try exact (show False from h).elim
  · obtain ⟨h1, c, h2, q⟩ := h
    exact ix_str ea eb pins s σ H _ _ u v Q I rx ry ⟨_, _, c, rfl, rfl, h1, h2, q⟩
  · obtain ⟨xs, z, hs | hs, h2, q⟩ := h
    · exact ix_list ea eb pins s σ H _ _ u v Q I rx ry ⟨_, xs, _, z, rfl, rfl, hs, h2, q⟩
    · exact ix_tup ea eb pins s σ H _ _ u v Q I rx ry ⟨_, xs, _, z, rfl, rfl, hs, h2, q⟩
def uSl (K : PySem.W.Frag) : V → Option Int → Option Int → Hp → VK → Prop := fun x lo hi H Q => match x with
  | .str z => z.length ≤ sizeLine ∧ Q (.str (cutS z lo hi)) H
  | .ref a => rSlL K (.ref a) lo hi H Q ∨ rSlT K (.ref a) lo hi H Q
  | _ => False
theorem sl_u : SlR X (uSl X.K) := by
  intro pins s σ H x v sl lo hi ulo uhi Q I rx hsl hlo hhi h
  cases x <;> try exact (show False from h).elim
  · exact sl_str pins s σ H _ v sl lo hi ulo uhi Q I rx hsl hlo hhi ⟨_, rfl, h⟩
  · rcases h with h | h
    · exact sl_list pins s σ H _ v sl lo hi ulo uhi Q I rx hsl hlo hhi h
    · exact sl_tup pins s σ H _ v sl lo hi ulo uhi Q I rx hsl hlo hhi h
/-! calls -/
def uLen (K : PySem.W.Frag) : List V → Hp → VK → Prop := fun xs H Q => match xs with
  | [.str z] => z.length ≤ sizeLine ∧ Q (.int z.length) H
  | [.ref p] => ∃ ys, (SqL K H p ys ∨ SqT K H p ys) ∧ Q (.int ys.length) H
  | _ => False
theorem call_uLen : CallR X (.builtin "len") (uLen X.K) := by
  intro ps s σ H xs us R I r h
  match xs, h with
  | [.str z], h => exact call_len_str ps s σ H _ us R I r ⟨_, rfl, h⟩
  | [.ref p], h =>
    obtain ⟨ys, hs, q⟩ := h
    exact call_len_seq ps s σ H _ us R I r ⟨p, ys, rfl, hs, q⟩
def uIsi (K : PySem.W.Frag) : List V → Hp → VK → Prop := fun xs H Q => match xs with
  | [x, .ty T] => ∃ t b, TyX K H x t ∧ PySem.W.kitOne K t (.type T) = some b ∧ Q (.bl b) H
  | [x, .ref c] => (∃ t b, TyX K H x t ∧ PySem.W.kitOne K t (.ref c) = some b ∧ Q (.bl b) H) ∨ ∃ cs us t b, H c = some (.tup cs) ∧ Paired ClsV cs us ∧ TyX K H x t ∧ PySem.W.kitAny K t us = some b ∧ Q (.bl b) H
  | _ => False
theorem call_uIsi : CallR X (.builtin "isinstance") (uIsi X.K) := by
  intro ps s σ H xs us R I r h
  match xs, h with
  | [x, .ty T], h =>
    obtain ⟨t, b, h1, h2, q⟩ := h
    exact call_isi ps s σ H _ us R I r ⟨x, _, t, _, b, rfl, .ty T, h1, h2, q⟩
  | [x, .ref c], h =>
    rcases h with ⟨t, b, h1, h2, q⟩ | ⟨cs, ws, t, b, h0, h3, h1, h2, q⟩
    · exact call_isi ps s σ H _ us R I r ⟨x, _, t, _, b, rfl, .own c, h1, h2, q⟩
    · exact call_isiT ps s σ H _ us R I r ⟨x, c, cs, t, ws, b, rfl, h0, h3, h1, h2, q⟩
/-- len of an instance whose class has its own __len__ -/
def rLenO (C : Addr) (sp : Sp) : List V → Hp → VK → Prop := fun xs H Q => ∃ a dx fs, xs = [.ref a] ∧ H a = some (.ins C dx fs) ∧ sp [.ref a] H (fun v H' => ∃ n : Int, v = .int n ∧ 0 ≤ n ∧ n < 2 ^ 63 ∧ Q (.int n) H') E0
theorem call_lenO {k : Nat} {C f : Addr} {fd : FuncData} {ps : List Str} {sp : Sp} (F : FnOk X.prog X.w X.K X.mg X.base (L2.CX X.prog X.w) k f fd ps sp) (m : Meth X.K C "__len__" f) (hr : Room (k + 1) X.A) (hb : Binds X.K fd ps []) :
    CallR X (.builtin "len") (rLenO C sp) := by
  intro ps' s σ H xs us R I r h
  obtain ⟨a, dx, fs, rfl, ea, h⟩ := h
  obtain rfl := Vals.ref1 r
  obtain ⟨_, O, _⟩ := ins_get I.hok ea
  obtain ⟨od, J, _⟩ := O.look
  obtain ⟨m', hF⟩ := I.fr
  refine PySem.W.len_K hF I.ok.mod.kin J m.at_ m.fn ?_
  have e0 : Env0 X.prog X.w X.K X.mg X.base X.A.in1 X.stack s H := I.env0.in1
  have hl := F.len _ _ _ _ h
  have r2 : Vals [.ref a] [.ref a] := (.cons (by rfl) .nil)
  refine wpAny_call (codeAny_mono (F.run X.A.in1 X.stack s H ⟨[.ref a], []⟩ [.ref a] [.ref a] _ E0 hr.in1 e0 (by
    have := hb s [.ref a] I.kIn (by simpa using hl)
    simpa using this) r2 h) fun r s' hq => ?_)
  cases r with
  | error e => exact passL ps' σ H s e s' I hq
  | ok fl =>
    cases fl with
    | ret w =>
      obtain ⟨z, H', I', rz, n, ez, h0, h1, q⟩ := I.after hq
      subst ez
      obtain ⟨t, rfl⟩ := rz
      exact ⟨⟨h0, h1⟩, ⟨.int n, H', I'.tok _, ⟨_, rfl⟩, q⟩⟩
    | next => exact False.elim hq
    | brk => exact False.elim hq
    | cont => exact False.elim hq
end
end U
namespace U
open PySem PySem.Spec PyProof.Rows L2

/-! ### promises kept where no text of a container is being made -/
structure FnG (P : Program) (w : World) (K : PySem.W.Frag) (mg : Str → Option Value) (base : Heap) (k : Nat) (f : Addr) (fd : FuncData) (ps : List Str) (sp : Sp) : Prop where
  len : ∀ (vs : List V) (H : Hp) (Q : VK) (E : XK), sp vs H Q E → vs.length = ps.length
  go : ∀ A : Around, A.guards = some [] → ∀ (outer : List Env) (s : Shared) (H : Hp) (ar : Args) (us : List Value) (vs : List V) (Q : VK) (E : XK),
    Room k A → Env0 P w K mg base A outer s H → BindsTo s fd ar (ps.zip us) → Vals vs us → sp vs H Q E → codeAny (model P w) A (.call (.ref f) ar) (CR (L2.CX P w) outer P w H s Q E) s
section
variable {P : Program} {w : World} {K : PySem.W.Frag} {mg : Str → Option Value} {base : Heap}
theorem FnG.of {k : Nat} {f : Addr} {fd : FuncData} {ps : List Str} {sp : Sp} (F : FnOk P w K mg base (L2.CX P w) k f fd ps sp) : FnG P w K mg base k f fd ps sp :=
  ⟨F.len, fun A _ outer s H ar us vs Q E r e b v q => F.run A outer s H ar us vs Q E r e b v q⟩
/-- a def by its body -/
theorem fnG_of {x qual : Str} {pa : Arguments} {bd : List Stmt} {sc : Scope} {f : Addr} {fd : FuncData} {N ps : List Str} {k : Nat} {sp : Sp} (F : FunD K x qual pa bd sc [] [] f fd) (S : FnScope N ps sc) (hlen : ∀ vs H Q E, sp vs H Q E → vs.length = ps.length)
    (hb : ∀ (cdv : Value) (A : Around) (outer : List Env) (s : Shared) (H : Hp) (vs : List V) (Q : VK) (E : XK), A.guards = some [] → Room k (A.deeper (envOfC qual sc s.heap.objs.size f cdv)) → sp vs H Q E →
      ∃ t, PSs (cxOf (L2.CX P w) P w K mg base N qual sc f cdv A outer s H E) bd t ∧ t { nx := fun _ H' => Q .non H', rt := Q } (start N vs) H) : FnG P w K mg base (k + 1) f fd ps sp := by
  obtain ⟨oc, od, dV, kV, doc, pm, an, cdv, ct, osl, hfd, hlk, hcode, _, _⟩ := F.ex
  subst hfd
  refine ⟨hlen, fun A hA outer s H ar us vs Q E room env bnd vls prom => ?_⟩
  have len1 := hlen _ _ _ _ prom
  have kin : K.In s.heap := e_kin env
  have nol : s.heap.NoLimit := env.mod.nolimit.keeps fun b o z => (env.bs b o z).1
  refine codeAny_call_function room.depth (kin _ _ hlk) rfl S.co S.gen rfl (PySem.W.codeRec_of kin hcode) (bnd _ _ _ _ ?_)
  refine wpAny_newFunctionEnv_cells S.kind (kinds_of S) fun en hen s1 ic => ?_
  cases hen
  refine ⟨nol.keeps ic.toInCall.keep, codeAny_func ?_⟩
  obtain ⟨t, der, rd⟩ := hb cdv A outer s H vs Q E hA (room.deeper _) prom
  have inv0 := inv_start (CX := L2.CX P w) (E := E) S room.hd env len1 vls ic
  refine wpAny_mono (der.run [] s1 (start N vs) H _ inv0 rd) (fun fl s' out => ?_) fun _ _ z => z
  match fl, out with
  | .ret u, ⟨v, σ', H', J, rv, q⟩ => exact ⟨v, H', J.os, J.bare, J.base, J.hok, rv, q⟩
  | .next, ⟨σ', H', J, q⟩ => exact ⟨.non, H', J.os, J.bare, J.base, J.hok, rfl, q⟩
  | .brk, ⟨_, _, _, q⟩ => exact q.elim
  | .cont, ⟨_, _, _, q⟩ => exact q.elim
where
  e_kin {A : Around} {outer : List Env} {s : Shared} {H : Hp} (env : Env0 P w K mg base A outer s H) : K.In s.heap := env.mod.kin.keeps fun b o z => (env.bs b o z).1
  kinds_of {N ps : List Str} {sc : Scope} (S : FnScope N ps sc) {n : Nat} {us : List Value} : ∀ y ∈ ps.zip us, sc.names.lookup y.1 = some .local ∨ (sc.names.lookup y.1 = some .cell ∧ ((cellsFrom n sc.names []).lookup y.1).isSome = true) :=
    fun y hy => (S.par y.1 (List.of_mem_zip (a := y.1) (b := y.2) hy).1).imp id fun q => ⟨q, PySem.W.cellsFrom_some _ _ _ (.inl q)⟩
end

/-! ### a def of the module under its name -/
structure Good (P : Program) (w : World) (K : PySem.W.Frag) (mg : Str → Option Value) (base : Heap) (k : Nat) (x : Str) (ps : List Str) (sp : Sp) : Prop where
  fn : ∃ fd, FnG P w K mg base k (He.ga K x) fd ps sp ∧ Binds K fd ps []
  mg : mg x = some (.ref (He.ga K x))
  kp : PySem.W.keepIn K (.ref (He.ga K x)) = true
/-- a method that asks no text of a container -/
structure GoodM (P : Program) (w : World) (K : PySem.W.Frag) (mg : Str → Option Value) (base : Heap) (k : Nat) (C m : Str) (ps : List Str) (sp : Sp) : Prop where
  fn : ∃ fd, FnOk P w K mg base (L2.CX P w) k (He.ma K (He.ga K C) m) fd ps sp ∧ Binds K fd ps []
  mt : Meth K (He.ga K C) m (He.ma K (He.ga K C) m)
  cl : Cls K (He.ga K C)
/-- f(..) -/
def tFn (sp : Sp) (E : XK) (t : TA) : TE := fun σ H Q => t σ H fun vs H1 => sp vs H1 Q E
section
variable {X : Cx} {k : Nat} {x m : Str} {ps : List Str} {sp : Sp} {E : XK} {p pos apos : Pos} {e o : Expr} {es : List Expr} {ta : TE} {t : TA}
theorem run_G {f : Addr} {fd : FuncData} {pins : List (Addr × Obj)} {σ : L2.St} {H : Hp} {s : Shared} {Q : VK} {us : List Value} {vs : List V} (F : FnG X.prog X.w X.K X.mg X.base k f fd ps sp) (hA : X.A.guards = some []) (hr : Room k X.A) (hb : Binds X.K fd ps [])
    (hx : Passes (L2.CX X.prog X.w) X E) (I : Inv X pins σ H s) (r : Vals vs us) (h : sp vs H Q E) : wpAny (model X.prog X.w) X.A (call (.ref f) us) (EP X pins σ Q) X.xe s := by
  have hl : (us ++ []).length = ps.length := by rw [List.append_nil, ← r.length]; exact F.len _ _ _ _ h
  have bb := hb s us I.kIn hl
  rw [List.append_nil] at bb
  refine wpAny_call (codeAny_mono (F.go X.A hA X.stack s H ⟨us, []⟩ us vs Q E hr I.env0 bb r h) fun res s' out => ?_)
  match res, out with
  | .error er, out => exact hx pins σ H s er s' I out
  | .ok (.ret u), out => exact I.after out
  | .ok .next, out => exact False.elim out
  | .ok .brk, out => exact False.elim out
  | .ok .cont, out => exact False.elim out
theorem pe_fn (g : Good X.prog X.w X.K X.mg X.base k x ps sp) (hA : X.A.guards = some []) (hr : Room k X.A) (hg : Gl X x) (hx : Passes (L2.CX X.prog X.w) X E)
    (hpl : (backTo pos (starEach es X.env)).any (·.1) = false := by rfl) (he : starEach (e :: es) X.env = (false, eval e X.env) :: starEach es X.env := by rfl) (ha : PA X (e :: es) t)
    (hdb : (x == ("__debug__" : Str)) = false := by decide) :
    PE X (.Call (.Name x p) (e :: es) [] pos) (tFn sp E t) := by
  obtain ⟨fd, F, hb⟩ := g.fn
  refine ⟨fun pins s σ H Q I h => ?_⟩
  refine wpAny_Call_Name_kw (ld_glob I hg g.mg ?_ hdb)
  exact PySem.W.callWith_K (h₀ := X.base) I.ok.mod.kin g.kp (thn (ha.run pos pins s σ H _ I h) fun us s1 z => by
    obtain ⟨vs, H1, I1, r, q⟩ := z
    exact ⟨I1.kIn, run_G F hA hr hb hx I1 r q⟩) he hpl
end

/-! ### a law's end -/
section
variable {P : Program} {w : World} {K : PySem.W.Frag} {mg mb : Str → Option Value} {k : Nat} {fa a : Addr} {fd : FuncData} {x : Str} {sp : Sp} {s1 : Shared} {vs : List Value} {ns : List Int}
/-- the script alone is tracked, locked, or nothing is -/
def One (a : Addr) (o : Obj) (xs : List V) (H : Hp) : Prop := ∀ b, H b = none ∨ (b = a ∧ H b = some (.frz o (.lst xs)))
theorem end_from (H : Hp) (o : Obj) (ho : s1.heap.get? a = some o) (hod : ∃ its n, o.data = .seq its n) (one : One a o (ns.map V.int) H) (hK : H a ≠ none → K.lookup a = none) (hok : HOk P w H s1.heap)
    (KX : K.In s1.heap) (hns : s1.heap.Ns mainGlobals mg) (hb : s1.heap.Ns builtinsNs mb) (hbb : ∀ x : Str, x ≠ "__name__" → mb x = bootBuiltins x) (hlim : s1.heap.NoLimit) (hg : s1.gens = #[]) (hr : Room k callerA)
    (F : ∀ base : Heap, K.In base → base.Ns mainGlobals mg → FnG P w K mg base k fa fd [x] sp) (hbind : ∀ (s : Shared) (u : Value), BindsTo s fd ⟨[u], []⟩ [(x, u)])
    (hsp : sp [.ref a] H (fun v _ => v = .bl true) fun _ _ _ => False) :
    codeAny (model P w) callerA (.call (.ref fa) ⟨[.ref a], []⟩) (fun r s' => r = .ok (.ret (.bool true)) ∧ OldK s1.heap s'.heap ∧ s'.os = s1.os ∧ AllBare s'.gens) s1 := by
  have only_a : ∀ b, b ≠ a → H b = none := fun b hb => (one b).elim id fun z => absurd z.1 hb
  have dict_free : ∀ b ob es ep, s1.heap.get? b = some ob → ob.data = .dict es ep → H b = none := fun b ob es ep e d => by
    by_cases q : b = a
    · obtain ⟨its, n, hd⟩ := hod
      rw [q, ho] at e
      rw [← Option.some.inj e, hd] at d
      cases d
    · exact only_a b q
  have ns_low : ∀ b (m : Str → Option Value), s1.heap.Ns b m → (hidT s1.heap H).Ns b m := fun b m z => by
    obtain ⟨ob, es, ep, e, d, r⟩ := z
    exact ⟨ob, es, ep, hidT_get e (dict_free b ob es ep e d), d, r⟩
  have k_low : K.In (hidT s1.heap H) := fun b ob e => by
    refine hidT_get (KX b ob e) ?_
    by_cases q : b = a
    · cases z : H b with
      | none => rfl
      | some u =>
        have y := hK (by rw [← q, z]; simp)
        rw [q, y] at e
        cases e
    · exact only_a b q
  obtain ⟨mc, l1, l2⟩ := hlim
  have md : Mod K mg (hidT s1.heap H) := ⟨k_low, ns_low _ _ hns, ⟨mb, ns_low _ _ hb, hbb⟩, ⟨mc, ns_low _ _ l1, l2⟩⟩
  have env : Env0 P w K mg (hidT s1.heap H) callerA [] s1 H :=
    { frames := rfl, mod := md, bs := fun b ob e => of_hidT e, bsz := Nat.le_of_eq (hidT_size _ _), funs := trivial, frf := fun b z => absurd z (by simp [frs]), hok := hok, bare := .of_eq hg }
  refine codeAny_mono ((F _ k_low (ns_low _ _ hns)).go callerA rfl [] s1 H ⟨[.ref a], []⟩ [.ref a] [.ref a] _ _ hr env (hbind s1 (.ref a)) (.cons rfl .nil) hsp) fun res s' out => ?_
  match res, out with
  | .error er, out =>
    obtain ⟨_, _, _, _, _, _, _, _, _, _, _, _, z⟩ := out
    exact z.elim
  | .ok .next, out => exact False.elim out
  | .ok .brk, out => exact False.elim out
  | .ok .cont, out => exact False.elim out
  | .ok (.ret u), out =>
    obtain ⟨v, H', eos, bare, un, hok', rv, ev⟩ := out
    have ev' : v = .bl true := ev
    subst ev'
    have eu : u = Value.bool true := rv
    refine ⟨by rw [eu], OldK.of_keep fun b ob e => ?_, eos, bare⟩
    rcases one b with q | ⟨q, z⟩
    · exact un.keep b ob e q (by simp [frs]) (by simp)
    · have z2 := un.frzs b _ _ z
      have y1 := (hok' b _ z2).1
      have y2 := (hok b _ z).1
      rw [← y2.symm.trans e |> Option.some.inj]
      exact y1
theorem end_G (KX : K.In s1.heap) (hns : s1.heap.Ns mainGlobals mg) (hb : s1.heap.Ns builtinsNs mb) (hbb : ∀ x : Str, x ≠ "__name__" → mb x = bootBuiltins x) (hlim : s1.heap.NoLimit) (hg : s1.gens = #[])
    (ha : s1.heap.get? a = some { cls := .type "list", data := .seq vs.toArray }) (hi : IntsAre vs ns) (hl : ns.length ≤ sizeLine) (hr : Room k callerA)
    (F : ∀ base : Heap, K.In base → base.Ns mainGlobals mg → FnG P w K mg base k fa fd [x] sp) (hbind : ∀ (s : Shared) (u : Value), BindsTo s fd ⟨[u], []⟩ [(x, u)])
    (hsp : ∀ H : Hp, (∀ b, H b = none ∨ ∃ o xs, H b = some (.frz o (.lst xs))) → SqL K H a (ns.map V.int) → sp [.ref a] H (fun v _ => v = .bl true) fun _ _ _ => False) :
    codeAny (model P w) callerA (.call (.ref fa) ⟨[.ref a], []⟩) (fun r s' => r = .ok (.ret (.bool true)) ∧ OldK s1.heap s'.heap ∧ s'.os = s1.os ∧ AllBare s'.gens) s1 := by
  have vv := vals_ints hi
  have ll := hi.length
  cases q : K.lookup a with
  | none =>
    have at_a : (fun b => if b = a then some (HO.frz { cls := .type "list", data := .seq vs.toArray } (.lst (ns.map V.int))) else none : Hp) a = some (.frz { cls := .type "list", data := .seq vs.toArray } (.lst (ns.map V.int))) := if_pos rfl
    have one : One a { cls := .type "list", data := .seq vs.toArray } (ns.map V.int) (fun b => if b = a then some (HO.frz { cls := .type "list", data := .seq vs.toArray } (.lst (ns.map V.int))) else none) := fun b => by
      by_cases e : b = a
      · exact .inr ⟨e, if_pos e⟩
      · exact .inl (if_neg e)
    refine end_from _ _ ha ⟨_, _, rfl⟩ one (fun _ => q) (fun b u z => ?_) KX hns hb hbb hlim hg hr F hbind (hsp _ (fun b => (one b).imp id fun z => ⟨_, _, z.2⟩) (.inl (.inr ⟨_, at_a⟩)))
    rcases one b with y | ⟨e, y⟩
    · cases y.symm.trans z
    · cases y.symm.trans z
      subst e
      exact ⟨ha, by rw [List.length_map]; exact hl, vs, _, vv, ha⟩
  | some ob =>
    have e := (KX a ob q).symm.trans ha
    have e2 := Option.some.inj e
    subst e2
    refine end_from (ns := ns) (fun _ => none) _ ha ⟨_, _, rfl⟩ (fun _ => .inl rfl) (fun z => absurd rfl z) (fun b u z => by cases z) KX hns hb hbb hlim hg hr F hbind
      (hsp _ (fun _ => .inl rfl) (.inr ⟨_, vs.toArray, _, q, rfl, rfl, rfl, by rw [List.size_toArray, ll]; exact hl, by simpa using vv⟩))
end
/-- a law from its head's facts, its def's promise kept where no text is under way -/
structure Owed (P : Program) (w : World) (h : Heap) (mg : Str → Option Value) (fa : Addr) (n k : Nat) (x : Str) : Prop where
  own : ∃ (K : PySem.W.Frag) (sp : Sp) (fd : FuncData), (∀ (s : Shared) (v : Value), BindsTo s fd ⟨[v], []⟩ [(x, v)]) ∧ K.In h ∧ (∀ base : Heap, K.In base → base.Ns mainGlobals mg → FnG P w K mg base k fa fd [x] sp) ∧
    ∀ (H : Hp) (a : Addr) (ns : List Int), ns.length ≤ n → (∀ z ∈ ns, Builtin.Int.intBits z ≤ 1048576) → SqL K H a (ns.map V.int) → sp [.ref a] H (fun v _ => v = .bl true) fun _ _ _ => False
theorem walk_G {l : PySem.W.OpenLaw} {n k : Nat} {q : Program} {loose : List Str} {XP : (Str → Option Value) → Heap → Prop} {YP : World → Heap → Prop} {d : DefRec} {x : Str} (room : Room k callerA) (most : l.most = some n) (fits : n ≤ sizeLine) (nodef : d.params.defaults = [])
    (owed : ∀ (w : World) (mg : Str → Option Value) (fa : Addr) (h : Heap), mg d.name = some (.ref fa) → YP w h → h.Ns mainGlobals mg → Owed l.prog w h mg fa n k x) : PySem.W.WalkO q loose XP YP l.row.toRowW d [] fun f vs => PySem.call f vs := by
  refine Att.attach_callB most nodef fun w s0 s1 mg mb fa o pm cd doc a vs ns G Y ho hd hcd named hobj hints hlen hbits hg => ?_
  obtain ⟨K, sp, fd, binds, kin, keeps, asks⟩ := (owed w mg fa _ named Y G.T.g).own
  exact end_G kin G.T.g G.T.b G.T.builtins G.T.nolimit hg hobj hints (Nat.le_trans hlen fits) room keeps binds fun H _ hS => asks H a ns hlen hbits hS
end U
namespace U
open PySem PySem.Spec PyProof.Rows L2

section
variable {X : Cx} {p pos apos : Pos} {e o : Expr} {es : List Expr} {t ta : TA} {te : TE}
/-! ### module constants -/
theorem pe_int_of {x : Str} {i : Int} (hg : Gl X x) (h : ∃ t, X.mg x = some (.int i t)) (hd : (x == ("__debug__" : Str)) = false := by decide) : PE X (.Name x pos) (tC (.int i)) := by
  obtain ⟨t, h⟩ := h
  exact pe_glob hg h ⟨t, rfl⟩ hd
/-! ### objects of one's own class -/
theorem pe_mk {k : Nat} {x : Str} {ps : List Str} {sp : Sp} {E : XK} (g : GoodM X.prog X.w X.K X.mg X.base k x "__init__" ps sp) (M : Mk X.K (He.ga X.K x) (He.ma X.K (He.ga X.K x) "__init__")) (hm : X.mg x = some (.ref (He.ga X.K x))) (hr : Room (k + 1) X.A) (hg : Gl X x) (hx : Passes (L2.CX X.prog X.w) X E)
    (hpl : (backTo pos (starEach es X.env)).any (·.1) = false := by rfl) (he : starEach (e :: es) X.env = (false, eval e X.env) :: starEach es X.env := by rfl) (ha : PA X (e :: es) t)
    (hdb : (x == ("__debug__" : Str)) = false := by decide) :
    PE X (.Call (.Name x p) (e :: es) [] pos) (tMake (He.ga X.K x) sp [] E t) := by
  obtain ⟨fd, F, hb⟩ := g.fn
  exact pe_make M F hr hg hm hb .nil hx ha hdb he hpl
theorem pe_lenY {k : Nat} {C : Str} {ps : List Str} {sp : Sp} (g : GoodM X.prog X.w X.K X.mg X.base k C "__len__" ps sp) (hr : Room (k + 1) X.A) (hg : Gl X "len") (hm : X.mg "len" = none) (ha : PA X [e] t)
    (he : starEach [e] X.env = [(false, eval e X.env)] := by rfl) : PE X (.Call (.Name "len" p) [e] [] pos) (tCB (rLenO (He.ga X.K C) sp) t) := by
  obtain ⟨fd, F, hb⟩ := g.fn
  exact pe_callB (es := []) (call_lenO F g.mt hr hb) hg hm boot_len ha (he := he)
/-! ### built-ins under short names -/
def uMax2 : List V → Hp → VK → Prop := fun xs H Q => ∃ i j, xs = [.int i, .int j] ∧ Q (.int (if j > i then j else i)) H
def uMin2 : List V → Hp → VK → Prop := fun xs H Q => ∃ i j, xs = [.int i, .int j] ∧ Q (.int (if j < i then j else i)) H
def rInt : List V → Hp → VK → Prop := fun xs H Q => (∃ i, xs = [.int i] ∧ Q (.int i) H) ∨ ∃ k, xs = [.bl k] ∧ Q (.int (if k then 1 else 0)) H
/-! ### the text of a value -/
/-! ### methods of texts -/
/-! ### list(..), tuple(..) -/
def strL (z : Str) : List V := z.cps.toList.map fun c => .str ⟨#[c]⟩
theorem vals_signs {z : Str} {acc : Array Value} (h : ItemsOf (SignAt z) acc z.cps.size) : Vals (strL z) acc.toList := by
  refine vals_of_at ?_ fun j x u hx hu => ?_
  · unfold strL
    rw [List.length_map, Array.length_toList, Array.length_toList, h.1]
  · unfold strL at hx
    rw [List.getElem?_map] at hx
    obtain ⟨c, hc, rfl⟩ := Option.map_eq_some_iff.mp hx
    obtain ⟨c', u', h1, h2⟩ := h.2 j u (by rw [← Array.getElem?_toList]; exact hu)
    rw [Array.getElem?_toList, h1] at hc
    cases hc
    exact ⟨u', h2⟩
def uTup (K : PySem.W.Frag) : List V → Hp → VK → Prop := fun xs H Q => match xs with
  | [.ref p] => ∃ ys, (SqL K H p ys ∧ ∀ l, H l = none → Q (.ref l) (upd H l (.tup ys))) ∨ (SqT K H p ys ∧ Q (.ref p) H)
  | [.str z] => z.length ≤ 100000 ∧ ∀ l, H l = none → Q (.ref l) (upd H l (.tup (strL z)))
  | _ => False
theorem call_uTup (hc : X.calm = true) : CallR X (.type "tuple") (uTup X.K) := by
  intro ps s σ H xs us R I r h
  match xs, h with
  | [.ref p], ⟨ys, h⟩ => exact call_tuple_of ps s σ H _ us R I r ⟨p, ys, rfl, h⟩
  | [.str z], ⟨hz, q⟩ =>
    obtain ⟨_, rfl, t, rfl⟩ := vals1 r
    have hs := sizeLine_eq
    have hz' : z.cps.size ≤ 100000 := hz
    refine PySem.call_tuple_str (I.ok.hd hc) z t (fun h' tk acc kp it => ?_) (by omega)
    have I1 := I.kept (h' := h') (t' := s.toks) kp
    have I2 : Inv X ps σ (upd H h'.objs.size (.tup (strL z))) { s with heap := h'.push { cls := .type "tuple", data := .seq acc }, toks := tk } :=
      I1.laid (t' := tk) (fun b o e => Heap.get?_push_of_some _ e) (Nat.le_refl _) (show ObjOk X.prog X.w _ _ _ (.tup (strL z)) from ⟨by
        unfold strL
        simp only [List.length_map, Array.length_toList]
        omega, acc.toList, vals_signs it, IsTup.new _ _⟩)
    refine ⟨.ref h'.objs.size, _, I2, rfl, ?_⟩
    exact q _ (I1.hok.fresh (Nat.le_refl _))
/-! ### what a for walks: a list or a tuple -/
def iSeq (K : PySem.W.Frag) (tl : TE) : TI := fun σ H R => iList K tl σ H R ∨ iTup K tl σ H R
theorem pi_seq {tg l : Expr} {tl : TE} (hl : PE X l tl) : PI X tg l (iSeq X.K tl) := by
  refine .mk ?_
  intro pins s σ H R I h
  rcases h with h | h
  · exact (pi_list hl).run pins s σ H R I h
  · exact (pi_tup hl).run pins s σ H R I h
def tTruth (K : PySem.W.Frag) (ta : TE) : TT := fun σ H Q => ta σ H fun x H' => ∃ k, TruV K x H' k ∧ Q k H'

end
end U
namespace U
open PySem PySem.Spec PyProof.Rows L2

/-! ### enumerate(text) -/
def IteS (z : Str) : It :=
  ⟨fun i _ => i < z.cps.size, fun i H v H' => ∃ T c, v = .ref T ∧ H T = none ∧ z.cps[i]? = some c ∧ H' = upd H T (.tup [.int (i : Nat), .str ⟨#[c]⟩]), fun i _ => i = z.cps.size⟩
/-- the text's own iterator at it, at its i-th sign -/
def SIt (it : Addr) (z : Str) (t : Tok) (i : Nat) (h : Heap) : Prop := h.IsStrIter it (strIterType z) z t i
theorem draws_str {P : Program} {w : World} {A : Around} (hh : A.handled = none) (it : Addr) (z : Str) (t : Tok) :
    Draws P w A it [it] z.cps.size (fun i v => ∃ c u, z.cps[i]? = some c ∧ v = .str ⟨#[c]⟩ u) (SIt it z t) := by
  unfold SIt strIterType
  split
  · exact Draws.strAscii hh it z t
  · exact Draws.strWide hh it z t
theorem turn_enumS {P : Program} {w : World} {K : PySem.W.Frag} {el : List Expr} {kk : Nat} {tp : Pos} (z : Str) (t : Tok) (e it : Addr) :
    Turn P w K (.Tuple el kk tp) (IteS z) [e, it] e (fun i h => (∃ old, IsEnum h e it ((i : Nat) : Int) old) ∧ SIt it z t i h ∧ e ≠ it) where
  mem := by simp
  obj := fun i h st b hb => by
    obtain ⟨⟨last, he⟩, itr, _⟩ := st
    obtain ⟨o, ho, hc, hd⟩ := itr
    rcases (show b = e ∨ b = it by simpa using hb) with q | q
    · subst q
      exact ⟨_, he, fun v q => nomatch q⟩
    · subst q
      exact ⟨o, ho, fun v q => by rw [hd] at q; cases q⟩
  keep := fun i h h' st k => by
    obtain ⟨⟨old, he⟩, ⟨o, ho, r⟩, ne⟩ := st
    exact ⟨⟨old, k e (by simp) _ he⟩, ⟨o, k it (by simp) o ho, r⟩, ne⟩
  item := by
    intro X hP hw hK hc
    intro i pins s σ H E I hf st hg
    subst hP hw hK
    obtain ⟨⟨old, he⟩, hit, ne⟩ := st
    have le := Heap.lt_size he
    have li : it < s.heap.objs.size := by
      obtain ⟨_, q, _⟩ := id hit
      exact Heap.lt_size q
    refine wpAny_pyNext_enum_itemD (draws_str (A := X.A.in1) (I.ok.hd hc) it z t) he hit hg ne (by simpa using ne) fun x h1 tk hx ho hit1 hT hz1 k1 => ?_
    obtain ⟨c, u, hcz, rfl⟩ := hx
    refine ⟨_, rfl, wpAny_letOwnedTupleGo_enum (s := { s with heap := h1, toks := tk + 1 }) ho fun h2 he2 sb => ?_⟩
    have T2 : h2.get? s.heap.objs.size = some { cls := .type "tuple", data := .seq #[.int i tk, .str ⟨#[c]⟩ u] } := (sb.2 _ (Nat.ne_of_gt le)).trans hT
    have new : ObjOk X.prog X.w (upd H s.heap.objs.size (.tup [.int (i : Nat), .str ⟨#[c]⟩])) h2 s.heap.objs.size (.tup [.int (i : Nat), .str ⟨#[c]⟩]) :=
      ⟨by show 2 ≤ sizeLine; decide, [.int i tk, .str ⟨#[c]⟩ u], .cons ⟨_, rfl⟩ (.cons ⟨_, rfl⟩ .nil), ⟨_, T2, rfl, _, rfl⟩⟩
    have I1 : Inv X pins σ (upd H s.heap.objs.size (.tup [.int (i : Nat), .str ⟨#[c]⟩])) { s with heap := h2, toks := tk + 1 } :=
      I.turnedNew (ch := [e, it]) (fun b ob hb q => (sb.2 b (fun y => hb (by simp [y]))).trans (k1 b ob (fun y => hb (by simp [y])) (fun y => hb (by simp [y])) q)) hf (Nat.le_refl _) new
    refine ⟨.ref s.heap.objs.size, _, I1, rfl, ⟨_, c, rfl, I.hok.fresh (Nat.le_refl _), hcz, rfl⟩, ⟨⟨.str ⟨#[c]⟩ u, ?_⟩, ?_, ne⟩, fun b hb => ?_⟩
    · rw [show ((i + 1 : Nat) : Int) = i + 1 by omega]
      exact he2
    · obtain ⟨o, q1, q2⟩ := hit1
      exact ⟨o, (sb.2 it (Ne.symm ne)).trans q1, q2⟩
    · have below : b < s.heap.objs.size := by
        rcases (show b = e ∨ b = it by simpa using hb) with q | q
        · rw [q]; exact le
        · rw [q]; exact li
      rw [upd_ne (Nat.ne_of_lt below)]
      exact (hf b hb).1
  done := by
    intro X hP hw hK hc
    intro i pins s σ H E I hf st hg
    subst hP hw hK
    obtain ⟨⟨old, he⟩, hit, ne⟩ := st
    obtain ⟨f0, f1, _, f3, f4, f5⟩ := hf it (by simp)
    have hi : i = z.cps.size := hg
    subst hi
    exact wpAny_pyNext_enum_endD (draws_str (A := X.A.in1) (I.ok.hd hc) it z t) he hit fun h' eb => ⟨rfl, I.turned (t' := s.toks) (fun b o hb q => eb b o hb q) f0 f1 f3 f4 f5⟩
  self := fun _ _ _ _ _ st h => by
    obtain ⟨⟨_, he⟩, _⟩ := st
    exact wpAny_pyIter_enum he h

def iEnumS (ta : TA) : TI := fun σ H R => ta σ H fun vs H1 => ∃ z, vs = [.str z] ∧ R (IteS z) H1
theorem pi_enumS {X : Cx} {e : Expr} {ta : TA} {p pos tpos : Pos} {elts : List Expr} {kk : Nat} (hg : Gl X "enumerate") (hm : X.mg "enumerate" = none) (ha : PA X [e] ta) (hs : starEach [e] X.env = [(false, eval e X.env)] := by rfl) :
    PI X (.Tuple elts kk tpos) (.Call (.Name "enumerate" p) [e] [] pos) (iEnumS ta) := by
  refine .mk ?_
  intro pins s σ H R I h
  refine Call_ (ld_blt I hg hm boot_enumerate (PyProof.Rows.callWith_type1 (thn (ha.run pos pins s σ H _ I h) fun us s1 z => ?_) hs rfl))
  obtain ⟨vs, H1, I1, r1, z, ex, q⟩ := z
  subst ex
  obtain ⟨u, rfl, t, rfl⟩ := vals1 r1
  refine PySem.call_enumerate_str fun h' he hit hsz hk => wpAny_pyIter_enum he ?_
  have I2 : Inv X pins σ H1 { s1 with heap := h' } := by
    exact I1.kept (t' := s1.toks) hk
  refine ⟨s1.heap.objs.size + 1, [s1.heap.objs.size + 1, s1.heap.objs.size], _, _, H1, rfl, I2, turn_enumS z t (s1.heap.objs.size + 1) s1.heap.objs.size, ⟨⟨.none, he⟩, hit, Nat.succ_ne_self _⟩, fun b hb => ?_, q⟩
  have hb2 : s1.heap.objs.size ≤ b := by
    rcases (show b = s1.heap.objs.size + 1 ∨ b = s1.heap.objs.size by simpa using hb) with q | q
    · exact q ▸ Nat.le_succ _
    · exact q ▸ Nat.le_refl _
  exact I1.fpOk hb2 (I1.hok.fresh hb2)
def iEnumU (K : PySem.W.Frag) (ta : TA) : TI := fun σ H R => iEnum K ta σ H R ∨ iEnumS ta σ H R
theorem pi_enumU {X : Cx} {e : Expr} {ta : TA} {p pos tpos : Pos} {elts : List Expr} {kk : Nat} (hg : Gl X "enumerate") (hm : X.mg "enumerate" = none) (ha : PA X [e] ta) (hs : starEach [e] X.env = [(false, eval e X.env)] := by rfl) :
    PI X (.Tuple elts kk tpos) (.Call (.Name "enumerate" p) [e] [] pos) (iEnumU X.K ta) := by
  refine .mk ?_
  intro pins s σ H R I h
  rcases h with h | h
  · exact (pi_enum hg hm ha hs).run pins s σ H R I h
  · exact (pi_enumS hg hm ha hs).run pins s σ H R I h
/-! ### comprehensions and loops, seen from their turns -/
/-- what an element does to the list under way at D -/
def Snoc (D : Addr) (N : Hp → Prop) : VK := fun y H => ∃ acc : List V, H D = some (.lst acc) ∧ acc.length < sizeLine ∧ N (upd H D (.lst (acc ++ [y])))
/-- one turn of a comprehension -/
def lcT (g : TG) (tt : TT) (te : TE) (vs : List Nat) (σ : L2.St) (D : Addr) (N : Hp → Prop) (x : V) (H : Hp) : Prop :=
  g x (wipe σ vs) H fun τ H2 => wipe τ vs = wipe σ vs ∧ tt τ H2 fun b H3 => if b = true then te τ H3 (Snoc D N) else N H3
/-- turns of an iterator to its end: B x H N is a turn behind which N holds -/
def Laps (J : It) (H0 : Hp) (fin : Hp → Prop) (B : V → Hp → (Hp → Prop) → Prop) : Prop :=
  ∃ W : Nat → Nat → Hp → Prop, (∃ m, W 0 m H0) ∧ ∀ (i m : Nat) (H : Hp), W i m H →
    (J.stop i H ∧ fin H) ∨ (J.go i H ∧ ∃ N : Hp → Prop, (∀ H', N H' → ∃ l, l < m ∧ W (i + 1) l H') ∧ ∀ x H', J.yld i H x H' → B x H' N)
def LcB (J : It) (g : TG) (tt : TT) (te : TE) (vs : List Nat) (σ : L2.St) (H : Hp) (D : Addr) (fin : Hp → Prop) : Prop :=
  Laps J (upd H D (.lst [])) fin fun x H' N => lcT g tt te vs σ D N x H'
end U
namespace U
open PySem PySem.Spec PyProof.Rows L2

/-! ### text[::-1] -/
/-! ### raise C(e) of one's own exceptions, whose __init__ keeps one field -/
/-- what the written part says of such a class -/
def oexB (K : PySem.W.Frag) (C : Addr) : Bool := match K.lookup C with
  | some ⟨.type "type", dd, .cls cd, sl⟩ => (match cd.mro, sl.toList with
    | .ref C' :: bm, [_, _, _, _, some (.builtin n), _] => (C' == C && n == "ValueError.__new__") && (!cd.hasDel && cd.hasDict && PySem.HandSPX.refsVE bm)
    | _, _ => false)
  | _ => false
theorem oexB_ok {K : PySem.W.Frag} {C : Addr} (q : oexB K C = true) : ∃ nm qn N bs bm sn sub ab col dd k0 k1 k2 k3 k5, K.lookup C = some (excClassObj nm qn C N bs bm true sn sub ab col dd k0 k1 k2 k3 k5 "ValueError.__new__") ∧ PySem.HandSPX.refsVE bm = true := by
  unfold oexB at q
  split at q
  · rename_i dd cd sl ho
    split at q
    · rename_i own rest a0 a1 a2 a3 maker a5 order cells
      simp only [Bool.not_eq_true', beq_iff_eq, Bool.and_eq_true] at q
      obtain ⟨⟨eo, em⟩, ⟨nodel, dict1⟩, ground⟩ := q
      subst eo em
      obtain ⟨name, bases, line, space, qname, hasd, sl1, sl2, abst, coll, dels⟩ := cd
      dsimp only at order nodel dict1
      subst order nodel dict1
      have row : sl = #[a0, a1, a2, a3, some (.builtin "ValueError.__new__"), a5] := by
        obtain ⟨l⟩ := sl
        exact congrArg Array.mk cells
      subst row
      exact ⟨name, qname, space, bases, rest, sl1, sl2, abst, coll, dd, a0, a1, a2, a3, a5, ho, ground⟩
    · cases q
  · cases q
/-- all that the head tells of an exception class -/
def excB (K : PySem.W.Frag) (x f : Str) : Bool := oexB K (He.ga K x) && (He.eqO (PySem.W.findIn K (.ref (He.ga K x)) "__setattr__") (some (some (.builtin "object.__setattr__"))) && (decide (PySem.W.subIn K (.ref (He.ga K x)) (.type "BaseException") = some true) &&
  (decide (PySem.W.typeIn K (.ref (He.ga K x)) = some (.type "type")) && (PySem.W.keepIn K (.ref (He.ga K x)) && (He.eqO (PySem.W.findIn K (.ref (He.ga K x)) f) (some none) &&
  (He.eqO (PySem.W.findIn K (.ref (He.ga K x)) "__init__") (some (some (.ref (He.ma K (He.ga K x) "__init__")))) && decide (PySem.W.typeIn K (.ref (He.ma K (He.ga K x) "__init__")) = some (.type "function"))))))))
structure ExcT (K : PySem.W.Frag) (x f : Str) : Prop where
  oc : OexC K (He.ga K x)
  nf : PySem.W.findIn K (.ref (He.ga K x)) f = some none
  ini : PySem.W.findIn K (.ref (He.ga K x)) "__init__" = some (some (.ref (He.ma K (He.ga K x) "__init__")))
  fn : PySem.W.typeIn K (.ref (He.ma K (He.ga K x) "__init__")) = some (.type "function")
theorem excB_ok {K : PySem.W.Frag} {x f : Str} (h : excB K x f = true) : ExcT K x f := by
  unfold excB at h
  simp only [decide_eq_true_eq, Bool.and_eq_true] at h
  obtain ⟨h1, h2, h3, h4, h5, h6, h7, h8⟩ := h
  exact ⟨⟨oexB_ok h1, He.eqO_ok h2, h3, h4, h5⟩, He.eqO_ok h6, He.eqO_ok h7, h8⟩
/-- the promise of its __init__ -/
def spExcI (K : PySem.W.Frag) (x f : Str) : Sp := fun vs H Q _ => ∃ (a : Addr) (v : V), vs = [.ref a, v] ∧ H a = some (exo a (He.ga K x) none) ∧ ∀ dx, H dx = none → dx ≠ a → Q .non (upd (upd H dx (exd dx [(f, v)])) a (exo a (He.ga K x) (some dx)))
theorem spExcI_len {K : PySem.W.Frag} {x f : Str} {n : Str} : ∀ vs H Q E, spExcI K x f vs H Q E → vs.length = (["self", n] : List Str).length := by
  intro vs H Q E h
  obtain ⟨a, v, rfl, _⟩ := h
  rfl
theorem read_excI {K : PySem.W.Frag} {x f : Str} (T : ExcT K x f) {vs : List V} {H : Hp} {Q : VK} {E : XK} (h : spExcI K x f vs H Q E) {n : Str} :
    tOst K f (tVar 0) (tVar 1) { nx := fun _ H' => Q .non H', rt := Q } (start ["self", n] vs) H := by
  obtain ⟨a, v, rfl, ha, q⟩ := h
  exact ⟨v, rfl, .ref a, rfl, a, He.ga K x, rfl, T.oc, T.nf, .inl ⟨ha, q⟩⟩
/-- an own exception class that may be raised -/
structure GoodX (P : Program) (w : World) (K : PySem.W.Frag) (mg : Str → Option Value) (base : Heap) (x f : Str) : Prop where
  fn : ∃ fd, FnOk P w K mg base (L2.CX P w) 1 (He.ma K (He.ga K x) "__init__") fd ["self", f] (spExcI K x f) ∧ Binds K fd ["self", f] []
  t : ExcT K x f
  mg : mg x = some (.ref (He.ga K x))
def tRse (K : PySem.W.Frag) (c f : Str) (E : XK) (ta : TA) : TS := fun _ σ H => tMkO (He.ga K c) (spExcI K c f) [] ta σ H fun cls d H' => E cls d H'
theorem back_one {H1 : Hp} {a dx : Addr} {fs : List (Str × V)} {o1 o2 o3 : HO} (ha : H1 a = none) (hne : dx ≠ a) : upd (del (upd (upd (upd H1 a o1) dx o2) a o3) a) dx (.xd fs) = upd H1 dx (.xd fs) := by
  funext b
  unfold upd del
  by_cases h1 : b = dx
  · rw [if_pos h1, if_pos h1]
  · rw [if_neg h1, if_neg h1]
    by_cases h2 : b = a
    · rw [if_pos h2, h2, ha]
    · simp only [if_neg h2, if_neg h1]
theorem ps_rse {X : Cx} {c f : Str} {E : XK} {e : Expr} {ta : TA} {p pos pos2 : Pos} (g : GoodX X.prog X.w X.K X.mg X.base c f) (hr : Room 2 X.A) (hc : X.calm = true) (tk : Takes X fun cls d _ H => E cls d H) (hg : Gl X c) (ha : PA X [e] ta)
    (hdb : (c == ("__debug__" : Str)) = false := by decide) (he : starEach [e] X.env = [(false, eval e X.env)] := by rfl) :
    PS X (.Raise (some (.Call (.Name c p) [e] [] pos)) none pos2) (tRse X.K c f E ta) := by
  obtain ⟨fd, F, hb⟩ := g.fn
  exact ps_raise hc tk (pmk_oex (es := []) g.t.oc g.t.ini g.t.fn F hr hb .nil passL hg g.mg ha hdb he)
/-- what is asked behind the argument of such a raise -/
theorem rse_of {K : PySem.W.Frag} {c f : Str} {E : XK} {v : V} {H1 : Hp} (h : ∀ d, H1 d = none → E (.ref (He.ga K c)) (some d) (upd H1 d (.xd [(f, v)]))) :
    [v].length ≤ 1000 ∧ ∀ a, H1 a = none → spExcI K c f (.ref a :: ([v] ++ [])) (upd H1 a (exo a (He.ga K c) none))
      (fun x H2 => x = .non ∧ ∃ (d : Addr) (fs : List (Str × V)), H2 a = some (exo a (He.ga K c) (some d)) ∧ H2 d = some (exd d fs) ∧ H1 d = none ∧ E (.ref (He.ga K c)) (some d) (upd (del H2 a) d (.xd fs))) (fun _ _ _ => False) := by
  refine ⟨by simp, fun a ha => ⟨a, v, rfl, upd_same, fun dx hd hne => ?_⟩⟩
  rw [upd_ne hne] at hd
  refine ⟨rfl, dx, [(f, v)], upd_same, ?_, hd, ?_⟩
  · rw [upd_ne hne, upd_same]
  · rw [back_one ha hne]
    exact h dx hd
end U
namespace U
open PySem PySem.Spec PyProof.Rows L2

/-! ### a def of the module, wherever it is called from -/
structure GoodO (P : Program) (w : World) (K : PySem.W.Frag) (mg : Str → Option Value) (base : Heap) (k : Nat) (x : Str) (ps : List Str) (sp : Sp) : Prop where
  fn : ∃ fd, FnOk P w K mg base (L2.CX P w) k (He.ga K x) fd ps sp ∧ Binds K fd ps []
  mg : mg x = some (.ref (He.ga K x))
  kp : PySem.W.keepIn K (.ref (He.ga K x)) = true
section
variable {X : Cx} {k : Nat} {x m : Str} {ps : List Str} {sp : Sp} {E : XK} {p pos apos : Pos} {e o : Expr} {es : List Expr} {ta : TE} {t : TA}
theorem tFn_eq (sp : Sp) (E : XK) (t : TA) : tCall sp [] E t = tFn sp E t := by
  unfold tCall tFn
  simp only [List.append_nil]
theorem pe_fo (g : GoodO X.prog X.w X.K X.mg X.base k x ps sp) (hr : Room k X.A) (hg : Gl X x) (hx : Passes (L2.CX X.prog X.w) X E)
    (hpl : (backTo pos (starEach es X.env)).any (·.1) = false := by rfl) (he : starEach (e :: es) X.env = (false, eval e X.env) :: starEach es X.env := by rfl) (ha : PA X (e :: es) t)
    (hdb : (x == ("__debug__" : Str)) = false := by decide) :
    PE X (.Call (.Name x p) (e :: es) [] pos) (tFn sp E t) := by
  obtain ⟨fd, F, hb⟩ := g.fn
  exact tFn_eq sp E t ▸ pe_call F hr hg g.mg g.kp hb .nil hx ha hdb he hpl
end
/-! ### promises by the number of arguments -/
def sp1 (f : V → Hp → VK → XK → Prop) : Sp := fun vs H Q E => match vs with
  | [x] => f x H Q E
  | _ => False
def sp2 (f : V → V → Hp → VK → XK → Prop) : Sp := fun vs H Q E => match vs with
  | [x, y] => f x y H Q E
  | _ => False
def sp3 (f : V → V → V → Hp → VK → XK → Prop) : Sp := fun vs H Q E => match vs with
  | [x, y, z] => f x y z H Q E
  | _ => False
def sp4 (f : V → V → V → V → Hp → VK → XK → Prop) : Sp := fun vs H Q E => match vs with
  | [x, y, z, u] => f x y z u H Q E
  | _ => False
theorem sp1_len {f : V → Hp → VK → XK → Prop} {a : Str} : ∀ vs H Q E, sp1 f vs H Q E → vs.length = ([a] : List Str).length := fun vs H Q E h => match vs, h with
  | [_], _ => rfl
theorem sp2_len {f : V → V → Hp → VK → XK → Prop} {a b : Str} : ∀ vs H Q E, sp2 f vs H Q E → vs.length = ([a, b] : List Str).length := fun vs H Q E h => match vs, h with
  | [_, _], _ => rfl
theorem sp3_len {f : V → V → V → Hp → VK → XK → Prop} {a b c : Str} : ∀ vs H Q E, sp3 f vs H Q E → vs.length = ([a, b, c] : List Str).length := fun vs H Q E h => match vs, h with
  | [_, _, _], _ => rfl
theorem sp4_len {f : V → V → V → V → Hp → VK → XK → Prop} {a b c d : Str} : ∀ vs H Q E, sp4 f vs H Q E → vs.length = ([a, b, c, d] : List Str).length := fun vs H Q E h => match vs, h with
  | [_, _, _, _], _ => rfl
/-! ### kinds of values -/
inductive Ty where
  | non | bl | int | str | lst | tup | dct | yard
  deriving DecidableEq
def Ty.v (K : PySem.W.Frag) : Ty → Value
  | .non => .type "NoneType"
  | .bl => .type "bool"
  | .int => .type "int"
  | .str => .type "str"
  | .lst => .type "list"
  | .tup => .type "tuple"
  | .dct => .type "dict"
  | .yard => .ref (He.ga K "Yard")
def Ty.all : List Ty := [.non, .bl, .int, .str, .lst, .tup, .dct, .yard]
theorem Ty.mem_all (a : Ty) : a ∈ Ty.all := by cases a <;> decide
def Ty.sub (a b : Ty) : Bool := decide (a = b) || (decide (a = .bl) && decide (b = .int))
/-- a value of a kind -/
def Is (K : PySem.W.Frag) (H : Hp) (x : V) (a : Ty) : Prop := TyX K H x (a.v K)
/-- a tuple of the module without a dict -/
def tupO (K : PySem.W.Frag) (x : Str) : Bool := match K.lookup (He.ga K x) with
  | some o => decide (o.cls = .type "tuple") && o.dict.isNone
  | none => false
theorem tupO_ok {K : PySem.W.Frag} {x : Str} (h : tupO K x = true) (H : Hp) : tyV K "tuple" (.ref (He.ga K x)) H := by
  unfold tupO at h
  split at h
  · rename_i o ho
    simp only [Bool.and_eq_true, decide_eq_true_eq, Option.isNone_iff_eq_none] at h
    exact .inr (.inl ⟨rfl, o, ho, h.1, h.2⟩)
  · cases h
/-- what the head tells, whatever the law -/
def kfB (K : PySem.W.Frag) : Bool := (Ty.all.all fun a => Ty.all.all fun b => decide (PySem.W.kitOne K (a.v K) (b.v K) = some (a.sub b))) &&
  (He.tupB K "WAYS" [.str "ab", .str "ac", .str "ba", .str "bc", .str "ca", .str "cb"] &&
  ((He.Fa.cls "Yard").ok K && ((He.Fa.noat "Yard" "_rows").ok K && (He.eqO (PySem.W.findIn K (.ref (He.ga K "Yard")) "__class__") (some (some (.builtin "object.__class__"))) &&
  (He.eqO (PySem.W.specialIn K (.builtin "object.__class__") "__get__") (some (some (.builtin "getset_descriptor.__get__"))) && (decide (PySem.W.takesIn K (.builtin "object.__class__") = some true) && (decide (PySem.W.mroIn K (He.ga K "Yard") (.type "object") = some true) && (tupO K "WAYS" && ((He.Fa.noat "Yard" "_reckoning").ok K && (Ty.all.all fun a => PySem.W.notFirst K (He.ga K "Yard") (a.v K)))))))))))
structure KF (K : PySem.W.Frag) : Prop where
  kit : ∀ a b : Ty, PySem.W.kitOne K (a.v K) (b.v K) = some (a.sub b)
  ways : ∀ H, SqT K H (He.ga K "WAYS") [.str "ab", .str "ac", .str "ba", .str "bc", .str "ca", .str "cb"]
  cl : Cls K (He.ga K "Yard")
  na : NoAttr K (He.ga K "Yard") "_rows"
  c1 : PySem.W.findIn K (.ref (He.ga K "Yard")) "__class__" = some (some (.builtin "object.__class__"))
  c2 : PySem.W.specialIn K (.builtin "object.__class__") "__get__" = some (some (.builtin "getset_descriptor.__get__"))
  c3 : PySem.W.takesIn K (.builtin "object.__class__") = some true
  c4 : PySem.W.mroIn K (He.ga K "Yard") (.type "object") = some true
  wO : ∀ H, tyV K "tuple" (.ref (He.ga K "WAYS")) H
  na2 : NoAttr K (He.ga K "Yard") "_reckoning"
  nf : ∀ a : Ty, PySem.W.notFirst K (He.ga K "Yard") (a.v K) = true
theorem kfB_ok {K : PySem.W.Frag} (h : kfB K = true) : KF K := by
  unfold kfB at h
  simp only [decide_eq_true_eq, Bool.and_eq_true] at h
  obtain ⟨h1, h3, h4, h5, h6, h7, h8, h9, h11, h12, h13⟩ := h
  refine ⟨fun a b => ?_, fun H => He.tupB_ok h3 H, He.cls_ok h4, He.noat_ok h5, He.eqO_ok h6, He.eqO_ok h7, h8, h9, fun H => tupO_ok h11 H, He.noat_ok h12, fun a => List.all_eq_true.mp h13 a a.mem_all⟩
  have := List.all_eq_true.mp (List.all_eq_true.mp h1 a a.mem_all) b b.mem_all
  exact of_decide_eq_true this
section
variable {K : PySem.W.Frag} {H : Hp} {x : V}
theorem is_non : Is K H .non .non := .base .non
theorem is_bl (b : Bool) : Is K H (.bl b) .bl := .base (.bl b)
theorem is_int (i : Int) : Is K H (.int i) .int := .base (.int i)
theorem is_str (z : Str) : Is K H (.str z) .str := .base (.str z)
theorem is_lst {p : Addr} {xs : List V} (h : H p = some (.lst xs)) : Is K H (.ref p) .lst := .base (.lst h)
theorem is_dct {p : Addr} {xs : List (Key × V)} (h : H p = some (.dK xs)) : Is K H (.ref p) .dct := .base (.dK h)
theorem is_sqL {p : Addr} {xs : List V} (h : SqL K H p xs) : Is K H (.ref p) .lst := by
  rcases h with (h | ⟨o, h⟩) | ⟨o, its, n, h, hc, _⟩
  · exact .base (.lst h)
  · exact .base (.frz h)
  · exact .kList h hc
theorem is_sqT {p : Addr} {xs : List V} (h : SqT K H p xs) : Is K H (.ref p) .tup := by
  rcases h with (h | ⟨o, h⟩) | ⟨o, its, n, h, hc, _⟩
  · exact .base (.tup h)
  · exact .fTuple h
  · exact .kTuple h hc
theorem is_yard (F : KF K) {p dx : Addr} {fs : List (Str × V)} (h : H p = some (.ins (He.ga K "Yard") dx fs)) : Is K H (.ref p) .yard := .base (.ins h F.cl F.c1 F.c2 F.c3 F.c4)
/-- only texts are texts, only integers are integers, and so on -/
theorem Is.str_inv (h : Is K H x .str) : ∃ z, x = .str z := by
  have key : ∀ t, TyX K H x t → t = .type "str" → ∃ z, x = .str z := by
    intro t h e
    cases h with
    | base b => cases b <;> first | exact ⟨_, rfl⟩ | (injection e with e; exact absurd e (by decide)) | cases e
    | _ => injection e with e; exact absurd e (by decide)
  exact key _ h rfl
theorem Is.int_inv (h : Is K H x .int) : ∃ z, x = .int z := by
  have key : ∀ t, TyX K H x t → t = .type "int" → ∃ z, x = .int z := by
    intro t h e
    cases h with
    | base b => cases b <;> first | exact ⟨_, rfl⟩ | (injection e with e; exact absurd e (by decide)) | cases e
    | _ => injection e with e; exact absurd e (by decide)
  exact key _ h rfl
theorem Is.bl_inv (h : Is K H x .bl) : ∃ z, x = .bl z := by
  have key : ∀ t, TyX K H x t → t = .type "bool" → ∃ z, x = .bl z := by
    intro t h e
    cases h with
    | base b => cases b <;> first | exact ⟨_, rfl⟩ | (injection e with e; exact absurd e (by decide)) | cases e
    | _ => injection e with e; exact absurd e (by decide)
  exact key _ h rfl
end
/-! ### heaps that keep what they have -/
theorem same_new {H : Hp} {p : Addr} {o : HO} (h : H p = none) : Same H (upd H p o) := fun b u e => by
  rw [upd_ne (ne_of_none e h)]
  exact e
theorem Same.sqT {K : PySem.W.Frag} {H H' : Hp} {a : Addr} {xs : List V} (e : Same H H') (h : SqT K H a xs) : SqT K H' a xs :=
  h.imp (Or.imp (e _ _) fun ⟨o, z⟩ => ⟨o, e _ _ z⟩) id
end U
namespace U
open PySem PySem.Spec PyProof.Rows L2

/-! ### the module's table of thirds -/
def thirds : List (Str × Str) := [("ab", "c"), ("ac", "b"), ("ba", "c"), ("bc", "a"), ("ca", "b"), ("cb", "a")]
end U
namespace U
open PySem PySem.Spec PyProof.Rows L2

/-! ### the module's table of columns -/
def columns : List (Str × Int) := [("ab", 0), ("ac", 1), ("ba", 2), ("bc", 3), ("ca", 4), ("cb", 5)]
def ColK (K : PySem.W.Frag) (w : World) : Prop := ∀ q ∈ columns, KDct K w (He.ga K "COLUMNS") q.1 (.int q.2)
def rCol (K : PySem.W.Frag) : R2 := fun x y H Q => ∃ z v, x = .ref (He.ga K "COLUMNS") ∧ y = .str z ∧ (z, v) ∈ columns ∧ Q (.int v) H
theorem ix_col {X : Cx} (h : ColK X.K X.w) : IxR X (rCol X.K) := by
  intro ea eb pins s σ H x y u v Q I rx ry q
  obtain ⟨z, t, rfl, rfl, hm, q⟩ := q
  exact ix_kdict ea eb pins s σ H _ _ u v Q I rx ry ⟨_, z, _, rfl, rfl, h _ hm, q⟩
def colB (K : PySem.W.Frag) : Bool := He.valsB K (He.ga K "COLUMNS") (columns.map fun q => (q.1, He.Dv.int q.2))
theorem colK_of {K : PySem.W.Frag} {w : World} (hd : ∃ es n, KDict K w (He.ga K "COLUMNS") es n) (hv : colB K = true) : ColK K w := by
  obtain ⟨es, n, h1, h2, h3⟩ := hd
  intro q hq
  obtain ⟨u, e, r⟩ := He.valsB_ok hv (List.mem_map.mpr ⟨q, hq, rfl⟩)
  exact ⟨es, n, u, h1, h2, e, r⟩
/-! ### text.strip(signs), text.rfind(sign) -/
end U
namespace U
open PySem PySem.Spec PyProof.Rows L2

/-! ### xs[k] += n -/
/-! ### zip(list, tuple) -/
def ItzM (K : PySem.W.Frag) (a b : Addr) : It :=
  ⟨fun i H => ∃ xs ys x y, SqL K H a xs ∧ (SqT K H b ys ∧ (xs[i]? = some x ∧ ys[i]? = some y)),
    fun i H v H' => ∃ T x y, v = .ref T ∧ (H T = none ∧ (H' = upd H T (.tup [x, y]) ∧ ((∀ xs, SqL K H a xs → xs[i]? = some x) ∧ ∀ ys, SqT K H b ys → ys[i]? = some y))),
    fun i H => ∃ xs ys, SqL K H a xs ∧ (SqT K H b ys ∧ (i ≤ xs.length ∧ (i ≤ ys.length ∧ (i = xs.length ∨ i = ys.length))))⟩
/-- the five cells of such a zip, and the two that it reads -/
structure ZCells (z TI TO i1 i2 a b : Addr) : Prop where
  n1 : TI ≠ z
  n2 : TO ≠ z
  n3 : TI ≠ TO
  n4 : TI ≠ i1
  n5 : TI ≠ i2
  n6 : z ≠ i1
  n7 : z ≠ i2
  n8 : TO ≠ i1
  n9 : TO ≠ i2
  n10 : i1 ≠ i2
  a1 : a ≠ z
  a2 : a ≠ TO
  a3 : a ≠ i1
  a4 : a ≠ i2
  b1 : b ≠ z
  b2 : b ≠ TO
  b3 : b ≠ i1
  b4 : b ≠ i2
theorem ZCells.sep {z TI TO i1 i2 a b : Addr} (c : ZCells z TI TO i1 i2 a b) : ZipSep2 z TI TO i1 i2 [i1, a] [i2, b] where
  TIz := c.n1
  TOz := c.n2
  TITO := c.n3
  TIi1 := c.n4
  mem1 := List.mem_cons_self
  zf1 := by simp [c.n6, c.a1.symm]
  Tf1 := by simp [c.n8, c.a2.symm]
  TIi2 := c.n5
  mem2 := List.mem_cons_self
  zf2 := by simp [c.n7, c.b1.symm]
  Tf2 := by simp [c.n9, c.b2.symm]
  sep1_2 := by simp [c.n10, c.b3.symm]
  sep2_1 := by simp [c.n10.symm, c.a4.symm]
theorem zcells_new (n a b : Nat) (la : a < n) (lb : b < n) : ZCells (n + 4) (n + 2) (n + 3) n (n + 1) a b := by
  constructor <;> (show ¬ ((_ : Nat) = _)) <;> omega
theorem five {z TI TO i1 i2 q : Addr} (h : q ∈ [z, TI, TO, i1, i2]) : q = z ∨ (q = TI ∨ (q = TO ∨ (q = i1 ∨ q = i2))) := by simpa using h
theorem turn_zipM {P : Program} {w : World} {K : PySem.W.Frag} {el : List Expr} {kk : Nat} {tp : Pos} {a b z TI TO i1 i2 : Addr} (C : ZCells z TI TO i1 i2 a b) :
    Turn P w K (.Tuple el kk tp) (ItzM K a b) [z, TI, TO, i1, i2] z (fun i h => IsZip h z TI TO .none ∧ (IsTupOf2 h TI (.ref i1) (.ref i2) ∧ ((∃ x y, IsTupOf2 h TO x y) ∧ (h.IsListIter i1 a i ∧ h.IsTupleIter i2 b i)))) where
  mem := by simp
  obj := fun i h st c hc => by
    obtain ⟨g1, g2, ⟨u, v, g3⟩, ⟨o1, e1, _, d1⟩, ⟨o2, e2, _, d2⟩⟩ := st
    rcases five hc with q | q | q | q | q <;> rw [q]
    · exact ⟨_, g1, fun v q => nomatch q⟩
    · exact ⟨_, g2, fun v q => nomatch q⟩
    · exact ⟨_, g3, fun v q => nomatch q⟩
    · refine ⟨o1, e1, fun v q => ?_⟩
      rw [d1] at q
      cases q
    · refine ⟨o2, e2, fun v q => ?_⟩
      rw [d2] at q
      cases q
  keep := fun i h h' st k => by
    obtain ⟨g1, g2, ⟨u, v, g3⟩, g4, g5⟩ := st
    exact ⟨k _ (by simp) _ g1, k _ (by simp) _ g2, ⟨u, v, k _ (by simp) _ g3⟩, g4.at fun o y => k _ (by simp) o y, g5.at fun o y => k _ (by simp) o y⟩
  item := by
    intro X hP hw hK hc
    intro i pins s σ H E I hf st hg
    subst hP hw hK
    obtain ⟨g1, g2, ⟨x0, y0, g3⟩, g4, g5⟩ := st
    obtain ⟨xs, ys, x, y, qx, qy, hx, hy⟩ := hg
    obtain ⟨us, r1, p1, _⟩ := I.list qx
    obtain ⟨vs, r2, p2, _⟩ := I.tuple qy
    obtain ⟨u, hu, ru⟩ := r1.get hx
    obtain ⟨v, hv, rv⟩ := r2.get hy
    have zl : z < s.heap.objs.size := Heap.lt_size g1
    have D1 := Draws.list (prog := X.prog) (w := X.w) (A := X.A.in1) (I.ok.hd hc) i1 a C.a3 us.toArray
    have D2 := Draws.tuple (prog := X.prog) (w := X.w) (A := X.A.in1) (I.ok.hd hc) i2 b C.b4 vs.toArray
    have lu : i < us.toArray.size := by simpa using (List.getElem?_eq_some_iff.mp hu).1
    have lv : i < vs.toArray.size := by simpa using (List.getElem?_eq_some_iff.mp hv).1
    refine wpAny_pyNext_zipD2_item C.sep D1 D2 g1 g2 g3 ⟨g4, p1.isList⟩ ⟨g5, p2⟩ lu lv fun x1 x2 h1 tk ex ey z1 t1 s1 s2 hT hsz hk => ?_
    obtain rfl : x1 = u := by
      have ex : us.toArray[i]? = some x1 := ex
      simp [hu] at ex
      exact ex.symm
    obtain rfl : x2 = v := by
      have ey : vs.toArray[i]? = some x2 := ey
      simp [hv] at ey
      exact ey.symm
    refine ⟨_, rfl, wpAny_letOwnedTupleGo_zip (s := { s with heap := h1, toks := tk }) z1 fun h2 z2 sb => ?_⟩
    have T2 : h2.get? s.heap.objs.size = some { cls := .type "tuple", data := .seq #[x1, x2] } := (sb.2 _ (Nat.ne_of_gt zl)).trans hT
    have new : ObjOk X.prog X.w (upd H s.heap.objs.size (.tup [x, y])) h2 s.heap.objs.size (.tup [x, y]) := ⟨by show 2 ≤ sizeLine; decide, [x1, x2], .cons ru (.cons rv .nil), ⟨_, T2, rfl, _, rfl⟩⟩
    have k2 : ∀ c o, c ≠ z → c ≠ TO → c ≠ i1 → c ≠ i2 → s.heap.get? c = some o → h2.get? c = some o := fun c o c1 c2 c3 c4 e => (sb.2 c c1).trans (hk c o c1 c2 c3 c4 e)
    have I1 : Inv X pins σ (upd H s.heap.objs.size (.tup [x, y])) { s with heap := h2, toks := tk } :=
      I.turnedNew (ch := [z, TI, TO, i1, i2]) (fun c o hb => k2 c o (fun e => hb (by simp [e])) (fun e => hb (by simp [e])) (fun e => hb (by simp [e])) fun e => hb (by simp [e])) hf (Nat.le_refl _) new
    refine ⟨.ref s.heap.objs.size, _, I1, rfl, ⟨_, x, y, rfl, I.hok.fresh (Nat.le_refl _), rfl, fun l hl => ?_, fun l hl => ?_⟩, ⟨z2, k2 _ _ C.n1 C.n3 C.n4 C.n5 g2, ⟨x1, x2, (sb.2 _ C.n2).trans t1⟩, ?_, ?_⟩, fun c hcm => ?_⟩
    · rw [I.list_inj hl qx]
      exact hx
    · rw [I.tuple_inj hl qy]
      exact hy
    · exact s1.1.at fun o q => (sb.2 _ C.n6.symm).trans q
    · exact s2.1.at fun o q => (sb.2 _ C.n7.symm).trans q
    · have below : c < s.heap.objs.size := by
        rcases five hcm with q | q | q | q | q
        · exact q ▸ zl
        · exact q ▸ Heap.lt_size g2
        · exact q ▸ Heap.lt_size g3
        · obtain ⟨_, e, _⟩ := g4
          exact q ▸ Heap.lt_size e
        · obtain ⟨_, e, _⟩ := g5
          exact q ▸ Heap.lt_size e
      rw [upd_ne (Nat.ne_of_lt below)]
      exact (hf c hcm).1
  done := by
    intro X hP hw hK hc
    intro i pins s σ H E I hf st hg
    subst hP hw hK
    obtain ⟨g1, g2, ⟨x0, y0, g3⟩, g4, g5⟩ := st
    obtain ⟨xs, ys, qx, qy, l1, l2, l3⟩ := hg
    obtain ⟨us, r1, p1, _⟩ := I.list qx
    obtain ⟨vs, r2, p2, _⟩ := I.tuple qy
    have e1 := r1.length
    have e2 := r2.length
    have D1 := Draws.list (prog := X.prog) (w := X.w) (A := X.A.in1) (I.ok.hd hc) i1 a C.a3 us.toArray
    have D2 := Draws.tuple (prog := X.prog) (w := X.w) (A := X.A.in1) (I.ok.hd hc) i2 b C.b4 vs.toArray
    refine wpAny_pyNext_zipD2_end C.sep D1 D2 g1 g2 g3 ⟨g4, p1.isList⟩ ⟨g5, p2⟩ (by simp; omega) (by simp; omega) (by simp; omega) fun h1 tk hk => ⟨rfl, I.turnedL (ch := [z, TI, TO, i1, i2]) (fun c o hb => hk c o (fun e => hb (by simp [e])) (fun e => hb (by simp [e])) (fun e => hb (by simp [e])) fun e => hb (by simp [e])) hf⟩
  self := fun _ _ _ _ _ st h => wpAny_pyIter_zip st.1 h
def iZipM (K : PySem.W.Frag) (ta : TA) : TI := fun σ H R => ta σ H fun vs H1 => ∃ a b xs ys, vs = [.ref a, .ref b] ∧ (SqL K H1 a xs ∧ (SqT K H1 b ys ∧ R (ItzM K a b) H1))
theorem pi_zipM {X : Cx} {f1 f2 : Expr} {ta : TA} {p pos tpos : Pos} {elts : List Expr} {kk : Nat} (hg : Gl X "zip") (hm : X.mg "zip" = none) (ha : PA X [f1, f2] ta)
    (hs : starEach [f1, f2] X.env = (false, eval f1 X.env) :: starEach [f2] X.env := by rfl) (hpl : (backTo pos (starEach [f2] X.env)).any (·.1) = false := by rfl) :
    PI X (.Tuple elts kk tpos) (.Call (.Name "zip" p) [f1, f2] [] pos) (iZipM X.K ta) := by
  refine .mk ?_
  intro pins s σ H R I h
  refine Call_ (ld_blt I hg hm boot_zip (PyProof.Rows.callWith_type1 (thn (ha.run pos pins s σ H _ I h) fun us s1 q0 => ?_) hs hpl))
  obtain ⟨vs, H1, I1, r1, a, b, xs, ys, ex, qx, qy, q⟩ := q0
  subst ex
  obtain ⟨v1, v2, rfl, rfl, rfl⟩ : ∃ v1 v2, us = [v1, v2] ∧ v1 = .ref a ∧ v2 = .ref b := by
    cases r1 with
    | cons r r2 =>
      cases r2 with
      | cons r' r3 =>
        cases r3
        cases r
        cases r'
        exact ⟨_, _, rfl, rfl, rfl⟩
  obtain ⟨xv, rv, p1, _⟩ := I1.list qx
  obtain ⟨yv, rw', p2, _⟩ := I1.tuple qy
  have lta : a < s1.heap.objs.size := p1.lt
  have lb : b < s1.heap.objs.size := by
    obtain ⟨o, ho, _⟩ := id p2
    exact Heap.lt_size ho
  refine zip_begins2 (begins_list a xv.toArray) (begins_tuple b yv.toArray) p1.isList p2 fun h1 hz hTI hTO g1 g2 hsz hk => wpAny_pyIter_zip hz ?_
  have I2 : Inv X pins σ H1 { s1 with heap := h1 } := I1.kept (t' := s1.toks) hk
  have C : ZCells (s1.heap.objs.size + 4) (s1.heap.objs.size + 2) (s1.heap.objs.size + 3) s1.heap.objs.size (s1.heap.objs.size + 1) a b := zcells_new s1.heap.objs.size a b lta lb
  refine ⟨s1.heap.objs.size + 4, [s1.heap.objs.size + 4, s1.heap.objs.size + 2, s1.heap.objs.size + 3, s1.heap.objs.size, s1.heap.objs.size + 1], _, _, H1, rfl, I2, turn_zipM C, ⟨hz, hTI, ⟨_, _, hTO⟩, ⟨_, g1, rfl, rfl⟩, ⟨_, g2, rfl, rfl⟩⟩, fun c hcm => ?_, q⟩
  have above : s1.heap.objs.size ≤ c := by
    rcases five hcm with e | e | e | e | e <;> rw [e]
    · exact Nat.le_add_right _ 4
    · exact Nat.le_add_right _ 2
    · exact Nat.le_add_right _ 3
    · exact Nat.le_refl _
    · exact Nat.le_add_right _ 1
  exact I1.fpOk above (I1.hok.fresh above)
/-- zip of a list and a list or a tuple -/
def iZipU (K : PySem.W.Frag) (ta : TA) : TI := fun σ H R => iZip K ta σ H R ∨ iZipM K ta σ H R
theorem pi_zipU {X : Cx} {f1 f2 : Expr} {ta : TA} {p pos tpos : Pos} {elts : List Expr} {kk : Nat} (hg : Gl X "zip") (hm : X.mg "zip" = none) (ha : PA X [f1, f2] ta)
    (hs : starEach [f1, f2] X.env = (false, eval f1 X.env) :: starEach [f2] X.env := by rfl) (hpl : (backTo pos (starEach [f2] X.env)).any (·.1) = false := by rfl) :
    PI X (.Tuple elts kk tpos) (.Call (.Name "zip" p) [f1, f2] [] pos) (iZipU X.K ta) := by
  refine .mk ?_
  intro pins s σ H R I h
  rcases h with h | h
  · exact (pi_zip hg hm ha hs hpl).run pins s σ H R I h
  · exact (pi_zipM hg hm ha hs hpl).run pins s σ H R I h
/-- what yields pairs -/
structure Zipped (J : It) (xs ys : List V) (G : Hp → Prop) : Prop where
  go : ∀ i H, G H → i < xs.length → i < ys.length → J.go i H
  yld : ∀ i H v H', G H → J.yld i H v H' → ∃ T x y, v = .ref T ∧ H T = none ∧ H' = upd H T (.tup [x, y]) ∧ xs[i]? = some x ∧ ys[i]? = some y
  stop : ∀ i H, G H → i ≤ xs.length → i ≤ ys.length → (i = xs.length ∨ i = ys.length) → J.stop i H
theorem zipped_LL {K : PySem.W.Frag} {a b : Addr} {xs ys : List V} : Zipped (Itz K a b) xs ys fun H => SqL K H a xs ∧ SqL K H b ys where
  go := fun i H g l1 l2 => ⟨xs, ys, xs[i], ys[i], g.1, g.2, List.getElem?_eq_getElem l1, List.getElem?_eq_getElem l2⟩
  yld := fun i H v H' g ⟨T, x, y, h1, h2, h3, h4, h5⟩ => ⟨T, x, y, h1, h2, h3, h4 xs g.1, h5 ys g.2⟩
  stop := fun i H g l1 l2 e => ⟨xs, ys, g.1, g.2, by omega⟩
/-- a comprehension over such pairs -/
theorem lc_zip {J : It} {xs ys : List V} {G : Hp → Prop} (Z : Zipped J xs ys G) {g : TG} {tt : TT} {te : TE} {vs : List Nat} {σ : L2.St} {H1 : Hp} {D : Addr} {Qd : Hp → Prop} (Pv : Nat → Hp → Prop) (h0 : Pv 0 (upd H1 D (.lst []))) (hG : ∀ i H, Pv i H → G H)
    (hs : ∀ i x y T H, xs[i]? = some x → ys[i]? = some y → Pv i H → H T = none → lcT g tt te vs σ D (Pv (i + 1)) (.ref T) (upd H T (.tup [x, y]))) (hd : ∀ H, Pv (min xs.length ys.length) H → Qd H) : LcB J g tt te vs σ H1 D Qd := by
  refine ⟨fun i m H => m = min xs.length ys.length - i ∧ i ≤ min xs.length ys.length ∧ Pv i H, ⟨_, rfl, Nat.zero_le _, h0⟩, ?_⟩
  rintro i m H ⟨rfl, hi, p⟩
  by_cases lt : i < min xs.length ys.length
  · refine .inr ⟨Z.go i H (hG i H p) (by omega) (by omega), Pv (i + 1), fun H' p' => ⟨min xs.length ys.length - (i + 1), by omega, rfl, lt, p'⟩, fun v H' yd => ?_⟩
    obtain ⟨T, x, y, rfl, hT, rfl, e1, e2⟩ := Z.yld i H v H' (hG i H p) yd
    exact hs i x y T H e1 e2 p hT
  · have e : i = min xs.length ys.length := by omega
    subst e
    exact .inl ⟨Z.stop _ H (hG _ H p) (by omega) (by omega) (by omega), hd H p⟩
end U
namespace U
open PySem PySem.Spec PyProof.Rows L2

/-! ### y = {k: v for ..} -/
section
variable {X : Cx}
end
end U
namespace U
open PySem PySem.Spec PyProof.Rows L2

/-! ### sorted(d.values()), fewer than 64 integers -/
end U
namespace U
open PySem PySem.Spec PyProof.Rows L2

/-! ### len(set(text)) -/
section
variable {P : Program} {w : World} {A : Around} {E : Value → Shared → Prop} {z : Str}
local macro_rules | `(tactic| walk_at "g") => `(tactic| repeat (any_goals (first | assumption | wp_step)))
end
section
variable {X : Cx} {p p2 q pos : Pos} {a : Expr} {ta : TE}
end
end U
namespace U
open PySem PySem.Spec PyProof.Rows L2

/-! ### len(set(texts)), no text twice -/
section
variable {P : Program} {w : World} {A : Around} {E : Value → Shared → Prop} {xs : List Str} {items : Array Value}
local macro_rules | `(tactic| walk_at "g") => `(tactic| repeat (any_goals (first | assumption | wp_step)))
end
section
variable {X : Cx} {p p2 q pos : Pos} {a : Expr} {ta : TE}
end
end U
namespace U
open PySem PySem.Spec PyProof.Rows L2

/-! ### except (A, B, ..): which exceptions such a clause takes -/
section
variable {M : Model} {A : Around} {s : Shared} {E : Value → Shared → Prop}
end
end U
namespace U
open PySem PySem.Spec PyProof.Rows L2

/-! ### try: several clauses, each with or without a name, of one class or of several -/
theorem flying_keep {B h h' : Heap} {l : List Env} {a : Addr} {Z : Obj → Prop} (k : ∀ b o, h.get? b = some o → h'.get? b = some o) (x : HandSPX.FlyingZ B l a Z h) : HandSPX.FlyingZ B l a Z h' := by
  obtain ⟨x1, x2, x3, oe, vs, T, oT, ts, y1, y2, y3, y4, y5, y6, y7, y8⟩ := x
  exact ⟨fun b o e => k _ _ (x1 b o e), x2, x3.of_keeps fun b o e _ => ⟨o, k _ _ e, rfl⟩, oe, vs, T, oT, ts, k _ _ y1, y2, y3, y4, y5, y6, k _ _ y7, y8⟩
/-- the expression of a clause: which classes it takes -/
def TeX (X : Cx) (e : Expr) (m : Value → Option Bool) : Prop := ∀ {a : Addr} {oe : Obj} {cls : Value} {b : Bool} {pn pins : List (Addr × Obj)} {σ : L2.St} {H : Hp} {s : Shared} {Q : Bool → Shared → Prop} {E : Value → Shared → Prop},
  Inv (X.suite a ((a, oe) :: pn)) pins σ H s → s.heap.get? a = some oe → oe.cls = cls → m cls = some b → (∀ h', (∀ c o, s.heap.get? c = some o → h'.get? c = some o) → Q b { s with heap := h' }) →
  wpAny (model X.prog X.w) (X.A.mark (some (.ref a))) (eval e X.env) (fun c s1 => wpAny (model X.prog X.w) (X.A.mark (some (.ref a))) (excMatches (.ref a) c) Q E s1) E s
section
variable {X : Cx}
theorem look_name {a : Addr} {pn pins : List (Addr × Obj)} {σ : L2.St} {H : Hp} {s : Shared} {x : Str} {c : Value} {np : Pos} (hc : Names X x c) (S : Inv (X.suite a pn) pins σ H s) {Q : Value → Shared → Prop} {E : Value → Shared → Prop} (q : Q c s) :
    wpAny (model X.prog X.w) (X.A.mark (some (.ref a))) (eval (.Name x np) X.env) Q E s := by
  obtain ⟨g, nd, m | ⟨m, v, nn⟩⟩ := hc
  · exact ld_glob S g m q nd
  · exact ld_blt S g m v q nn nd
theorem type_looks {M : Model} {h : Heap} {a : Addr} {oe : Obj} (he : h.get? a = some oe) : PySem.W.Looks M h (typeOf (.ref a)) oe.cls := fun A Q E s k q => wpAny_typeOf_ref (k _ _ he) q
theorem te_name {x : Str} {c : Value} {np : Pos} (hc : Names X x c) : TeX X (.Name x np) fun cls => PySem.W.exmOne X.K cls c := by
  intro a oe cls b pn pins σ H s Q E S he ec hm q
  subst ec
  exact look_name hc S ((PySem.W.exm_one S.kIn (type_looks he) hm).here (q s.heap fun _ _ z => z))
end
/-- a clause: what it takes, its name's slot, its suite -/
structure Clz where
  m : Value → Option Bool
  nm : Option Nat
  ts : Addr → Value → Option Addr → TS
def named (i : Option Nat) (a : Addr) (σ : L2.St) : L2.St := match i with
  | none => σ
  | some i => σ.set i (some (.ref a))
def unnamed (i : Option Nat) (σ : L2.St) : L2.St := match i with
  | none => σ
  | some i => σ.set i none
def undone (i : Option Nat) (D : Ends) : Ends := { nx := fun σ H => D.nx (unnamed i σ) H, rt := D.rt, bk := fun σ H => D.bk (unnamed i σ) H, ct := fun σ H => D.ct (unnamed i σ) H }
/-- what is asked of an exception by the clauses in turn -/
def wCl (Wout : WX) (D : Ends) : List Clz → WX
  | [] => Wout
  | c :: r => fun cls d σ H => ∃ b, c.m cls = some b ∧ (b = true → ∀ a, H a = none → c.ts a cls d (undone c.nm D) (named c.nm a σ) H) ∧ (b = false → wCl Wout D r cls d σ H)
def NmOk (X : Cx) : Option Str → Option Nat → Prop
  | none, none => True
  | some n, some i => X.N[i]? = some n ∧ X.env.kindOf n = some .local
  | _, _ => False
inductive ClsOk (X : Cx) : List ExceptHandler → List Clz → Prop
  | nil : ClsOk X [] []
  | cons {e : Expr} {m : Value → Option Bool} {name : Option Str} {nm : Option Nat} {ts : Addr → Value → Option Addr → TS} {b0 : Stmt} {suite : List Stmt} {pos' : Pos} {hds : List ExceptHandler} {l : List Clz} (te : TeX X e m) (hn : NmOk X name nm)
      (su : ∀ (a : Addr) (oe : Obj) (cls : Value) (d : Option Addr) (pn : List (Addr × Obj)), Zc cls d oe → (∃ vs, oe.data = .fields vs) → PSs (X.suite a ((a, oe) :: pn)) (b0 :: suite) (ts a cls d)) (r : ClsOk X hds l) :
      ClsOk X (.ExceptHandler (some e) name (b0 :: suite) pos' :: hds) (⟨m, nm, ts⟩ :: l)
section
variable {X : Cx} {body : List Stmt} {h0 : ExceptHandler} {hds : List ExceptHandler} {l : List Clz} {pos : Pos} {tb : WX → TS} {Wout : WX}
/-- the state behind a suite, seen from around it -/
theorem sp_back {pins : List (Addr × Obj)} {a : Addr} {q : Addr × Obj} {D D' : Ends} {f : Flow} {s : Shared} (ok : X.Ok) (h : SP (X.suite a (q :: (X.pn ++ pins))) [] D' f s)
    (e : ∀ σ H s', Inv X pins σ H s' → s' = s → (D'.nx σ H → D.nx σ H) ∧ (D'.bk σ H → D.bk σ H) ∧ (D'.ct σ H → D.ct σ H)) (er : D'.rt = D.rt) : SP X pins D f s := by
  cases f with
  | next =>
    obtain ⟨σ', H', S, z⟩ := h
    exact ⟨σ', H', S.unsuite ok, (e σ' H' s (S.unsuite ok) rfl).1 z⟩
  | brk =>
    obtain ⟨σ', H', S, z⟩ := h
    exact ⟨σ', H', S.unsuite ok, (e σ' H' s (S.unsuite ok) rfl).2.1 z⟩
  | cont =>
    obtain ⟨σ', H', S, z⟩ := h
    exact ⟨σ', H', S.unsuite ok, (e σ' H' s (S.unsuite ok) rfl).2.2 z⟩
  | ret u =>
    obtain ⟨v, σ', H', S, r, z⟩ := h
    exact ⟨v, σ', H', S.unsuite ok, r, er ▸ z⟩
theorem ps_try_cl (hs : X.stack = X.env :: X.outer) (hf : X.env.frame = some X.env.locals) (hN : X.N.Nodup) (tk : Takes X Wout)
    (hb : ∀ (W : WX) (pn : List (Addr × Obj)) (xe : Value → Shared → Prop), Takes (X.tr pn xe) W → PassesOwn (model X.prog X.w) X.A X.env xe → PSs (X.tr pn xe) body (tb W))
    (hh : ClsOk X (h0 :: hds) l) : PS X (.Try body (h0 :: hds) [] [] pos) (fun D σ H => tb (wCl Wout D l) D σ H) := by
  refine .mk ?_
  intro pins s σ H D I h
  have ok := I.ok
  have frames : X.A.frames = some (X.env :: X.outer) := by rw [ok.frames, hs]
  refine wpAny_Try_except (wpAny_mono ((hb (wCl Wout D l) (X.pn ++ pins) (fun e s1 => wpAny (model X.prog X.w) X.A (noteFrame e X.env) (fun _ s2 => wpAny (model X.prog X.w) X.A (setFlight e none) (fun _ s3 =>
    wpAny (model X.prog X.w) X.A (handleBy e X.env (h0 :: hds)) (SP X pins D) X.xe s3) X.xe s2) X.xe s1) (fun u s' thrown => ?_) PassesOwn.looking).run [] s σ H D (I.toTry _) h) (fun f s1 out => ?_) fun e s1 z => z)
  · obtain ⟨a, B, sI, pins', σ', H', cls, d, rfl, J0, nb, up, sky0, na, os, ag, wish⟩ := thrown
    have J : Inv X pins σ' H' sI := J0.ofTry ok
    have sky : Sky B (X.env :: X.outer) a (Zc cls d) X.env.locals s'.heap := hs ▸ sky0
    change wpAny (model X.prog X.w) X.A (noteFrame (.ref a) X.env) _ _ _
    refine sky.land Zc.steady frames hf fun h3 fl3 up3 => ?_
    -- the clauses, from any heap in which it flies
    have go : ∀ {hds' : List ExceptHandler} {l' : List Clz}, ClsOk X hds' l' → wCl Wout D l' cls d σ' H' → ∀ hx, HandSPX.FlyingZ B (X.env :: X.outer) a (Zc cls d) hx → s'.heap.UpToSlots hx →
        wpAny (model X.prog X.w) X.A (handleBy (.ref a) X.env hds') (SP X pins D) X.xe { s' with heap := hx } := by
      intro hds' l' hk
      induction hk with
      | nil =>
        intro w hx fl upx
        obtain ⟨_, _, _, oe, vs, T, oT, ts', he, hz, hd, h1, _⟩ := id fl
        refine wpAny_handleBy_nil (by
          unfold PySem.passOn
          refine (wpAny_bind (wpAny_field he hd h1 ?_))
          rw [if_neg (show ¬ ((Value.ref T == Value.none) = true) by simp)]
          have out : wpAny (model X.prog X.w) X.A (setFlight (.ref a) X.env.frame) (fun _ s4 => wpAny (model X.prog X.w) X.A (throw (.ref a) : Sem Flow) (SP X pins D) X.xe s4) X.xe { s' with heap := hx } := by
            rw [hf]
            refine HandSPX.setFlight_upZ fl fun h4 held up4 => wpAny_throw (tk _ _ ⟨a, B, sI, pins, σ', H', cls, d, rfl, J, nb, (up.trans upx).trans up4, .inr (.inr (by rw [hs]; exact held)), na, os, ag, w⟩)
          first
            | exact wpAny_bind (wpAny_pure (wpAny_bind out))
            | exact wpAny_bind out)
      | @cons e m name nm ts b0 suite pos' hds2 l2 te hn su r ih =>
        intro w hx fl upx
        obtain ⟨b, hm, yes, no⟩ := w
        rcases fl.there with ⟨oe, vs, he, hz, hd⟩
        have Jx : Inv X pins σ' H' { s' with heap := hx } := J.landed nb fl.1 (up.trans upx) os ag
        have off : ∀ {hy : Heap} {oy : Obj} {vy : Array Value}, hy.FunFrames B (X.env :: X.outer) → hy.get? a = some oy → oy.data = .fields vy → a ≠ X.env.locals ∧ a ∉ X.fs := fun {hy oy vy} ff ey dy => by
          have nfr : a ∉ frs (X.env :: X.outer) := fun hm => by
            rcases ff.mem hm with ⟨_, o', e', hnf⟩
            rw [ey] at e'
            cases e'
            exact hnf _ dy
          refine ⟨fun z => nfr (List.mem_filterMap.mpr ⟨X.env, List.mem_cons_self, by rw [hf, z]⟩), fun hm => ?_⟩
          obtain ⟨e1, h1, q1⟩ := List.mem_filterMap.mp hm
          exact nfr (List.mem_filterMap.mpr ⟨e1, List.mem_cons_of_mem _ h1, q1⟩)
        obtain ⟨nL, nF⟩ := off fl.2.2.1 he hd
        refine wpAny_handleBy_cons (codeAny_handlers_test (te (Jx.suite he hd na nL nF) he hz.1 hm fun h4 kept => ?_)) (fun z => nomatch z)
        have fl4 := flying_keep kept fl
        have up4 : s'.heap.UpToSlots h4 := upx.trans (Heap.UpToSlots.of_keeps kept)
        cases b with
        | false => exact ih (no rfl) h4 fl4 up4
        | true =>
          have land : ∀ h5, HandSPX.FlyingZ B (X.env :: X.outer) a (Zc cls d) h5 → h4.UpToSlots h5 → ∃ oe5, Zc cls d oe5 ∧ (∃ vs, oe5.data = .fields vs) ∧ Inv (X.suite a ((a, oe5) :: (X.pn ++ pins))) [] σ' H' { s' with heap := h5 } := fun h5 fl5 up5 => by
            obtain ⟨oe5, vs5, he5, hz5, hd5⟩ := fl5.there
            obtain ⟨nL5, nF5⟩ := off fl5.2.2.1 he5 hd5
            have J5 : Inv X pins σ' H' { s' with heap := h5 } := J.landed (s' := { s' with heap := h5 }) nb fl5.1 (up.trans (up4.trans up5)) os ag
            exact ⟨oe5, hz5, ⟨_, hd5⟩, J5.suite he5 hd5 na nL5 nF5⟩
          match name, nm, hn with
          | none, none, _ =>
            refine codeAny_handlers_suite (HandSPX.lands_againZ fl4 fun h5 fl5 up5 => ?_)
            obtain ⟨oe5, hz5, hd5, S5⟩ := land h5 fl5 up5
            exact wpAny_mono ((su a oe5 cls d (X.pn ++ pins) hz5 hd5).run [] _ _ H' _ S5 (yes rfl a na)) (fun f s6 out => sp_back ok out (fun _ _ _ _ _ => ⟨id, id, id⟩) rfl) fun _ _ z => z.elim
          | some n, some i, ⟨hi, hln⟩ =>
            refine codeAny_handlers_suite_as (HandSPX.lands_againZ fl4 fun h5 fl5 up5 => ?_)
            obtain ⟨oe5, hz5, hd5, S5⟩ := land h5 fl5 up5
            refine store_ok (X := X.suite a ((a, oe5) :: (X.pn ++ pins))) (v := .ref a) S5 hN hi (.inl hln) rfl (fun s6 S6 => ?_) (.inr hln)
            refine wpAny_mono ((su a oe5 cls d (X.pn ++ pins) hz5 hd5).run [] s6 _ H' _ S6 (yes rfl a na)) (fun f s7 out => ?_) fun _ _ z => z.elim
            have ends : ∀ {σ7 : L2.St} {H7 : Hp} {Q : Shared → Prop}, Inv (X.suite a ((a, oe5) :: (X.pn ++ pins))) [] σ7 H7 s7 → (∀ s8, Inv X pins (σ7.set i none) H7 s8 → Q s8) →
                wpAny (model X.prog X.w) X.A (do bindName X.env n .none; unbindBehindTheSuite X.env n pos') (fun _ s8 => Q s8) X.xe s7 := fun S7 q => gone_ok (S7.unsuite ok) hN hi hln q
            cases f with
            | next => obtain ⟨σ7, H7, S7, q7⟩ := out; exact ends S7 fun s8 J8 => ⟨_, _, J8, q7⟩
            | brk => obtain ⟨σ7, H7, S7, q7⟩ := out; exact ends S7 fun s8 J8 => ⟨_, _, J8, q7⟩
            | cont => obtain ⟨σ7, H7, S7, q7⟩ := out; exact ends S7 fun s8 J8 => ⟨_, _, J8, q7⟩
            | ret u => obtain ⟨v7, σ7, H7, S7, r7, q7⟩ := out; exact ends S7 fun s8 J8 => ⟨_, _, _, J8, r7, q7⟩
    exact go hh wish h3 fl3 up3
  · cases f with
    | next => obtain ⟨σ', H', J, q⟩ := out; exact wpAny_execs_nil ⟨σ', H', J.ofTry ok, q⟩
    | brk => obtain ⟨σ', H', J, q⟩ := out; exact ⟨σ', H', J.ofTry ok, q⟩
    | cont => obtain ⟨σ', H', J, q⟩ := out; exact ⟨σ', H', J.ofTry ok, q⟩
    | ret u => obtain ⟨v, σ', H', J, r, q⟩ := out; exact ⟨v, σ', H', J.ofTry ok, r, q⟩
end
end U
namespace U
open PySem PySem.Spec PySem.Calls PyProof.Rows L2

/-! ### isinstance and fields of a caught exception of one's own, whatever its dict -/
section
variable {P : Program} {w : World} {A : Around} {E : Value → Shared → Prop} {s : Shared} {K : PySem.W.Frag} {x D : Addr} {ox : Obj} {od : Option Obj}
end
theorem inst_exc {X : Cx} {a C dd : Addr} {oe : Obj} {pn pins : List (Addr × Obj)} {σ : L2.St} {H : Hp} {s : Shared} {fs : List (Str × V)} (hz : Zc (.ref C) (some dd) oe) (hf : ∃ vs, oe.data = .fields vs) (I : Inv (X.suite a ((a, oe) :: pn)) pins σ H s) (hd : H dd = some (.xd fs)) :
    ∃ od, PySem.W.InstAt s.heap a oe C (some od) ∧ ∀ n v, fs.lookup n = some v → ∃ u, PySem.W.lookIn n od = some (some u) ∧ RelV v u := by
  obtain ⟨vs, dat⟩ := hf
  obtain ⟨here, _⟩ := I.pin (a, oe) (List.mem_append.mpr (.inl (List.mem_cons_self)))
  have ok : ObjOk X.prog X.w H s.heap dd (.xd fs) := I.hok dd _ hd
  obtain ⟨mA, ns, rel⟩ := ok
  obtain ⟨od, ho, look⟩ := lookIn_ns ns
  refine ⟨od, ⟨here, hz.1, by unfold PySem.W.notCls; rw [dat] <;> rfl, by rw [hz.2]; exact ho⟩, fun n v e => ?_⟩
  obtain ⟨u, hu, ru⟩ := RelO.some_of (v := v) (o := mA n) (by rw [← e]; exact rel n)
  exact ⟨u, by rw [look, hu], ru⟩
/-- e.f, e the exception of the suite -/
def tXv (K : PySem.W.Frag) (a : Addr) (cls : Value) (d : Option Addr) (f : Str) (te : TE) : TE := fun σ H Q => te σ H fun x H1 => x = .ref a ∧ ∃ (C dd : Addr) (fs : List (Str × V)) (v : V), cls = .ref C ∧ d = some dd ∧ XfC K C ∧ PySem.W.findIn K (.ref C) f = some none ∧ H1 dd = some (.xd fs) ∧ fs.lookup f = some v ∧ Q v H1
theorem pe_xv {X : Cx} {a : Addr} {cls : Value} {d : Option Addr} {oe : Obj} {pn : List (Addr × Obj)} {e : Expr} {te : TE} {pos : Pos} {f : Str} (hz : Zc cls d oe) (hf : ∃ vs, oe.data = .fields vs) (he : PE (X.suite a ((a, oe) :: pn)) e te) (plain : attributeBase e f X.env (eval e X.env) = eval e X.env := by rfl) :
    PE (X.suite a ((a, oe) :: pn)) (.Attribute e f pos) (tXv X.K a cls d f te) := by
  refine .mk ?_
  intro ps s σ H Q I h
  refine attr_of plain (thn (he.run ps s σ H _ I h) fun u s1 out => ?_)
  obtain ⟨x, H1, I1, rx, rfl, C, dd, fs, v, rfl, rfl, T, no, hd, look, q⟩ := out
  obtain rfl : u = Value.ref a := rx
  obtain ⟨od, J, get⟩ := inst_exc hz hf I1 hd
  obtain ⟨u, hu, ru⟩ := get _ _ look
  exact HandSPX.exc_get I1.kIn J T.ga T.gg T.exC (PySem.W.findObj_own T.hdC no rfl hu) (handed_of ru) ⟨v, H1, I1.tok _, ru, q⟩
/-! ### calls in a try's body: what they may raise is told by the state -/
abbrev tFnS (sp : Sp) (W : WX) (t : TA) : TE := tCallS sp (WE W) t
section
variable {X : Cx} {k : Nat} {x C : Str} {ps : List Str} {sp : Sp} {W : WX} {p pos : Pos} {e : Expr} {es : List Expr} {t : TA}
theorem pe_foS (g : GoodO X.prog X.w X.K X.mg X.base k x ps sp) (hr : Room k X.A) (hg : Gl X x) (tk : Takes X W) (hpl : (backTo pos (starEach es X.env)).any (·.1) = false := by rfl) (he : starEach (e :: es) X.env = (false, eval e X.env) :: starEach es X.env := by rfl) (ha : PA X (e :: es) t)
    (hdb : (x == ("__debug__" : Str)) = false := by decide) : PE X (.Call (.Name x p) (e :: es) [] pos) (tFnS sp W t) := by
  obtain ⟨fd, F, hb⟩ := g.fn
  exact pe_callS F hr hg g.mg g.kp hb (passAt tk) ha hdb he hpl
end
/-- a try as a statement -/
def tTry (Wout : WX) (tb : WX → TS) (l : List Clz) : TS := fun D σ H => tb (wCl Wout D l) D σ H
/-! ### what a law never comes to -/
/-! ### one's own exceptions, all directly under one -/
structure XF (K : PySem.W.Frag) (B : Str) (cs : List Str) : Prop where
  m : ∀ x ∈ cs, ∀ y ∈ B :: cs, PySem.W.exmOne K (.ref (He.ga K x)) (.ref (He.ga K y)) = some (decide (y = B ∨ y = x))
  i : ∀ x ∈ cs, ∀ y ∈ B :: cs, PySem.W.kitOne K (.ref (He.ga K x)) (.ref (He.ga K y)) = some (decide (y = B ∨ y = x))
  c : ∀ x ∈ cs, ExcC K (He.ga K x)
  f : ∀ x ∈ cs, XfC K (He.ga K x)
  v : ∀ x ∈ cs, PySem.W.findIn K (.ref (He.ga K x)) "value" = some none
def excCB (K : PySem.W.Frag) (D : Addr) : Bool := decide (PySem.W.findIn K (.ref D) "__getattribute__" = some (some (.builtin "BaseException.__getattribute__"))) && (decide (PySem.W.findIn K (.ref D) "__getattr__" = some none) && (decide (PySem.W.subIn K (.ref D) (.type "BaseException") = some true) &&
  (PySem.W.hasDictIn K D && (decide (PySem.W.findIn K (.ref D) "__class__" = some (some (.builtin "object.__class__"))) && (decide (PySem.W.specialIn K (.builtin "object.__class__") "__get__" = some (some (.builtin "getset_descriptor.__get__"))) &&
  (decide (PySem.W.takesIn K (.builtin "object.__class__") = some true) && (decide (PySem.W.mroIn K D (.type "object") = some true) && decide (PySem.W.findIn K (.ref D) "value" = some none))))))))
def xFB (B : Str) (cs : List Str) (K : PySem.W.Frag) : Bool := cs.all fun x => excCB K (He.ga K x) && (B :: cs).all fun y => decide (PySem.W.exmOne K (.ref (He.ga K x)) (.ref (He.ga K y)) = some (decide (y = B ∨ y = x))) && decide (PySem.W.kitOne K (.ref (He.ga K x)) (.ref (He.ga K y)) = some (decide (y = B ∨ y = x)))
theorem xF_ok {K : PySem.W.Frag} {B : Str} {cs : List Str} (h : xFB B cs K = true) : XF K B cs := by
  have all : ∀ x ∈ cs, ExcC K (He.ga K x) ∧ PySem.W.findIn K (.ref (He.ga K x)) "value" = some none ∧ ∀ y ∈ B :: cs, PySem.W.exmOne K (.ref (He.ga K x)) (.ref (He.ga K y)) = some (decide (y = B ∨ y = x)) ∧ PySem.W.kitOne K (.ref (He.ga K x)) (.ref (He.ga K y)) = some (decide (y = B ∨ y = x)) := fun x hx => by
    have q := List.all_eq_true.mp h x hx
    rw [Bool.and_eq_true] at q
    obtain ⟨q1, q2⟩ := q
    unfold excCB at q1
    simp only [decide_eq_true_eq, Bool.and_eq_true] at q1
    obtain ⟨a1, a2, a3, a4, a5, a6, a7, a8, a9⟩ := q1
    refine ⟨⟨a1, a2, a3, a4, a5, a6, a7, a8⟩, a9, fun y hy => ?_⟩
    have z := List.all_eq_true.mp q2 y hy
    rw [Bool.and_eq_true] at z
    exact ⟨of_decide_eq_true z.1, of_decide_eq_true z.2⟩
  exact ⟨fun x hx y hy => ((all x hx).2.2 y hy).1, fun x hx y hy => ((all x hx).2.2 y hy).2, fun x hx => (all x hx).1, fun x hx => ⟨(all x hx).1.hg, (all x hx).1.hk, (all x hx).1.hs, (all x hx).1.hd⟩, fun x hx => (all x hx).2.1⟩
end U
namespace U
open PySem PySem.Spec PyProof.Rows L2

theorem ps_tryT {X : Cx} {body : List Stmt} {h0 : ExceptHandler} {hds : List ExceptHandler} {l : List Clz} {pos : Pos} {tb : WX → TS} {Wout : WX} (hs : X.stack = X.env :: X.outer) (hf : X.env.frame = some X.env.locals) (hN : X.N.Nodup) (tk : Takes X Wout)
    (hb : ∀ (W : WX) (pn : List (Addr × Obj)) (xe : Value → Shared → Prop), Takes (X.tr pn xe) W → PassesOwn (model X.prog X.w) X.A X.env xe → PSs (X.tr pn xe) body (tb W))
    (hh : ClsOk X (h0 :: hds) l) : PS X (.Try body (h0 :: hds) [] [] pos) (tTry Wout tb l) := ps_try_cl hs hf hN tk hb hh
/-! ### a classmethod of the module -/
section
variable {X : Cx} {k : Nat} {C m : Str} {ps : List Str} {sp : Sp} {E : XK} {o e : Expr} {es : List Expr} {pos apos : Pos} {ta : TE} {t : TA} {pl : Sem Bool}
end
/-! ### sorted(text), fewer than 64 signs -/
end U
namespace U
open PySem PySem.Spec PyProof.Rows L2

/-! ### texts of data are texts -/
theorem ok_app {a b : Str} (ha : PyData.strOk a = true) (hb : PyData.strOk b = true) : PyData.strOk (a ++ b) = true := by
  show (a.cps ++ b.cps).all (· < 0x110000) = true
  rw [Array.all_append]
  exact Bool.and_eq_true_iff.mpr ⟨ha, hb⟩
theorem ok_of (s : String) : PyData.strOk (Str.ofString s) = true := by
  rw [Str.ofString_eq_toList]
  show ((s.toList.map Char.toNat).toArray).all (· < 0x110000) = true
  rw [List.all_toArray, List.all_eq_true]
  intro n hn
  obtain ⟨c, _, rfl⟩ := List.mem_map.mp hn
  refine decide_eq_true ?_
  have := c.valid
  unfold Char.toNat
  rcases this with h | ⟨_, h⟩
  · exact Nat.lt_trans h (by decide)
  · exact h
theorem ok_join {sep : Str} (hs : PyData.strOk sep = true) : ∀ {ts : List Str}, (∀ t ∈ ts, PyData.strOk t = true) → PyData.strOk (Str.join sep ts) = true
  | [], _ => by show PyData.strOk Str.empty = true; decide +kernel
  | [x], h => h x List.mem_cons_self
  | x :: y :: r, h => ok_app (ok_app (h x List.mem_cons_self) hs) (ok_join hs fun t m => h t (List.mem_cons_of_mem _ m))
theorem ok_from : ∀ {ts : List Str} {k : Nat} {acc : Str}, PyData.strOk acc = true → (∀ t ∈ ts, PyData.strOk t = true) → PyData.strOk (textFrom k acc ts) = true
  | [], _, _, ha, _ => ha
  | t :: r, k, acc, ha, h => by
    unfold textFrom
    exact ok_from (ok_app (ok_app ha (ok_of _)) (h t List.mem_cons_self)) fun x m => h x (List.mem_cons_of_mem _ m)
mutual
/-- all texts in it are shown by texts -/
def fine : PyData → Bool
  | .none | .int _ | .bool _ => true
  | .str x => PyData.strOk (reprText x)
  | .list xs | .tuple xs => fineAll xs
  | .dict kvs => fineKv kvs
def fineAll : List PyData → Bool
  | [] => true
  | x :: xs => fine x && fineAll xs
def fineKv : List (PyData × PyData) → Bool
  | [] => true
  | (k, v) :: r => fine k && (fine v && fineKv r)
end
mutual
theorem ok_shown : ∀ d : PyData, fine d = true → PyData.strOk d.shown = true
  | .none, _ => by decide +kernel
  | .bool true, _ => by decide +kernel
  | .bool false, _ => by decide +kernel
  | .int i, _ => by rw [PyData.shown_int]; exact ok_of _
  | .str x, h => by rw [PyData.shown_str]; simpa only [fine] using h
  | .list xs, h => by
    have q := ok_shownAll xs (by simpa only [fine] using h)
    rw [PyData.shown]
    exact ok_app (ok_from (ok_of _) q) (ok_of _)
  | .tuple xs, h => by
    have q := ok_shownAll xs (by simpa only [fine] using h)
    rw [PyData.shown]
    exact ok_app (ok_app (ok_of _) (ok_join (ok_of _) q)) (ok_of _)
  | .dict kvs, h => by
    have q := ok_shownKv kvs (by simpa only [fine] using h)
    rw [PyData.shown]
    exact ok_app (ok_app (ok_of _) (ok_join (ok_of _) q)) (ok_of _)
theorem ok_shownAll : ∀ xs : List PyData, fineAll xs = true → ∀ t ∈ PyData.shownAll xs, PyData.strOk t = true
  | [], _, t, m => by rw [PyData.shownAll] at m; cases m
  | x :: r, h, t, m => by
    have h : fine x = true ∧ fineAll r = true := by simpa only [fineAll, Bool.and_eq_true] using h
    rw [PyData.shownAll] at m
    rcases List.mem_cons.mp m with rfl | m
    · exact ok_shown x h.1
    · exact ok_shownAll r h.2 t m
theorem ok_shownKv : ∀ kvs : List (PyData × PyData), fineKv kvs = true → ∀ t ∈ PyData.shownKv kvs, PyData.strOk t = true
  | [], _, t, m => by rw [PyData.shownKv] at m; cases m
  | (k, v) :: r, h, t, m => by
    have h : fine k = true ∧ fine v = true ∧ fineKv r = true := by simpa only [fineKv, Bool.and_eq_true] using h
    rw [PyData.shownKv] at m
    rcases List.mem_cons.mp m with rfl | m
    · exact ok_app (ok_app (ok_shown k h.1) (ok_of _)) (ok_shown v h.2.1)
    · exact ok_shownKv r h.2.2 t m
end
/-! ### data with dicts in it -/
def kD : Key → PyData
  | .inl i => .int i
  | .inr x => .str x
mutual
inductive Dq (K : PySem.W.Frag) (H : Hp) : V → PyData → Prop
  | qnon : Dq K H .non .none
  | qbl (b : Bool) : Dq K H (.bl b) (.bool b)
  | qint (i : Int) : Dq K H (.int i) (.int i)
  | qstr (x : Str) : Dq K H (.str x) (.str x)
  | qlst {l : Addr} {vs : List V} {es : List PyData} : SqL K H l vs → DqAll K H vs es → Dq K H (.ref l) (.list es)
  | qtup {l : Addr} {vs : List V} {es : List PyData} : SqT K H l vs → DqAll K H vs es → Dq K H (.ref l) (.tuple es)
  | qdct {l : Addr} {kvs : List (Key × V)} {es : List (PyData × PyData)} : H l = some (.dK kvs) → es.map (·.1) = kvs.map (fun p => kD p.1) → DqAll K H (kvs.map (·.2)) (es.map (·.2)) → Dq K H (.ref l) (.dict es)
inductive DqAll (K : PySem.W.Frag) (H : Hp) : List V → List PyData → Prop
  | qnil : DqAll K H [] []
  | qcons {x : V} {xs : List V} {e : PyData} {es : List PyData} : Dq K H x e → DqAll K H xs es → DqAll K H (x :: xs) (e :: es)
end
/-- the interpreter's own table of modules is a dict -/
def sysB (K : PySem.W.Frag) : Bool := match K.lookup sysModules with
  | some o => decide (o.cls = .type "dict")
  | none => false
def KS (K : PySem.W.Frag) : Prop := ∃ o, K.lookup sysModules = some o ∧ o.cls = .type "dict"
theorem kS_ok {K : PySem.W.Frag} (h : sysB K = true) : KS K := by
  unfold sysB at h
  split at h
  · rename_i o e
    exact ⟨o, e, of_decide_eq_true h⟩
  · cases h
theorem kv_vals {kvs : List (Key × V)} {vs : List (Key × Value)} (h : KV kvs vs) : kvs.map (fun p => kD p.1) = vs.map (fun p => kD p.1) ∧ Vals (kvs.map (·.2)) (vs.map (·.2)) := by
  induction h with
  | nil => exact ⟨rfl, .nil⟩
  | cons r _ ih => exact ⟨by rw [List.map_cons, List.map_cons, r.1, ih.1], .cons r.2 ih.2⟩
theorem keys_read {P : Program} {w : World} {h : Heap} {es : List DictEntry} {vs : List (Key × Value)} (p : Pairs (mixKind P w) es vs) : ReadsAll h (es.map (·.key)) (vs.map fun p => kD p.1) [] ∧ es.map (·.val) = vs.map (·.2) := by
  induction p with
  | nil => exact ⟨.nil, rfl⟩
  | @cons e kv es kvs a b _ ih =>
    refine ⟨?_, by rw [List.map_cons, List.map_cons, b, ih.2]⟩
    have q : Reads h e.key (kD kv.1) [] := by
      rcases keyIs_shape a with ⟨i, t, e1, e2⟩ | ⟨x, t, e1, e2⟩
      · rw [e1, e2]; exact .int i t
      · rw [e1, e2]; exact .str x t
    exact ReadsAll.cons q ih.1
section
variable {X : Cx} {pins : List (Addr × Obj)} {σ : L2.St} {H : Hp} {s : Shared} {v : V} {d : PyData}
theorem Dq.reads (S : KS X.K) (I : Inv X pins σ H s) (h : Dq X.K H v d) : ∀ u, RelV v u → ∃ as, sysModules ∉ as ∧ Reads s.heap u d as := by
  obtain ⟨o0, so, sc⟩ := S
  have here := I.kIn _ _ so
  have other : ∀ l o, s.heap.get? l = some o → o.cls = .type "list" → sysModules ≠ l := by
    intro l o e c q
    rw [← q, here] at e
    cases e
    rw [sc] at c
    exact absurd c (by decide)
  refine Dq.rec (motive_1 := fun v d _ => ∀ u, RelV v u → ∃ as, sysModules ∉ as ∧ Reads s.heap u d as) (motive_2 := fun vs ds _ => ∀ us, Vals vs us → ∃ as, sysModules ∉ as ∧ ReadsAll s.heap us ds as) ?_ ?_ ?_ ?_ ?_ ?_ ?_ ?_ ?_ h
  · intro u r; cases r; exact ⟨_, by simp, .none⟩
  · intro b u r; cases r; exact ⟨_, by simp, .bool b⟩
  · intro i u r; obtain ⟨t, rfl⟩ := r; exact ⟨_, by simp, .int i t⟩
  · intro x u r; obtain ⟨t, rfl⟩ := r; exact ⟨_, by simp, .str x t⟩
  · intro l vs es hs _ ih u r
    cases r
    rcases I.list hs with ⟨its, rv, ⟨o, n, ho, hc, _, hd⟩, _⟩
    obtain ⟨as, na, q⟩ := ih _ rv
    exact ⟨_, fun m => (List.mem_cons.mp m).elim (other l o ho hc) na, Reads.list ho hc hd q⟩
  · intro l vs es hs _ ih u r
    cases r
    rcases I.tuple hs with ⟨its, rv, ⟨o, ho, hc, n, hd⟩, _⟩
    obtain ⟨as, na, q⟩ := ih _ rv
    exact ⟨_, na, Reads.tuple ho hc hd q⟩
  · intro l kvs es e ek _ ih u r
    cases r
    obtain ⟨_, nS, vs, rel, o, ents, ep, ho, hx, hdat, _, hp, _⟩ := dk_of I.hok e
    have kv := kv_vals rel
    obtain ⟨as, na, q⟩ := ih _ kv.2
    have kr := keys_read (h := s.heap) hp
    rw [← kv.1, ← ek] at kr
    rw [← kr.2] at q
    refine ⟨l :: [] ++ as, fun m => ?_, Reads.dict ho hx.1 hdat kr.1 q⟩
    rcases List.mem_cons.mp m with m | m
    · rw [← m] at nS
      exact absurd nS (by decide)
    · exact na m
  · intro us r; cases r; exact ⟨_, by simp, .nil⟩
  · intro x xs e es _ _ i1 i2 us r
    cases r with
    | cons r1 r2 =>
      obtain ⟨as, na, q1⟩ := i1 _ r1
      obtain ⟨bs, nb, q2⟩ := i2 _ r2
      exact ⟨_, fun m => (List.mem_append.mp m).elim na nb, ReadsAll.cons q1 q2⟩
theorem Dq.same {K : PySem.W.Frag} {H H' : Hp} {v : V} {d : PyData} (e : Same H H') (h : Dq K H v d) : Dq K H' v d :=
  Dq.rec (motive_1 := fun v d _ => Dq K H' v d) (motive_2 := fun vs ds _ => DqAll K H' vs ds) .qnon .qbl .qint .qstr (fun s _ ih => .qlst (Same.seq e s) ih) (fun s _ ih => .qtup (Same.sqT e s) ih) (fun at_ k _ ih => .qdct (e _ _ at_) k ih) .qnil (fun _ _ a b => .qcons a b) h
/-- the text of any data, dicts among them -/
def uReprQ (K : PySem.W.Frag) : List V → Hp → VK → Prop := fun xs H Q => ∃ v d, xs = [v] ∧ Dq K H v d ∧ d.showable = true ∧ d.depth ≤ 60 ∧ d.shown.length ≤ sizeLine ∧ Q (.str d.shown) H
theorem call_uReprQ (hA : X.A.guards = some []) (hu : X.A.units + 64 < cLine) (S : KS X.K) : CallR X (.builtin "repr") (uReprQ X.K) := by
  intro ps s σ H xs us R I r h
  obtain ⟨v, d, rfl, hd, hs, hz, hl, q⟩ := h
  cases hd with
  | qnon =>
    obtain ⟨_, rfl, same⟩ := vals1 r
    cases same
    rw [PyData.shown] at q
    exact PySem.P.repr_of_none ⟨.str _, H, I.tok _, ⟨_, rfl⟩, q⟩
  | qbl b =>
    obtain ⟨_, rfl, same⟩ := vals1 r
    cases same
    refine PySem.P.repr_of_bool ⟨.str _, H, I.tok _, ⟨s.toks, ?_⟩, q⟩
    cases b <;> rfl
  | qint i =>
    obtain ⟨_, rfl, t, rfl⟩ := vals1 r
    rw [PyData.shown_int] at q
    refine PySem.P.repr_of_int ?_ ⟨.str _, H, I.tok _, ⟨_, rfl⟩, q⟩
    simpa [PyData.showable] using hs
  | qstr x =>
    obtain ⟨_, rfl, t, rfl⟩ := vals1 r
    rw [PyData.shown_str] at q hl
    exact PySem.P.repr_of_str ⟨.str _, H, I.tok _, ⟨_, rfl⟩, q⟩ hl
  | qlst a b =>
    obtain ⟨_, rfl, same⟩ := vals1 r
    cases same
    obtain ⟨as, na, rr⟩ := Dq.reads S I (.qlst a b) _ rfl
    exact repr_of_reads' rr hs (fun _ => na) hA (by omega) (fun _ _ z => z) (fun h' u tk k => ⟨.str _, H, I.kept (t' := tk) k, ⟨_, rfl⟩, q⟩) hl
  | qtup a b =>
    obtain ⟨_, rfl, same⟩ := vals1 r
    cases same
    obtain ⟨as, na, rr⟩ := Dq.reads S I (.qtup a b) _ rfl
    exact repr_of_reads' rr hs (fun _ => na) hA (by omega) (fun _ _ z => z) (fun h' u tk k => ⟨.str _, H, I.kept (t' := tk) k, ⟨_, rfl⟩, q⟩) hl
  | qdct a b c =>
    obtain ⟨_, rfl, same⟩ := vals1 r
    cases same
    obtain ⟨as, na, rr⟩ := Dq.reads S I (.qdct a b c) _ rfl
    exact repr_of_reads' rr hs (fun _ => na) hA (by omega) (fun _ _ z => z) (fun h' u tk k => ⟨.str _, H, I.kept (t' := tk) k, ⟨_, rfl⟩, q⟩) hl
end
end U
namespace U
open PySem PySem.Spec PySem.Calls PyProof.Rows L2

/-! ### cls(..): an object of one's own class, whose class stands in a local name -/
section
variable {X : Cx} {k i : Nat} {x C : Str} {ps : List Str} {sp : Sp} {E : XK} {p pos : Pos} {e : Expr} {es : List Expr} {t : TA}
end
/-! ### o.m(k = v, ..): all arguments by their names -/
section
variable {X : Cx} {CX : CXT} {k : Nat} {f C : Addr} {fd : FuncData} {ps ks : List Str} {sp : Sp} {E : XK} {m : Str} {pos apos : Pos} {o : Expr} {kws : List Keyword} {ta : TE} {tk : TA} {g : List Value → List Value → List Value} {gV : List V → List V → List V} {pl : Sem Bool}
end
end U
namespace U
open PySem PySem.Spec PySem.Calls PyProof.Rows L2

/-! ### x == y where x is of a class with an __eq__ of its own -/
section
variable {X : Cx} {CX : CXT} {n : Nat} {C f : Addr} {fd : FuncData} {ps : List Str} {sp : Sp} {E : XK}
end
end U
namespace U
open PySem PySem.Spec PyProof.Rows L2

/-! ### lists of small integers: their texts, and whether they are alike -/
theorem dp_ints {K : PySem.W.Frag} {H : Hp} {p : Addr} {ns : List Int} (h : SqL K H p (ns.map V.int)) : Dp K H (.ref p) (.list (ns.map PyData.int)) := by
  refine .lst h ?_
  clear h
  induction ns with
  | nil => exact .nil
  | cons n r ih => exact .cons (.int n) ih
section
variable {K : PySem.W.Frag} {H : Hp} {Q : VK} {p p' : Addr} {ns ms : List Int}
theorem ne_ints (h : SqL K H p (ns.map V.int)) (h' : SqL K H p' (ms.map V.int)) (q : Q (.bl (!decide (ns = ms))) H) : uNe K (.ref p) (.ref p') H Q := by
  refine ⟨_, _, dp_ints h, dp_ints h', PySem.W.ke_shaped_ints _, PySem.W.ke_shaped_ints _, ?_⟩
  rw [PyData.eqv, PySem.W.ked_eqvAll]
  exact q
end
/-! ### lists of texts -/
section
variable {K : PySem.W.Frag} {H : Hp}
theorem dp_strs {p : Addr} {xs : List Str} (h : SqL K H p (xs.map V.str)) : Dp K H (.ref p) (.list (xs.map PyData.str)) := by
  refine .lst h ?_
  clear h
  induction xs with
  | nil => exact .nil
  | cons n r ih => exact .cons (.str n) ih
theorem strs_eqv (as bs : List Str) : PyData.eqv (.list (as.map PyData.str)) (.list (bs.map PyData.str)) = decide (as = bs) := by
  rw [PyData.eqv]
  induction as generalizing bs with
  | nil => cases bs <;> simp [PyData.eqvAll]
  | cons a r ih =>
    cases bs with
    | nil => simp [PyData.eqvAll]
    | cons b t =>
      simp only [List.map_cons, PyData.eqvAll, ih, PyData.eqv]
      rw [Bool.eq_iff_iff]
      simp
theorem strs_shaped {xs : List Str} (h : ∀ x ∈ xs, PyData.strOk x = true) : SeqAt.shaped (.list (xs.map PyData.str)) = true := by
  have h1 : PyData.canLayAll0 (xs.map PyData.str) = true := by
    induction xs with
    | nil => rfl
    | cons a r ih =>
      have i1 := ih fun x m => h x (List.mem_cons_of_mem _ m)
      have i2 := h a List.mem_cons_self
      simp [PyData.canLayAll0, PyData.canLay0, i1, i2]
  have h2 : PyData.depthAll (xs.map PyData.str) = 0 := by
    clear h h1
    induction xs with
    | nil => rfl
    | cons a r ih => simp [PyData.depthAll, PyData.depth, ih]
  unfold SeqAt.shaped
  rw [PyData.canLay0, h1, PyData.depth, h2]
  decide
end
theorem ne_strs {K : PySem.W.Frag} {H : Hp} {Q : VK} {p q : Addr} {xs ys : List Str} (h : SqL K H p (xs.map V.str)) (h' : SqL K H q (ys.map V.str)) (ok : ∀ x ∈ xs, PyData.strOk x = true) (ok' : ∀ x ∈ ys, PyData.strOk x = true) (r : Q (.bl (!decide (xs = ys))) H) : uNe K (.ref p) (.ref q) H Q :=
  ⟨_, _, dp_strs h, dp_strs h', strs_shaped ok, strs_shaped ok', by rw [strs_eqv]; exact r⟩
end U
namespace U
open PySem PySem.Spec PyProof.Rows L2

/-! ### dict(zip(text, tuple)): a zip whose pair is still held by the loop that fills the dict -/
section
variable {P : Program} {w : World} {A : Around} {E : Value → Shared → Prop} {s : Shared} {z TI TO T i1 i2 : Addr} {fa fb : List Addr} {n m i : Nat} {R1 R2 : Nat → Value → Prop} {S1 S2 : Nat → Heap → Prop} {f : Bool} {oT : Obj}
end
end U
namespace U
open PySem PySem.Spec PyProof.Rows L2

/-! ### dict(zip(text, tuple)) -/
/-- the cells: the zip, its pair of iterators, its last pair, the two iterators, the tuple -/
structure TCells (z TI TO i1 i2 l : Addr) : Prop where
  n1 : TI ≠ z
  n2 : TO ≠ z
  n3 : TI ≠ TO
  n4 : TI ≠ i1
  n5 : TI ≠ i2
  n6 : z ≠ i1
  n7 : z ≠ i2
  n8 : TO ≠ i1
  n9 : TO ≠ i2
  n10 : i1 ≠ i2
  l1 : l ≠ z
  l2 : l ≠ TO
  l3 : l ≠ i1
  l4 : l ≠ i2
theorem TCells.sep {z TI TO i1 i2 l : Addr} (c : TCells z TI TO i1 i2 l) : ZipSep2 z TI TO i1 i2 [i1] [i2, l] where
  TIz := c.n1
  TOz := c.n2
  TITO := c.n3
  TIi1 := c.n4
  mem1 := List.mem_cons_self
  zf1 := by simp [c.n6]
  Tf1 := by simp [c.n8]
  TIi2 := c.n5
  mem2 := List.mem_cons_self
  zf2 := by simp [c.n7, c.l1.symm]
  Tf2 := by simp [c.n9, c.l2.symm]
  sep1_2 := by simp [c.n10, c.l3.symm]
  sep2_1 := by simp [c.n10.symm]
end U
namespace U
open PySem PySem.Spec PyProof.Rows L2

/-! ### str(x), by the kinds of x -/
end U
namespace U
open PySem PySem.Spec PyProof.Rows L2

/-! ### enumerate(tuple) -/
section
open Sem (wp)
end
end U
namespace U
open PySem PySem.Spec PyProof.Rows L2

/-! ### the table of turns -/
def turnsT : List (Str × List Int) := [("ab", [0, 1, 5, 2, 0, 1, 2]), ("ac", [1, 0, 3, 4, 0, 2, 1]), ("ba", [2, 3, 4, 0, 1, 0, 2]), ("bc", [3, 2, 1, 5, 1, 2, 0]), ("ca", [4, 5, 2, 1, 2, 0, 1]), ("cb", [5, 4, 0, 3, 2, 1, 0])]
def TuK (K : PySem.W.Frag) (w : World) : Prop := ∀ q ∈ turnsT, ∃ p, KDct K w (He.ga K "_TURNS") q.1 (.ref p) ∧ ∀ H, SqT K H p (q.2.map V.int)
def rTurn (K : PySem.W.Frag) : R2 := fun x y H Q => ∃ z ns, x = .ref (He.ga K "_TURNS") ∧ y = .str z ∧ (z, ns) ∈ turnsT ∧ ∀ p, SqT K H p (ns.map V.int) → Q (.ref p) H
theorem ix_turn {X : Cx} (h : TuK X.K X.w) : IxR X (rTurn X.K) := by
  intro ea eb pins s σ H x y u v Q I rx ry q
  obtain ⟨z, t, rfl, rfl, hm, q⟩ := q
  obtain ⟨p, h1, h2⟩ := h _ hm
  exact ix_kdict ea eb pins s σ H _ _ u v Q I rx ry ⟨_, z, _, rfl, rfl, h1, q p (h2 H)⟩
def tupAtB (K : PySem.W.Frag) (p : Addr) (ns : List Int) : Bool := match K.lookup p with
  | some ⟨.type c, _, .seq its _, _⟩ => decide (c = "tuple") && (decide (its.size ≤ sizeLine) && He.relAll (ns.map V.int) its.toList)
  | _ => false
theorem tupAtB_ok {K : PySem.W.Frag} {p : Addr} {ns : List Int} (h : tupAtB K p ns = true) (H : Hp) : SqT K H p (ns.map V.int) := by
  unfold tupAtB at h
  split at h
  · rename_i c dd its n sl e
    (simp only [Bool.and_eq_true, decide_eq_true_eq] at h)
    exact .inr ⟨_, its, n, e, congrArg Value.type h.1, rfl, h.2.1, He.relAll_ok h.2.2⟩
  · cases h
def tuB (K : PySem.W.Frag) : Bool := turnsT.all fun q => match PySem.W.nsIn K (He.ga K "_TURNS") q.1 with
  | some (some (.ref p)) => tupAtB K p q.2
  | _ => false
theorem tuK_of {K : PySem.W.Frag} {w : World} (hd : ∃ es n, KDict K w (He.ga K "_TURNS") es n) (hv : tuB K = true) : TuK K w := by
  obtain ⟨es, n, h1, h2, h3⟩ := hd
  intro q hq
  have := List.all_eq_true.mp hv q hq
  split at this
  · rename_i p e
    exact ⟨p, ⟨es, n, _, h1, h2, e, rfl⟩, tupAtB_ok this⟩
  · cases this
end U
namespace U
open PySem PySem.Spec PyProof.Rows L2
/-- the exceptions that the law catches -/
def excN : List Str := ["InvalidPaper", "InvalidWay"]
end U
namespace U
open PySem PySem.Spec PyProof.Rows L2

def krB (K : PySem.W.Frag) : Bool := (He.Fa.cls "Reckoning").ok K && ((He.Fa.noat "Reckoning" "bound").ok K && ((He.Fa.noat "Reckoning" "prices").ok K && ((He.Fa.noat "Reckoning" "towers").ok K && ((He.Fa.noat "Reckoning" "_backwards").ok K && decide (He.ga K "Yard" ≠ He.ga K "Reckoning")))))
end U
namespace U
open PySem PySem.Spec PyProof.Rows L2
def top (i : Nat) : Stmt := PySem.Challenge.pw_cratetowers_k21_papers_of_yards.main.body.getD i (.Pass ⟨0, 0, 0, 0⟩)
abbrev s_InvalidYard_init : Stmt := inClass (top 3) 0
abbrev s_InvalidWay_init : Stmt := inClass (top 5) 0
abbrev s_InvalidPaper_init : Stmt := inClass (top 8) 0
abbrev s_both_lines : Stmt := top 11
abbrev s_towers_above : Stmt := top 12
abbrev s_turned : Stmt := top 15
abbrev s_from_each_tower : Stmt := top 16
abbrev s_reckoning_of : Stmt := top 17
abbrev s_without_bars : Stmt := top 18
abbrev s_Reckoning_init : Stmt := inClass (top 19) 0
abbrev s_Reckoning_told : Stmt := inClass (top 19) 5
abbrev s_Reckoning_named : Stmt := inClass (top 19) 6
abbrev s_are_levels : Stmt := top 22
abbrev s__is_level : Stmt := top 23
abbrev s_bound_beyond : Stmt := top 24
abbrev s_bounded_prices : Stmt := top 25
abbrev s_numbers_of : Stmt := top 26
abbrev s_are_within : Stmt := top 27
abbrev s_is_way : Stmt := top 34
abbrev s_is_price : Stmt := top 35
abbrev s_is_integer : Stmt := top 36
abbrev s_check_way : Stmt := top 39
abbrev s_check_yard : Stmt := top 40
abbrev s_Yard_init : Stmt := inClass (top 42) 0
abbrev s_Yard_len : Stmt := inClass (top 42) 3
abbrev s_Yard_price_rows : Stmt := inClass (top 42) 7
abbrev s_Yard_reckoning : Stmt := inClass (top 42) 8
abbrev s__are_rows : Stmt := top 43
abbrev s__is_price_row : Stmt := top 44
abbrev s_tables : Stmt := top 51
abbrev s_tower_cost : Stmt := top 52
abbrev s_is_paper : Stmt := top 53
abbrev s__are_within_lines : Stmt := top 54
abbrev s_told_cost : Stmt := top 55
abbrev s_straight_ways : Stmt := top 56
abbrev s__straight_ways : Stmt := top 57
abbrev s__law_cell : Stmt := top 59
abbrev s__law_bag : Stmt := top 60
abbrev s__law_take : Stmt := top 61
abbrev s__law_rows : Stmt := top 62
abbrev s__law_price : Stmt := top 63
abbrev s__law_sum : Stmt := top 64
abbrev s__law_lesser : Stmt := top 65
abbrev s__law_other : Stmt := top 66
abbrev s__law_level : Stmt := top 67
abbrev s__law_levels : Stmt := top 68
abbrev s__law_above : Stmt := top 69
abbrev s__law_is_table : Stmt := top 70
abbrev s__law_due : Stmt := top 71
abbrev s__law_lowered : Stmt := top 72
abbrev s__law_bent : Stmt := top 73
abbrev s__law_caught : Stmt := top 74
abbrev s__law_straight_right : Stmt := top 75
abbrev s__law_right : Stmt := top 76
abbrev s_law : Stmt := top 77
abbrev mkD (at_ : PySem.W.Frag → Addr) (nm qual : Str) (st : Stmt) : He5.DefA := ⟨at_, nm, qual, defArgs st, defBody st, defScope st, [], []⟩
def d_InvalidYard_init : He5.DefA := mkD (fun K => He.ma K (He.ga K "InvalidYard") "__init__") "__init__" "InvalidYard.__init__" s_InvalidYard_init
def d_InvalidWay_init : He5.DefA := mkD (fun K => He.ma K (He.ga K "InvalidWay") "__init__") "__init__" "InvalidWay.__init__" s_InvalidWay_init
def d_InvalidPaper_init : He5.DefA := mkD (fun K => He.ma K (He.ga K "InvalidPaper") "__init__") "__init__" "InvalidPaper.__init__" s_InvalidPaper_init
def d_both_lines : He5.DefA := mkD (fun K => He.ga K "both_lines") "both_lines" "both_lines" s_both_lines
def d_towers_above : He5.DefA := mkD (fun K => He.ga K "towers_above") "towers_above" "towers_above" s_towers_above
def d_turned : He5.DefA := mkD (fun K => He.ga K "turned") "turned" "turned" s_turned
def d_from_each_tower : He5.DefA := mkD (fun K => He.ga K "from_each_tower") "from_each_tower" "from_each_tower" s_from_each_tower
def d_reckoning_of : He5.DefA := mkD (fun K => He.ga K "reckoning_of") "reckoning_of" "reckoning_of" s_reckoning_of
def d_without_bars : He5.DefA := mkD (fun K => He.ga K "without_bars") "without_bars" "without_bars" s_without_bars
def d_Reckoning_init : He5.DefA := mkD (fun K => He.ma K (He.ga K "Reckoning") "__init__") "__init__" "Reckoning.__init__" s_Reckoning_init
def d_Reckoning_told : He5.DefA := mkD (fun K => He.ma K (He.ga K "Reckoning") "told") "told" "Reckoning.told" s_Reckoning_told
def d_Reckoning_named : He5.DefA := mkD (fun K => He.ma K (He.ga K "Reckoning") "named") "named" "Reckoning.named" s_Reckoning_named
def d_are_levels : He5.DefA := mkD (fun K => He.ga K "are_levels") "are_levels" "are_levels" s_are_levels
def d__is_level : He5.DefA := mkD (fun K => He.ga K "_is_level") "_is_level" "_is_level" s__is_level
def d_bound_beyond : He5.DefA := mkD (fun K => He.ga K "bound_beyond") "bound_beyond" "bound_beyond" s_bound_beyond
def d_bounded_prices : He5.DefA := mkD (fun K => He.ga K "bounded_prices") "bounded_prices" "bounded_prices" s_bounded_prices
def d_numbers_of : He5.DefA := mkD (fun K => He.ga K "numbers_of") "numbers_of" "numbers_of" s_numbers_of
def d_are_within : He5.DefA := mkD (fun K => He.ga K "are_within") "are_within" "are_within" s_are_within
def d_is_way : He5.DefA := mkD (fun K => He.ga K "is_way") "is_way" "is_way" s_is_way
def d_is_price : He5.DefA := mkD (fun K => He.ga K "is_price") "is_price" "is_price" s_is_price
def d_is_integer : He5.DefA := mkD (fun K => He.ga K "is_integer") "is_integer" "is_integer" s_is_integer
def d_check_way : He5.DefA := mkD (fun K => He.ga K "check_way") "check_way" "check_way" s_check_way
def d_check_yard : He5.DefA := mkD (fun K => He.ga K "check_yard") "check_yard" "check_yard" s_check_yard
def d_Yard_init : He5.DefA := mkD (fun K => He.ma K (He.ga K "Yard") "__init__") "__init__" "Yard.__init__" s_Yard_init
def d_Yard_len : He5.DefA := mkD (fun K => He.ma K (He.ga K "Yard") "__len__") "__len__" "Yard.__len__" s_Yard_len
def d_Yard_price_rows : He5.DefA := mkD (fun K => He.ma K (He.ga K "Yard") "price_rows") "price_rows" "Yard.price_rows" s_Yard_price_rows
def d_Yard_reckoning : He5.DefA := mkD (fun K => He.ma K (He.ga K "Yard") "reckoning") "reckoning" "Yard.reckoning" s_Yard_reckoning
def d__are_rows : He5.DefA := mkD (fun K => He.ga K "_are_rows") "_are_rows" "_are_rows" s__are_rows
def d__is_price_row : He5.DefA := mkD (fun K => He.ga K "_is_price_row") "_is_price_row" "_is_price_row" s__is_price_row
def d_tables : He5.DefA := mkD (fun K => He.ga K "tables") "tables" "tables" s_tables
def d_tower_cost : He5.DefA := mkD (fun K => He.ga K "tower_cost") "tower_cost" "tower_cost" s_tower_cost
def d_is_paper : He5.DefA := mkD (fun K => He.ga K "is_paper") "is_paper" "is_paper" s_is_paper
def d__are_within_lines : He5.DefA := mkD (fun K => He.ga K "_are_within_lines") "_are_within_lines" "_are_within_lines" s__are_within_lines
def d_told_cost : He5.DefA := mkD (fun K => He.ga K "told_cost") "told_cost" "told_cost" s_told_cost
def d_straight_ways : He5.DefA := mkD (fun K => He.ga K "straight_ways") "straight_ways" "straight_ways" s_straight_ways
def d__straight_ways : He5.DefA := mkD (fun K => He.ga K "_straight_ways") "_straight_ways" "_straight_ways" s__straight_ways
def d__law_cell : He5.DefA := mkD (fun K => He.ga K "_law_cell") "_law_cell" "_law_cell" s__law_cell
def d__law_bag : He5.DefA := mkD (fun K => He.ga K "_law_bag") "_law_bag" "_law_bag" s__law_bag
def d__law_take : He5.DefA := mkD (fun K => He.ga K "_law_take") "_law_take" "_law_take" s__law_take
def d__law_rows : He5.DefA := mkD (fun K => He.ga K "_law_rows") "_law_rows" "_law_rows" s__law_rows
def d__law_price : He5.DefA := mkD (fun K => He.ga K "_law_price") "_law_price" "_law_price" s__law_price
def d__law_sum : He5.DefA := mkD (fun K => He.ga K "_law_sum") "_law_sum" "_law_sum" s__law_sum
def d__law_lesser : He5.DefA := mkD (fun K => He.ga K "_law_lesser") "_law_lesser" "_law_lesser" s__law_lesser
def d__law_other : He5.DefA := mkD (fun K => He.ga K "_law_other") "_law_other" "_law_other" s__law_other
def d__law_level : He5.DefA := mkD (fun K => He.ga K "_law_level") "_law_level" "_law_level" s__law_level
def d__law_levels : He5.DefA := mkD (fun K => He.ga K "_law_levels") "_law_levels" "_law_levels" s__law_levels
def d__law_above : He5.DefA := mkD (fun K => He.ga K "_law_above") "_law_above" "_law_above" s__law_above
def d__law_is_table : He5.DefA := mkD (fun K => He.ga K "_law_is_table") "_law_is_table" "_law_is_table" s__law_is_table
def d__law_due : He5.DefA := mkD (fun K => He.ga K "_law_due") "_law_due" "_law_due" s__law_due
def d__law_lowered : He5.DefA := mkD (fun K => He.ga K "_law_lowered") "_law_lowered" "_law_lowered" s__law_lowered
def d__law_bent : He5.DefA := mkD (fun K => He.ga K "_law_bent") "_law_bent" "_law_bent" s__law_bent
def d__law_caught : He5.DefA := mkD (fun K => He.ga K "_law_caught") "_law_caught" "_law_caught" s__law_caught
def d__law_straight_right : He5.DefA := mkD (fun K => He.ga K "_law_straight_right") "_law_straight_right" "_law_straight_right" s__law_straight_right
def d__law_right : He5.DefA := mkD (fun K => He.ga K "_law_right") "_law_right" "_law_right" s__law_right
def d_law : He5.DefA := mkD (fun K => He.ga K "law") "law" "law" s_law
def fn : List He5.DefA := [d_InvalidYard_init, d_InvalidWay_init, d_InvalidPaper_init, d_both_lines, d_towers_above, d_turned, d_from_each_tower, d_reckoning_of, d_without_bars, d_Reckoning_init, d_Reckoning_told, d_Reckoning_named, d_are_levels, d__is_level, d_bound_beyond, d_bounded_prices, d_numbers_of, d_are_within, d_is_way, d_is_price, d_is_integer, d_check_way, d_check_yard, d_Yard_init, d_Yard_len, d_Yard_price_rows, d_Yard_reckoning, d__are_rows, d__is_price_row, d_tables, d_tower_cost, d_is_paper, d__are_within_lines, d_told_cost, d_straight_ways, d__straight_ways, d__law_cell, d__law_bag, d__law_take, d__law_rows, d__law_price, d__law_sum, d__law_lesser, d__law_other, d__law_level, d__law_levels, d__law_above, d__law_is_table, d__law_due, d__law_lowered, d__law_bent, d__law_caught, d__law_straight_right, d__law_right, d_law]
def fa : List He.Fa := [.glo "COLUMNS", .glo "InvalidPaper", .glo "InvalidWay", .glo "InvalidYard", .glo "Reckoning", .glo "WAYS", .glo "Yard", .glo "_TURNS", .glo "_are_rows", .glo "_are_within_lines", .glo "_is_level", .glo "_is_price_row", .glo "_law_above", .glo "_law_bag", .glo "_law_bent", .glo "_law_caught", .glo "_law_cell", .glo "_law_due", .glo "_law_is_table", .glo "_law_lesser", .glo "_law_level", .glo "_law_levels", .glo "_law_lowered", .glo "_law_other", .glo "_law_price", .glo "_law_right", .glo "_law_rows", .glo "_law_straight_right", .glo "_law_sum", .glo "_law_take", .glo "_straight_ways", .glo "are_levels", .glo "are_within", .glo "both_lines", .glo "bound_beyond", .glo "bounded_prices", .glo "check_way", .glo "check_yard", .glo "from_each_tower", .glo "is_integer", .glo "is_paper", .glo "is_price", .glo "is_way", .glo "law", .glo "numbers_of", .glo "reckoning_of", .glo "straight_ways", .glo "tables", .glo "told_cost", .glo "tower_cost", .glo "towers_above", .glo "turned", .glo "without_bars", .int "MOST_CRATES" 60, .free "all", .free "bool", .free "dict", .free "enumerate", .free "int", .free "isinstance", .free "len", .free "list", .free "max", .free "min", .free "range", .free "repr", .free "str", .free "sum", .free "tuple", .free "zip", .mkr "Yard", .mkr "Reckoning", .meth "Reckoning" "__init__", .meth "Reckoning" "told", .meth "Reckoning" "named", .meth "Yard" "__init__", .meth "Yard" "__len__", .meth "Yard" "price_rows", .meth "Yard" "reckoning"]
def ts : List He.Tab := [((fun K => He.ga K "COLUMNS"), columns.map (·.1)), ((fun K => He.ga K "_TURNS"), turnsT.map (·.1))]
def ex (K : PySem.W.Frag) : Bool := kfB K && sysB K && xFB "CratesError" excN K && krB K && colB K && tuB K && excB K "InvalidPaper" "value" && excB K "InvalidWay" "value" && excB K "InvalidYard" "value"
abbrev AlM : Type := (He.AlD × List (Option (List (Option (Str × Int))))) × Bool
def as0 : List Nat := [3, 6, 4, 21, 31, 51, 70, 89, 108, 127, 146, 149, 162, 169, 174, 181, 188, 195, 200, 205, 258, 267, 272, 277, 282, 289, 294, 299, 300, 301, 308, 315, 322, 329, 336, 343, 350, 357, 466, 475, 480, 485, 490, 497, 504, 511, 516, 523, 530, 535, 542, 547, 554, 561, 568, 575, 582, 589, 596, 601]
def as1 : List Nat := [606, 613, 618, 625, 630, 635, 640, 645, 652, 659, 666, 673, 0, 20, 30, 50, 69, 88, 107, 126, 145, 150, 151, 152, 153, 154, 155, 161, 168, 173, 180, 187, 194, 199, 204, 257, 266, 271, 276, 281, 288, 293, 298, 307, 314, 321, 328, 335, 342, 349, 356, 465, 474, 479, 484, 489, 496, 503, 510, 515]
def as2 : List Nat := [522, 529, 534, 541, 546, 553, 560, 567, 574, 581, 588, 595, 600, 605, 612, 617, 624, 629, 634, 639, 644, 651, 658, 665, 672, 15, 16, 17, 18, 19, 29, 32, 48, 49, 67, 68, 86, 87, 105, 106, 124, 125, 143, 144, 156, 157, 158, 159, 160, 163, 164, 165, 166, 167, 170, 171, 172, 175, 176, 177]
def as3 : List Nat := [178, 179, 182, 183, 184, 185, 186, 189, 190, 191, 192, 193, 196, 197, 198, 201, 202, 203, 219, 224, 231, 238, 243, 250, 255, 256, 259, 260, 263, 264, 265, 268, 269, 270, 273, 274, 275, 278, 279, 280, 283, 284, 285, 286, 287, 290, 291, 292, 295, 296, 297, 302, 303, 304, 305, 306, 309, 310, 311, 312]
def as4 : List Nat := [313, 316, 317, 318, 319, 320, 323, 324, 325, 326, 327, 330, 331, 332, 333, 334, 337, 338, 339, 340, 341, 344, 345, 346, 347, 348, 351, 352, 353, 354, 355, 369, 376, 386, 394, 401, 406, 411, 418, 425, 432, 439, 446, 451, 458, 463, 464, 467, 468, 471, 472, 473, 476, 477, 478, 481, 482, 483, 486, 487]
def as5 : List Nat := [488, 491, 492, 493, 494, 495, 498, 499, 500, 501, 502, 505, 506, 507, 508, 509, 512, 513, 514, 517, 518, 519, 520, 521, 524, 525, 526, 527, 528, 531, 532, 533, 536, 537, 538, 539, 540, 543, 544, 545, 548, 549, 550, 551, 552, 555, 556, 557, 558, 559, 562, 563, 564, 565, 566, 569, 570, 571, 572, 573]
def as6 : List Nat := [576, 577, 578, 579, 580, 583, 584, 585, 586, 587, 590, 591, 592, 593, 594, 597, 598, 599, 602, 603, 604, 607, 608, 609, 610, 611, 614, 615, 616, 619, 620, 621, 622, 623, 626, 627, 628, 631, 632, 633, 636, 637, 638, 641, 642, 643, 646, 647, 648, 649, 650, 653, 654, 655, 656, 657, 660, 661, 662, 663]
def as7 : List Nat := [664, 667, 668, 669, 670, 671, 47, 66, 85, 104, 123, 142, 218, 223, 230, 237, 242, 249, 254, 368, 374, 375, 384, 385, 393, 400, 405, 410, 417, 424, 431, 438, 445, 450, 457, 462, 42, 43, 44, 45, 46, 61, 62, 63, 64, 65, 80, 81, 82, 83, 84, 99, 100, 101, 102, 103, 118, 119, 120, 121]
def as8 : List Nat := [122, 137, 138, 139, 140, 141, 213, 214, 215, 216, 217, 220, 221, 222, 225, 226, 227, 228, 229, 232, 233, 234, 235, 236, 239, 240, 241, 244, 245, 246, 247, 248, 251, 252, 253, 365, 366, 367, 373, 377, 383, 387, 388, 389, 390, 391, 392, 395, 396, 397, 398, 399, 402, 403, 404, 407, 408, 409, 412, 413]
def as9 : List Nat := [414, 415, 416, 419, 420, 421, 422, 423, 426, 427, 428, 429, 430, 433, 434, 435, 436, 437, 440, 441, 442, 443, 444, 447, 448, 449, 452, 453, 454, 455, 456, 459, 460, 461, 370, 371, 372, 378, 379, 380, 381, 382, 2, 1]
def asL : List Nat := as0 ++ (as1 ++ (as2 ++ (as3 ++ (as4 ++ (as5 ++ (as6 ++ (as7 ++ (as8 ++ (as9)))))))))
def asM (_ : Addr → Option Obj) (_ : Nat) : List Addr := asL
def tabsM (ts : List He.Tab) (K : PySem.W.Frag) : List (Option (List (Option (Str × Int)))) := ts.map fun t => He.dicW K (t.1 K)
def keysM (ts : List He.Tab) (w : World) : List (Option (List (Option (Str × Int)))) := ts.map fun t => some (He.keysIn w.params t.2)
def obsM (n : Nat) (fa : List He.Fa) (fn : List He5.DefA) (ts : List He.Tab) (ex : PySem.W.Frag → Bool) (g : Addr → Option Obj) : AlM := ((He5.obsA fa fn (He.frG g (asM g n)), tabsM ts (He.frG g (asM g n))), ex (He.frG g (asM g n)))
def hookM (n : Nat) (fa : List He.Fa) (fn : List He5.DefA) (ts : List He.Tab) (ex : PySem.W.Frag → Bool) : PySem.W.Hook where
  α := AlM
  obs := fun s => obsM n fa fn ts ex s.heap.get?
  val := fun w => ((He5.valA fn, keysM ts w), true)
  says := fun w h => ∃ K : PySem.W.Frag, K.In h ∧ (He5.SaysA fa fn K ∧ tabsM ts K = keysM ts w) ∧ ex K = true
  of := fun _ _ e => ⟨_, He.frG_in, ⟨congrArg (fun z : AlM => z.1.1) e, congrArg (fun z : AlM => z.1.2) e⟩, congrArg (fun z : AlM => z.2) e⟩
  keeps := fun _ _ _ held kept => held.elim fun K z => ⟨K, z.1.keeps kept, z.2⟩
theorem obsM_eq {n : Nat} {fa : List He.Fa} {fn : List He5.DefA} {ts : List He.Tab} {ex : PySem.W.Frag → Bool} {g : Addr → Option Obj} {s : Shared} (h : ∀ a, g a = s.heap.get? a) : obsM n fa fn ts ex g = (hookM n fa fn ts ex).obs s := by
  obtain rfl : g = s.heap.get? := funext h
  rfl
theorem tabM {ts : List He.Tab} {w : World} {K : PySem.W.Frag} (c : tabsM ts K = keysM ts w) (i : Nat) {t : He.Tab} (h : ts[i]? = some t := by rfl) : ∃ es n, KDict K w (t.1 K) es n := by
  have e : (tabsM ts K)[i]? = (keysM ts w)[i]? := by rw [c]
  unfold tabsM keysM at e
  rw [List.getElem?_map, List.getElem?_map, h] at e
  exact He.dicW_ok (Option.some.inj e)
abbrev RowR : PySem.W.OpenRow := PySem.W.OpenLaw.row PySem.Challenge.rw_cratetowers_k21_papers_of_yards
abbrev hk : PySem.W.Hook := hookM 6 fa fn ts ex
def ob (s : PySem.W.SharedT) : AlM := obsM 6 fa fn ts ex (HandSHeadRun.getT s)
theorem ob_eq (s : PySem.W.SharedT) : ob s = hk.obs s.abs := obsM_eq (HandSHeadRun.getT_eq s)
def loose0 : List Str := [PySem.Str.ofString "_wall", PySem.Str.ofString "CratesError", PySem.Str.ofString "InvalidYard", PySem.Str.ofString "InvalidText", PySem.Str.ofString "InvalidWay", PySem.Str.ofString "InvalidCrate", PySem.Str.ofString "InvalidCount", PySem.Str.ofString "InvalidPaper", PySem.Str.ofString "_TURNS", PySem.Str.ofString "both_lines", PySem.Str.ofString "towers_above", PySem.Str.ofString "to_towers_above", PySem.Str.ofString "_from_place", PySem.Str.ofString "turned", PySem.Str.ofString "from_each_tower", PySem.Str.ofString "reckoning_of", PySem.Str.ofString "without_bars", PySem.Str.ofString "Reckoning", PySem.Str.ofString "first_apart", PySem.Str.ofString "are_levels", PySem.Str.ofString "_is_level", PySem.Str.ofString "bound_beyond", PySem.Str.ofString "bounded_prices", PySem.Str.ofString "numbers_of", PySem.Str.ofString "are_within", PySem.Str.ofString "WAYS", PySem.Str.ofString "COLUMNS", PySem.Str.ofString "MOST_CRATES", PySem.Str.ofString "_DIGITS", PySem.Str.ofString "_BAR"]
def loose1 : List Str := [PySem.Str.ofString "is_way", PySem.Str.ofString "is_price", PySem.Str.ofString "is_integer", PySem.Str.ofString "is_integer_within", PySem.Str.ofString "is_numeral", PySem.Str.ofString "check_way", PySem.Str.ofString "check_yard", PySem.Str.ofString "check_crate", PySem.Str.ofString "Yard", PySem.Str.ofString "_are_rows", PySem.Str.ofString "_is_price_row", PySem.Str.ofString "_is_yard_text", PySem.Str.ofString "_is_line", PySem.Str.ofString "_is_price_text", PySem.Str.ofString "_price_text", PySem.Str.ofString "_price_of", PySem.Str.ofString "tables", PySem.Str.ofString "tower_cost", PySem.Str.ofString "is_paper", PySem.Str.ofString "_are_within_lines", PySem.Str.ofString "told_cost", PySem.Str.ofString "straight_ways", PySem.Str.ofString "_straight_ways", PySem.Str.ofString "_law_cell", PySem.Str.ofString "_law_bag", PySem.Str.ofString "_law_take", PySem.Str.ofString "_law_rows", PySem.Str.ofString "_law_price", PySem.Str.ofString "_law_sum", PySem.Str.ofString "_law_lesser"]
def loose2 : List Str := [PySem.Str.ofString "_law_other", PySem.Str.ofString "_law_level", PySem.Str.ofString "_law_levels", PySem.Str.ofString "_law_above", PySem.Str.ofString "_law_is_table", PySem.Str.ofString "_law_due", PySem.Str.ofString "_law_lowered", PySem.Str.ofString "_law_bent", PySem.Str.ofString "_law_caught", PySem.Str.ofString "_law_straight_right", PySem.Str.ofString "_law_right"]
def loose : List Str := loose0 ++ loose1 ++ loose2
theorem run_f (w : World) : HandSHeadRun.RunEq RowR (PySem.W.view RowR.prog [77]) hk ob 20000 loose (w.withFollow "special-get-raises" false) := by
  intro os
  kernel_rfl
theorem run_t (w : World) : HandSHeadRun.RunEq RowR (PySem.W.view RowR.prog [77]) hk ob 20000 loose (w.withFollow "special-get-raises" true) := by
  intro os
  kernel_rfl
theorem run (w : World) : HandSHeadRun.RunEq RowR (PySem.W.view RowR.prog [77]) hk ob 20000 loose w :=
  PySem.W.byRow2 "special-get-raises" (P := fun w => HandSHeadRun.RunEq RowR (PySem.W.view RowR.prog [77]) hk ob 20000 loose w) run_f run_t w
end U
namespace U
open PySem PySem.Spec PyProof.Rows L2

/-! ### yards -/
def pV : Option Int → V
  | none => .non
  | some i => .int i
def SqA (K : PySem.W.Frag) (H : Hp) (p : Addr) (xs : List V) : Prop := SqL K H p xs ∨ SqT K H p xs
def okP : Option Int → Bool
  | none => true
  | some i => decide (0 < i)
/-- at y a yard of these rows -/
def Yd (K : PySem.W.Frag) (H : Hp) (y : Addr) (rows : List (List (Option Int))) : Prop :=
  ∃ (dx t : Addr) (as : List Addr), (∃ rk, H y = some (.ins (He.ga K "Yard") dx [("_rows", .ref t), ("_reckoning", rk)])) ∧ SqT K H t (as.map V.ref) ∧ as.length = rows.length ∧ rows.length ≤ 60 ∧ 1 ≤ rows.length ∧
    (∀ (i : Nat) (a : Addr) (r : List (Option Int)), as[i]? = some a → rows[i]? = some r → SqT K H a (r.map pV)) ∧ ∀ r ∈ rows, r.length = 6 ∧ r.all okP = true
section
variable {K : PySem.W.Frag} {H H' : Hp}
theorem SqA.same {p : Addr} {xs : List V} (e : Same H H') (h : SqA K H p xs) : SqA K H' p xs := h.imp (Same.seq e) (Same.sqT e)
theorem Yd.same {y : Addr} {rows : List (List (Option Int))} (e : Same H H') (h : Yd K H y rows) : Yd K H' y rows := by
  obtain ⟨dx, t, as, ⟨rk, h1⟩, h2, h3, h4, h5, h6, h7⟩ := h
  exact ⟨dx, t, as, ⟨rk, e _ _ h1⟩, Same.sqT e h2, h3, h4, h5, fun i a r q1 q2 => Same.sqT e (h6 i a r q1 q2), h7⟩
theorem Is.same {x : V} {a : Ty} (e : Same H H') (h : Is K H x a) : Is K H' x a := by
  have key : ∀ t, TyX K H x t → TyX K H' x t := by
    intro t h
    cases h with
    | base b =>
      refine .base ?_
      cases b with
      | non => exact .non
      | bl b => exact .bl b
      | int i => exact .int i
      | str z => exact .str z
      | flt z => exact .flt z
      | lst q => exact .lst (e _ _ q)
      | frz q => exact .frz (e _ _ q)
      | tup q => exact .tup (e _ _ q)
      | dK q => exact .dK (e _ _ q)
      | dT q => exact .dT (e _ _ q)
      | ins q a b c d f => exact .ins (e _ _ q) a b c d f
    | byt b => exact .byt b
    | set q => exact .set (e _ _ q)
    | kList q c => exact .kList q c
    | kTuple q c => exact .kTuple q c
    | kDict q c => exact .kDict q c
    | fTuple q => exact .fTuple (e _ _ q)
    | fDict q => exact .fDict (e _ _ q)
  exact key _ h
end
/-- an exception c with the value v, from any later heap -/
def Rz (K : PySem.W.Frag) (c f : Str) (v : V) (H : Hp) (E : XK) : Prop := ∀ d H', Same H H' → H' d = none → E (.ref (He.ga K c)) (some d) (upd H' d (.xd [(f, v)]))
theorem Rz.same {K : PySem.W.Frag} {c f : Str} {v : V} {H H' : Hp} {E : XK} (e : Same H H') (h : Rz K c f v H E) : Rz K c f v H' E := fun d H2 s n => h d H2 (e.trans s) n
/-- raise C(x), x the i-th name -/
theorem rse_var {K : PySem.W.Frag} {c f : Str} {E : XK} {i : Nat} {v : V} {σ : L2.St} {H : Hp} {D : Ends} (hv : σ[i]? = some (some v)) (h : Rz K c f v H E) : tRse K c f E (tCons (tVar i) tNil) D σ H :=
  ⟨v, hv, rse_of fun d hd => h d H (Same.refl H) hd⟩

/-! ### what the small judges answer -/
def isPl : V → Bool
  | .str z => decide (z = "a") || decide (z = "b") || decide (z = "c")
  | _ => false
def wayL : List Str := ["ab", "ac", "ba", "bc", "ca", "cb"]
def isWy : V → Bool
  | .str z => decide (z ∈ wayL)
  | _ => false
def isI : V → Bool
  | .int _ => true
  | _ => false
def isIn (x : V) (l h : Int) : Bool := match x with
  | .int i => decide (l ≤ i) && decide (i ≤ h)
  | _ => false
def isPr : V → Bool
  | .int i => decide (0 < i)
  | _ => false
def isPB : V → Bool
  | .non => true
  | .int i => decide (0 < i)
  | _ => false
def sp_is_way (K : PySem.W.Frag) : Sp := sp1 fun x H Q _ => ∃ a, Is K H x a ∧ Q (.bl (isWy x)) H
def sp_is_integer (K : PySem.W.Frag) : Sp := sp1 fun x H Q _ => ∃ a, Is K H x a ∧ Q (.bl (isI x)) H
def sp_is_price (K : PySem.W.Frag) : Sp := sp1 fun x H Q _ => ∃ a, Is K H x a ∧ Q (.bl (isPr x)) H
def sp_check_way (K : PySem.W.Frag) : Sp := sp1 fun x H Q E => ∃ a, Is K H x a ∧ (isWy x = true → Q .non H) ∧ (isWy x = false → Rz K "InvalidWay" "value" x H E)
def sp_check_yard (K : PySem.W.Frag) : Sp := sp1 fun x H Q E => ∃ a, Is K H x a ∧ (a = .yard → Q .non H) ∧ (a ≠ .yard → Rz K "InvalidYard" "value" x H E)
def sp_Yard_len (K : PySem.W.Frag) : Sp := sp1 fun x H Q _ => ∃ y rows, x = .ref y ∧ Yd K H y rows ∧ Q (.int (rows.length : Int)) H
/-- the tuple of a yard's rows -/
def Ys (K : PySem.W.Frag) (H : Hp) (t : Addr) (rows : List (List (Option Int))) : Prop := ∃ as : List Addr, SqT K H t (as.map V.ref) ∧ as.length = rows.length ∧ ∀ (i : Nat) (a : Addr) (r : List (Option Int)), as[i]? = some a → rows[i]? = some r → SqT K H a (r.map pV)
def sp_Yard_price_rows (K : PySem.W.Frag) : Sp := sp1 fun x H Q _ => ∃ y rows, x = .ref y ∧ Yd K H y rows ∧ ∀ t, Ys K H t rows → Q (.ref t) H
def t_is_way (K : PySem.W.Frag) (E : XK) : TS := (tRet (tAndV (tCB (uIsi K) (tCons (tVar 0) (tCons (tC (.ty "str")) tNil))) (tOp (uIn K false) (tVar 0) (tC (.ref (He.ga K "WAYS"))))))
def t_is_integer (K : PySem.W.Frag) (E : XK) : TS := (tRet (tAndV (tCB (uIsi K) (tCons (tVar 0) (tCons (tC (.ty "int")) tNil))) (tNotV (tCB (uIsi K) (tCons (tVar 0) (tCons (tC (.ty "bool")) tNil))))))
def t_is_price (K : PySem.W.Frag) (E : XK) : TS := (tRet (tAndV (tFn (sp_is_integer K) E (tCons (tVar 0) tNil)) (tOp uGt (tVar 0) (tC (.int 0)))))
def t_Yard_price_rows (K : PySem.W.Frag) (E : XK) : TS := (tRet (tFld K (tVar 0) "_rows"))
def t_check_way (K : PySem.W.Frag) (E : XK) : TS := (tIfS (tNot (tB (tFn (sp_is_way K) E (tCons (tVar 0) tNil)))) (tRse K "InvalidWay" "value" E (tCons (tVar 0) tNil)) tNext)
def t_check_yard (K : PySem.W.Frag) (E : XK) : TS := (tIfS (tNot (tB (tCB (uIsi K) (tCons (tVar 0) (tCons (tC (.ref (He.ga K "Yard"))) tNil))))) (tRse K "InvalidYard" "value" E (tCons (tVar 0) tNil)) tNext)
def t_Yard_len (K : PySem.W.Frag) (E : XK) : TS := (tRet (tCB (uLen K) (tCons (tFld K (tVar 0) "_rows") tNil)))
section
variable {K : PySem.W.Frag} (F : KF K) {vs : List V} {H : Hp} {Q : VK} {E : XK}
theorem isi_ty {x : V} {a b : Ty} {T : String} (F : KF K) (hT : b.v K = .type T) (h : Is K H x a) (q : Q (.bl (a.sub b)) H) : uIsi K [x, .ty T] H Q := by
  have k := F.kit a b
  rw [hT] at k
  exact ⟨a.v K, a.sub b, h, k, q⟩
theorem Is.of_str {z : Str} {a : Ty} (h : Is K H (.str z) a) : a = .str := by
  have key : ∀ t, TyX K H (.str z) t → t = a.v K → a = .str := by
    intro t h e
    cases h with
    | base b =>
      cases b
      cases a <;> first | rfl | (injection e with e; exact absurd e (by decide)) | cases e
  exact key _ h rfl
theorem Is.of_int {z : Int} {a : Ty} (h : Is K H (.int z) a) : a = .int := by
  have key : ∀ t, TyX K H (.int z) t → t = a.v K → a = .int := by
    intro t h e
    cases h with
    | base b =>
      cases b
      cases a <;> first | rfl | (injection e with e; exact absurd e (by decide)) | cases e
  exact key _ h rfl
theorem Is.of_bl {z : Bool} {a : Ty} (h : Is K H (.bl z) a) : a = .bl := by
  have key : ∀ t, TyX K H (.bl z) t → t = a.v K → a = .bl := by
    intro t h e
    cases h with
    | base b =>
      cases b
      cases a <;> first | rfl | (injection e with e; exact absurd e (by decide)) | cases e
  exact key _ h rfl
/-! one step of a reading -/
local macro_rules | `(tactic| walk_at "w") => `(tactic| simp only [tRet, tAndV, tOrV, tNotV, tCB, tCons, tVar, tNil, tC, tOp, tSeq, tAsg, gName, tIfS, tDrop, tFn, tTup, tLst, tNext, tB, tTest, tNot, tAnd, tOr, tIf, tChain, tUn, rU, tFld,
  L2.start, List.map_cons, List.map_nil, List.length_cons, List.length_nil, List.replicate_succ, List.replicate_zero, List.append_nil, List.nil_append, List.cons_append, List.singleton_append, Nat.sub_self, Nat.zero_add, Nat.reduceAdd, Nat.reduceSub,
  List.getElem?_cons_zero, List.getElem?_cons_succ, List.set_cons_zero, List.set_cons_succ, Option.some.injEq, exists_eq_left, exists_eq_left', V.int.injEq, V.bl.injEq, V.str.injEq, V.ref.injEq,
  uAdd, uSub, uMul, uDiv, uMod, uPow, uCmp, uLt, uLe, uGt, uGe, uIs, uNis, sp1, sp2, sp3, sp4])

theorem in_ways {z : Str} : inV (.str z) [.str "ab", .str "ac", .str "ba", .str "bc", .str "ca", .str "cb"] = isWy (.str z) := by
  show (wayL.map V.str).any (fun y => eqV y (.str z)) = decide (z ∈ wayL)
  rw [List.any_map, Bool.eq_iff_iff, List.any_eq_true, decide_eq_true_iff]
  constructor
  · rintro ⟨w, h1, h2⟩
    have : w = z := of_decide_eq_true h2
    exact this ▸ h1
  · intro h
    exact ⟨z, h, decide_eq_true rfl⟩
include F in
theorem read_is_way (h : sp_is_way K vs H Q E) : t_is_way K E { nx := fun _ H' => Q .non H', rt := Q } (start ["value"] vs) H := by
  match vs, h with
  | [x], ⟨a, ha, q⟩ =>
    unfold t_is_way
    walk_at "w"
    refine isi_ty (b := .str) F rfl ha ?_
    walk_at "w"
    by_cases e : a = .str
    · subst e
      obtain ⟨z, rfl⟩ := ha.str_inv
      simp only [Ty.sub, decide_true, Bool.true_or, if_true]
      exact ⟨_, _, rfl, .inr (F.ways H), rfl, rfl, by simpa [in_ways] using q⟩
    · rw [if_neg (by simp [Ty.sub, e])]
      have : isWy x = false := by cases x <;> first | rfl | exact absurd ha.of_str e
      rwa [this] at q
theorem isI_of {x : V} {a : Ty} (ha : Is K H x a) : isI x = (a.sub .int && !a.sub .bl) := by
  cases x with
  | int i => rw [ha.of_int]; rfl
  | bl b => rw [ha.of_bl]; rfl
  | _ =>
    have h1 : a ≠ .int := by
      rintro rfl
      obtain ⟨i, e⟩ := ha.int_inv
      cases e
    have h2 : a ≠ .bl := by
      rintro rfl
      obtain ⟨i, e⟩ := ha.bl_inv
      cases e
    simp [isI, Ty.sub, h1, h2]
include F in
theorem read_is_integer (h : sp_is_integer K vs H Q E) : t_is_integer K E { nx := fun _ H' => Q .non H', rt := Q } (start ["value"] vs) H := by
  match vs, h with
  | [x], ⟨a, ha, q⟩ =>
    unfold t_is_integer
    rw [isI_of ha] at q
    walk_at "w"
    refine isi_ty (b := .int) F rfl ha ?_
    walk_at "w"
    cases e : a.sub .int with
    | false => simpa [e] using q
    | true =>
      simp only [if_true]
      refine isi_ty (b := .bl) F rfl ha ?_
      simpa [e, TruV] using q
include F in
theorem read_is_price (h : sp_is_price K vs H Q E) : t_is_price K E { nx := fun _ H' => Q .non H', rt := Q } (start ["value"] vs) H := by
  match vs, h with
  | [x], ⟨a, ha, q⟩ =>
    unfold t_is_price sp_is_integer
    walk_at "w"
    refine ⟨a, ha, ?_⟩
    cases x with
    | int i => simpa [isI, isPr] using q
    | _ => simpa [isI, isPr] using q
include F in
theorem read_check_way (h : sp_check_way K vs H Q E) : t_check_way K E { nx := fun _ H' => Q .non H', rt := Q } (start ["way"] vs) H := by
  match vs, h with
  | [x], ⟨a, ha, q1, q2⟩ =>
    unfold t_check_way sp_is_way
    walk_at "w"
    refine ⟨a, ha, ?_⟩
    cases e : isWy x with
    | true => exact q1 e
    | false => exact rse_var (K := K) (c := "InvalidWay") (f := "value") (E := E) (σ := [some x]) (i := 0) (D := { nx := fun _ H' => Q .non H', rt := Q }) rfl (q2 e)
include F in
theorem read_check_yard (h : sp_check_yard K vs H Q E) : t_check_yard K E { nx := fun _ H' => Q .non H', rt := Q } (start ["yard"] vs) H := by
  match vs, h with
  | [x], ⟨a, ha, q1, q2⟩ =>
    unfold t_check_yard
    walk_at "w"
    refine .inl ⟨a.v K, a.sub .yard, ha, F.kit a .yard, _, rfl, ?_⟩
    cases e : a.sub .yard with
    | true => exact q1 (by cases a <;> first | rfl | cases e)
    | false =>
      refine rse_var (K := K) (c := "InvalidYard") (f := "value") (E := E) (σ := [some x]) (i := 0) (D := { nx := fun _ H' => Q .non H', rt := Q }) rfl (q2 ?_)
      rintro rfl
      cases e
include F in
theorem read_Yard_price_rows (h : sp_Yard_price_rows K vs H Q E) : t_Yard_price_rows K E { nx := fun _ H' => Q .non H', rt := Q } (start ["self"] vs) H := by
  match vs, h with
  | [_], ⟨y, rows, rfl, ⟨dx, t, as, ⟨rk, h1⟩, h2, h3, h4, h5, h6, h7⟩, q⟩ =>
    unfold t_Yard_price_rows
    walk_at "w"
    exact ⟨y, _, _, _, .ref t, rfl, h1, F.cl, F.na, rfl, q t ⟨as, h2, h3, h6⟩⟩
include F in
theorem read_Yard_len (h : sp_Yard_len K vs H Q E) : t_Yard_len K E { nx := fun _ H' => Q .non H', rt := Q } (start ["self"] vs) H := by
  match vs, h with
  | [_], ⟨y, rows, rfl, ⟨dx, t, as, ⟨rk, h1⟩, h2, h3, h4, h5, h6⟩, q⟩ =>
    unfold t_Yard_len
    walk_at "w"
    refine ⟨y, _, _, _, .ref t, rfl, h1, F.cl, F.na, rfl, ?_⟩
    refine ⟨_, .inr h2, ?_⟩
    rw [List.length_map, h3]
    exact q
end
end U
namespace U
open PySem PySem.Spec PyProof.Rows L2

/-! ### heaps that keep all but one -/
def Off (D : Addr) (H H' : Hp) : Prop := ∀ b o, b ≠ D → H b = some o → H' b = some o
section
variable {K : PySem.W.Frag} {H H' H2 : Hp} {D a p : Addr} {xs l : List V} {o : HO}
theorem Off.refl : Off D H H := fun _ _ _ h => h
theorem Same.off (h : Same H H') : Off D H H' := fun b o _ e => h b o e
theorem Off.trans (h : Off D H H') (g : Off D H' H2) : Off D H H2 := fun b o n e => g b o n (h b o n e)
theorem off_upd : Off D H (upd H D o) := fun b u n e => by rw [upd_ne n]; exact e
theorem Off.same (h : Off D H H') (n : H D = none) : Same H H' := fun b o e => h b o (ne_of_none e n) e
theorem Off.sqT (h : Off D H H') (hD : H D = some (.lst l)) (q : SqT K H a xs) : SqT K H' a xs := by
  rcases q with (q | ⟨o, q⟩) | q
  · exact .inl (.inl (h _ _ (by rintro rfl; rw [hD] at q; cases q) q))
  · exact .inl (.inr ⟨o, h _ _ (by rintro rfl; rw [hD] at q; cases q) q⟩)
  · exact .inr q
theorem Off.yd {y : Addr} {rows : List (List (Option Int))} (e : Off D H H') (hD : H D = some (.lst l)) (h : Yd K H y rows) : Yd K H' y rows := by
  obtain ⟨dx, t, as, ⟨rk, h1⟩, h2, h3, h4, h5, h6, h7⟩ := h
  exact ⟨dx, t, as, ⟨rk, e _ _ (by rintro rfl; rw [hD] at h1; cases h1) h1⟩, e.sqT hD h2, h3, h4, h5, fun i a r q1 q2 => e.sqT hD (h6 i a r q1 q2), h7⟩
end
/-! ### what is walked without a change of the heap -/
structure Plain (J : It) (xs : List V) (G : Hp → Prop) : Prop where
  go : ∀ i H, G H → i < xs.length → J.go i H
  yld : ∀ i H x H', G H → J.yld i H x H' → H' = H ∧ (i < xs.length → xs[i]? = some x)
  stop : ∀ i H, G H → i = xs.length → J.stop i H
section
variable {K : PySem.W.Frag} {a : Addr} {xs : List V}
theorem plain_L : Plain (Itl K a) xs fun H => SqL K H a xs :=
  ⟨fun i H h lt => ⟨xs, xs[i], h, List.getElem?_eq_getElem lt⟩, fun i H x H' h ⟨e, q⟩ => ⟨e, fun _ => q xs h⟩, fun i H h e => ⟨xs, h, Nat.le_of_eq e.symm⟩⟩
theorem plain_T : Plain (Itt K a) xs fun H => SqT K H a xs :=
  ⟨fun i H h lt => ⟨xs, xs[i], h, List.getElem?_eq_getElem lt⟩, fun i H x H' h ⟨e, q⟩ => ⟨e, fun _ => q xs h⟩, fun i H h e => ⟨xs, h, Nat.le_of_eq e.symm⟩⟩
theorem strL_len (z : Str) : (strL z).length = z.cps.size := by simp [strL]
theorem plain_S {z : Str} : Plain (Its z) (strL z) fun _ => True :=
  ⟨fun i H h lt => by rw [strL_len] at lt; exact lt, fun i H x H' h ⟨e, c, q1, q2⟩ => ⟨e, fun _ => by
    subst q2
    unfold strL
    rw [List.getElem?_map, Array.getElem?_toList, q1]
    rfl⟩, fun i H h e => by rw [strL_len] at e; exact Nat.le_of_eq e.symm⟩
def intsL (lo : Int) (n : Nat) : List V := (List.range n).map fun (i : Nat) => V.int (lo + (i : Int))
theorem plain_R {lo : Int} {n : Nat} : Plain (Itr lo n) (intsL lo n) fun _ => True :=
  ⟨fun i H h lt => by
    have lt : i < n := by simpa [intsL] using lt
    exact lt, fun i H x H' h ⟨e, q2⟩ => ⟨e, fun lt => by
    subst q2
    have lt : i < n := by simpa [intsL] using lt
    simp [intsL, lt]⟩, fun i H h e => by
    have : i = n := by simpa [intsL] using e
    exact Nat.le_of_eq this.symm⟩
/-- the ends of a loop's body: N behind it -/
abbrev turnE (D : Ends) (N : L2.St → Hp → Prop) : Ends := { D with nx := N, ct := N, bk := D.nx }
theorem for_plain {J : It} {G : Hp → Prop} (P : Plain J xs G) {wi : TI} {g : TG} {tb : TS} {D : Ends} {σ : L2.St} {H : Hp} (hw : ∀ R : It → Hp → Prop, R J H → wi σ H R) (Pv : Nat → L2.St → Hp → Prop) (h0 : Pv 0 σ H) (hG : ∀ i σ H, Pv i σ H → G H)
    (hs : ∀ i x τ H, xs[i]? = some x → Pv i τ H → g x τ H fun ρ H2 => tb (turnE D (Pv (i + 1))) ρ H2) (hd : ∀ τ H, Pv xs.length τ H → D.nx τ H) : tFor wi g tb D σ H := by
  refine hw _ ?_
  have start0 : xs.length = xs.length - 0 ∧ 0 ≤ xs.length ∧ Pv 0 σ H := ⟨rfl, Nat.zero_le _, h0⟩
  refine ⟨fun i m τ H => m = xs.length - i ∧ i ≤ xs.length ∧ Pv i τ H, ⟨_, start0⟩, ?_⟩
  rintro i m σ H ⟨rfl, hi, p⟩
  have q := hG i σ H p
  by_cases hlt : i < xs.length
  · refine .inr ⟨P.go i H q hlt, Pv (i + 1), fun σ' H' p' => ⟨xs.length - (i + 1), by omega, rfl, hlt, p'⟩, fun x H' y => ?_⟩
    obtain ⟨rfl, hx⟩ := P.yld i H x H' q y
    exact hs i x σ H' (hx hlt) p
  · have atEnd : i = xs.length := Nat.le_antisymm hi (Nat.le_of_not_lt hlt)
    exact .inl ⟨P.stop i H q atEnd, hd σ H (atEnd ▸ p)⟩
theorem it_plain {J : It} {G : Hp → Prop} (P : Plain J xs G) {B : V → Hp → (Hp → Prop) → Prop} {H0 : Hp} {fin : Hp → Prop} (Pv : Nat → Hp → Prop) (h0 : Pv 0 H0) (hG : ∀ i H, Pv i H → G H)
    (hs : ∀ i x H, xs[i]? = some x → Pv i H → B x H (Pv (i + 1))) (hd : ∀ H, Pv xs.length H → fin H) : Laps J H0 fin B := by
  have start0 : xs.length = xs.length - 0 ∧ 0 ≤ xs.length ∧ Pv 0 H0 := ⟨rfl, Nat.zero_le _, h0⟩
  refine ⟨fun i m H => m = xs.length - i ∧ i ≤ xs.length ∧ Pv i H, ⟨_, start0⟩, ?_⟩
  rintro i m H ⟨rfl, hi, p⟩
  have q := hG i H p
  by_cases hlt : i < xs.length
  · refine .inr ⟨P.go i H q hlt, Pv (i + 1), fun H' p' => ⟨xs.length - (i + 1), by omega, rfl, hlt, p'⟩, fun x H' y => ?_⟩
    obtain ⟨rfl, hx⟩ := P.yld i H x H' q y
    exact hs i x H' (hx hlt) p
  · have atEnd : i = xs.length := Nat.le_antisymm hi (Nat.le_of_not_lt hlt)
    exact .inl ⟨P.stop i H q atEnd, hd H (atEnd ▸ p)⟩
theorem lc_plain {J : It} {G : Hp → Prop} (P : Plain J xs G) {g : TG} {tt : TT} {te : TE} {vs : List Nat} {σ : L2.St} {H1 : Hp} {D : Addr} {Qd : Hp → Prop} (Pv : Nat → Hp → Prop) (h0 : Pv 0 (upd H1 D (.lst []))) (hG : ∀ i H, Pv i H → G H)
    (hs : ∀ i x H, xs[i]? = some x → Pv i H → lcT g tt te vs σ D (Pv (i + 1)) x H) (hd : ∀ H, Pv xs.length H → Qd H) : LcB J g tt te vs σ H1 D Qd :=
  it_plain P Pv h0 hG hs hd
/-- [te for name j in ..], whose turns only make new things -/
theorem lc_grow {J : It} {G : Hp → Prop} (P : Plain J xs G) {te : TE} {j : Nat} {σ : L2.St} {H1 : Hp} {D : Addr} {Qd : Hp → Prop} (R : List V → Hp → Prop) (hD : H1 D = none) (hlen : xs.length ≤ sizeLine)
    (hG : ∀ H, Same H1 H → G H) (h0 : ∀ H, Same H1 H → R [] H) (hup : ∀ acc l H H', H D = some (.lst l) → Off D H H' → R acc H → R acc H')
    (hs : ∀ i x acc H (Q : VK), xs[i]? = some x → Same H1 H → acc.length = i → R acc H → (∀ y H4, Same H H4 → R (acc ++ [y]) H4 → Q y H4) → te (σ.set j (some x)) H Q)
    (hd : ∀ acc H, acc.length = xs.length → Same H1 H → H D = some (.lst acc) → R acc H → Qd H) : LcB J (gName j) tYes te [j] σ H1 D Qd := by
  refine lc_plain P (fun i H => ∃ acc, acc.length = i ∧ H D = some (.lst acc) ∧ Same H1 H ∧ R acc H) ⟨[], rfl, upd_same, same_new hD, h0 _ (same_new hD)⟩ (fun i H ⟨_, _, _, s, _⟩ => hG H s) ?_ (fun H ⟨acc, h1, h2, h3, h4⟩ => hd acc H h1 h3 h2 h4)
  rintro i x H hx ⟨acc, h1, h2, h3, h4⟩
  show wipe _ [j] = wipe σ [j] ∧ _
  refine ⟨by simp only [wipe, List.set_set], ?_⟩
  show te ((σ.set j none).set j (some x)) H _
  rw [List.set_set]
  have lt : i < xs.length := by
    rcases Nat.lt_or_ge i xs.length with q | q
    · exact q
    · rw [List.getElem?_eq_none q] at hx; cases hx
  refine hs i x acc H _ hx h3 h1 h4 fun y H4 s r => ⟨acc, s _ _ h2, by omega, acc ++ [y], by simp [h1], upd_same, ?_, ?_⟩
  · exact (Off.trans (Same.off (h3.trans s)) off_upd).same hD
  · exact hup _ acc _ _ (s _ _ h2) off_upd r
theorem for_rng1 {ta : TA} {g : TG} {tb : TS} {D : Ends} {σ : L2.St} {H : Hp} {n : Nat} (h : ∀ R : List V → Hp → Prop, R [.int n] H → ta σ H R) (hn : n ≤ 1000000000) (Pv : Nat → L2.St → Hp → Prop) (h0 : Pv 0 σ H)
    (hs : ∀ (i : Nat) σ H, i < n → Pv i σ H → g (.int i) σ H fun σ2 H2 => tb (turnE D (Pv (i + 1))) σ2 H2) (hd : ∀ σ H, Pv n σ H → D.nx σ H) : tFor (iRng1 ta) g tb D σ H := by
  have e : (intsL 0 n).length = n := by simp [intsL]
  have hw : ∀ R : It → Hp → Prop, R (Itr 0 n) H → iRng1 ta σ H R := fun R r => h _ ⟨_, rfl, by omega, by omega, by rw [Int.toNat_natCast]; exact r⟩
  refine for_plain plain_R hw Pv h0 (fun _ _ _ _ => trivial) (fun i x σ H hx p => ?_) (by rw [e]; exact hd)
  have lt : i < n := e ▸ (List.getElem?_eq_some_iff.mp hx).1
  have : x = .int i := by
    simp [intsL, lt] at hx
    exact hx.symm
  subst this
  exact hs i σ H lt p
end
end U
namespace U
open PySem PySem.Spec PyProof.Rows L2

theorem take_snoc {α : Type} (f : α → V) {acc : List V} {bs : List α} {i : Nat} {c : α} (ha : acc = (bs.take acc.length).map f) (hl : acc.length = i) (hc : bs[i]? = some c) : acc ++ [f c] = (bs.take (acc ++ [f c]).length).map f := by
  subst hl
  rw [List.length_append, List.length_singleton, List.take_succ, List.map_append, ← ha, hc]
  rfl
/-! ### rows of prices -/
def RowB (K : PySem.W.Frag) (H : Hp) (x : V) (b : Bool) : Prop := (∃ a, Is K H x a ∧ a ≠ .lst ∧ a ≠ .tup ∧ b = false) ∨
  ∃ p xs, x = .ref p ∧ SqA K H p xs ∧ (∀ v ∈ xs, ∃ a, Is K H v a) ∧ b = (decide (xs.length = 6) && xs.all isPB)
def RowsB (K : PySem.W.Frag) (H : Hp) (x : V) (b : Bool) : Prop := (∃ a, Is K H x a ∧ a ≠ .lst ∧ a ≠ .tup ∧ b = false) ∨
  ∃ (p : Addr) (xs : List V) (bs : List Bool), x = .ref p ∧ SqA K H p xs ∧ bs.length = xs.length ∧ (∀ (i : Nat) (v : V) (c : Bool), xs[i]? = some v → bs[i]? = some c → RowB K H v c) ∧ b = (decide (1 ≤ xs.length) && (decide (xs.length ≤ 60) && bs.all id))
section
variable {K : PySem.W.Frag} {H H' : Hp} {x : V} {b : Bool}
theorem RowB.same (e : Same H H') (h : RowB K H x b) : RowB K H' x b := by
  rcases h with ⟨a, h, r⟩ | ⟨p, xs, r, h, g, q⟩
  · exact .inl ⟨a, h.same e, r⟩
  · exact .inr ⟨p, xs, r, h.same e, fun v m => by
      obtain ⟨a, z⟩ := g v m
      exact ⟨a, z.same e⟩, q⟩
theorem RowsB.same (e : Same H H') (h : RowsB K H x b) : RowsB K H' x b := by
  rcases h with ⟨a, h, r⟩ | ⟨p, xs, bs, r, h, g, z, q⟩
  · exact .inl ⟨a, h.same e, r⟩
  · exact .inr ⟨p, xs, bs, r, h.same e, g, fun i v c h1 h2 => (z i v c h1 h2).same e, q⟩
theorem SqA.kind {p : Addr} {xs : List V} (h : SqA K H p xs) : ∃ a, Is K H (.ref p) a ∧ (a.sub .lst || a.sub .tup) = true := by
  rcases h with h | h
  · exact ⟨.lst, is_sqL h, rfl⟩
  · exact ⟨.tup, is_sqT h, rfl⟩
theorem isi_seq (F : KF K) {a : Ty} {p : Addr} {Q : VK} (hp : H p = some (.tup [.ty "list", .ty "tuple"])) (h : Is K H x a) (q : Q (.bl (a.sub .lst || a.sub .tup)) H) : uIsi K [x, .ref p] H Q := by
  refine .inr ⟨_, [.type "list", .type "tuple"], a.v K, _, hp, .cons (.ty _) (.cons (.ty _) .nil), h, ?_, q⟩
  show PySem.W.kitAny K (a.v K) [Ty.v K .lst, Ty.v K .tup] = _
  unfold PySem.W.kitAny
  rw [F.kit a .lst]
  cases a.sub .lst with
  | true => rfl
  | false =>
    show PySem.W.kitAny K (a.v K) [Ty.v K .tup] = _
    unfold PySem.W.kitAny
    rw [F.kit a .tup]
    cases a.sub .tup <;> rfl
theorem uLen_seq {p : Addr} {xs : List V} {Q : VK} (h : SqA K H p xs) (q : Q (.int xs.length) H) : uLen K [.ref p] H Q := ⟨xs, h, q⟩
theorem uEq_int {i j : Int} {Q : VK} : uEq K (.int i) (.int j) H Q = Q (.bl (decide (i = j))) H := rfl
theorem uEq_str {i j : Str} {Q : VK} : uEq K (.str i) (.str j) H Q = Q (.bl (decide (i = j))) H := rfl
theorem uNe_int {i j : Int} {Q : VK} : uNe K (.int i) (.int j) H Q = Q (.bl (!decide (i = j))) H := rfl
theorem uNe_str {i j : Str} {Q : VK} : uNe K (.str i) (.str j) H Q = Q (.bl (!decide (i = j))) H := rfl
theorem uAdd_int {i j : Int} {Q : VK} : uAdd (.int i) (.int j) H Q = Q (.int (i + j)) H := rfl
theorem uSub_int {i j : Int} {Q : VK} : uSub (.int i) (.int j) H Q = Q (.int (i - j)) H := rfl
theorem uMul_int {i j : Int} {Q : VK} : uMul (.int i) (.int j) H Q = (CMul i j ∧ Q (.int (i * j)) H) := rfl
theorem uDiv_int {i j : Int} {Q : VK} : uDiv (.int i) (.int j) H Q = (CDivW i j ∧ Q (.int (i / j)) H) := rfl
theorem uMod_int {i j : Int} {Q : VK} : uMod (.int i) (.int j) H Q = (0 < j ∧ Q (.int (i % j)) H) := rfl
theorem uPow_int {i j : Int} {Q : VK} : uPow (.int i) (.int j) H Q = (CPow i j ∧ Q (.int (i ^ j.toNat)) H) := rfl
theorem uLt_int {i j : Int} {Q : VK} : uLt (.int i) (.int j) H Q = Q (.bl (decide (i < j))) H := rfl
theorem uLe_int {i j : Int} {Q : VK} : uLe (.int i) (.int j) H Q = Q (.bl (decide (i ≤ j))) H := rfl
theorem uGt_int {i j : Int} {Q : VK} : uGt (.int i) (.int j) H Q = Q (.bl (decide (j < i))) H := rfl
theorem uGe_int {i j : Int} {Q : VK} : uGe (.int i) (.int j) H Q = Q (.bl (decide (j ≤ i))) H := rfl
theorem uAdd_str {i j : Str} {Q : VK} : uAdd (.str i) (.str j) H Q = (i.length + j.length ≤ sizeLine ∧ Q (.str (i ++ j)) H) := rfl
theorem uMul_str {i : Str} {n : Int} {Q : VK} : uMul (.str i) (.int n) H Q = (0 ≤ n ∧ n ≤ 1000 ∧ i.length ≤ 10000 ∧ Q (.str (Txt.mul i n)) H) := rfl
theorem uIs_non {Q : VK} : uIs x .non H Q = Q (.bl (decide (x = .non))) H := rfl
theorem uNis_non {Q : VK} : uNis x .non H Q = Q (.bl (!decide (x = .non))) H := rfl
theorem uIs_bl {a c : Bool} {Q : VK} : uIs (.bl a) (.bl c) H Q = Q (.bl (decide (a = c))) H := rfl
theorem uNis_bl {a c : Bool} {Q : VK} : uNis (.bl a) (.bl c) H Q = Q (.bl (!decide (a = c))) H := rfl
theorem uSl_str {z : Str} {lo hi : Option Int} {Q : VK} : uSl K (.str z) lo hi H Q = (z.length ≤ sizeLine ∧ Q (.str (cutS z lo hi)) H) := rfl
theorem uLen_str {z : Str} {Q : VK} : uLen K [.str z] H Q = (z.length ≤ sizeLine ∧ Q (.int z.length) H) := rfl
theorem seq_ {a b : TS} {D : Ends} {σ : L2.St} {H : Hp} (h : a { D with nx := b D } σ H) : tSeq a b D σ H := h
theorem tVar_eq {i : Nat} {σ : L2.St} {v : V} (h : σ[i]? = some (some v)) (Q : VK) : tVar i σ H Q = Q v H := by
  unfold tVar
  simp [h]
theorem tLc_str {t : TE} {σ : L2.St} {g : TG} {tt : TT} {te : TE} {vs : List Nat} {Q : VK} {z : Str} (ht : ∀ Q, t σ H Q = Q (.str z) H) (hc : ∀ D, H D = none → LcB (Its z) g tt te vs σ H D (Q (.ref D))) : tLc (iStr t) g tt te vs σ H Q := by
  show t σ H _
  rw [ht]
  exact ⟨z, rfl, hc⟩
theorem tLc_seq {t : TE} {σ : L2.St} {g : TG} {tt : TT} {te : TE} {vs : List Nat} {Q : VK} {p : Addr} {xs : List V} (h : SqA K H p xs) (ht : ∀ Q, t σ H Q = Q (.ref p) H)
    (hc : ∀ (J : It) (G : Hp → Prop), Plain J xs G → (∀ H', Same H H' → G H') → ∀ D, H D = none → LcB J g tt te vs σ H D (Q (.ref D))) : tLc (iSeq K t) g tt te vs σ H Q := by
  rcases h with h | h
  · refine .inl ?_
    show t σ H _
    rw [ht]
    exact ⟨p, rfl, ⟨xs, h⟩, hc _ _ plain_L fun H' e => Same.seq e h⟩
  · refine .inr ?_
    show t σ H _
    rw [ht]
    exact ⟨p, rfl, ⟨xs, h⟩, hc _ _ plain_T fun H' e => Same.sqT e h⟩
end
def sp__is_price_row (K : PySem.W.Frag) : Sp := sp1 fun x H Q _ => ∃ b, RowB K H x b ∧ ∀ H', Same H H' → Q (.bl b) H'
def sp__are_rows (K : PySem.W.Frag) : Sp := sp1 fun x H Q _ => ∃ b, RowsB K H x b ∧ ∀ H', Same H H' → Q (.bl b) H'
def t__is_price_row (K : PySem.W.Frag) (E : XK) : TS := (tRet (tAndV (tCB (uIsi K) (tCons (tVar 0) (tCons (tTup (tCons (tC (.ty "list")) (tCons (tC (.ty "tuple")) tNil))) tNil))) (tAndV (tOp (uEq K) (tCB (uLen K) (tCons (tVar 0) tNil)) (tCB (uLen K) (tCons (tC (.ref (He.ga K "WAYS"))) tNil))) (tCB (rAll K) (tCons (tLc (iSeq K (tVar 0)) (gName 1) tYes (tOrV (tOp uIs (tVar 1) (tC .non)) (tFn (sp_is_price K) E0 (tCons (tVar 1) tNil))) [1]) tNil)))))
def t__are_rows (K : PySem.W.Frag) (E : XK) : TS := (tRet (tAndV (tCB (uIsi K) (tCons (tVar 0) (tCons (tTup (tCons (tC (.ty "list")) (tCons (tC (.ty "tuple")) tNil))) tNil))) (tAndV (tChain uLe uLe (tC (.int 1)) (tCB (uLen K) (tCons (tVar 0) tNil)) (tC (.int 60))) (tCB (rAll K) (tCons (tLc (iSeq K (tVar 0)) (gName 1) tYes (tFn (sp__is_price_row K) E0 (tCons (tVar 1) tNil)) [1]) tNil)))))
section
variable {K : PySem.W.Frag} (F : KF K) {vs : List V} {H : Hp} {Q : VK} {E : XK}
local macro_rules | `(tactic| walk_at "w") => `(tactic| try simp only [turnE, lcT, Snoc, tRet, tRetN, tAndV, tOrV, tNotV, tCB, tCons, tVar, tNil, tC, tOp, tSeq, tAsg, gName, gSub, tIfS, tDrop, tFn, tTup, tLst, tNext, tB, tTest, tNot, tAnd, tOr, tIf, tChain, tUn, rU, tFld, tPart, tNoPart, L2.tSl, tBM, tPar, tPar3, tTruth, tDNewK,
  L2.start, List.map_cons, List.map_nil, List.length_cons, List.length_nil, List.replicate_succ, List.replicate_zero, List.append_nil, List.nil_append, List.cons_append, List.singleton_append, Nat.sub_self, Nat.zero_add, Nat.reduceAdd, Nat.reduceSub,
  List.getElem?_cons_zero, List.getElem?_cons_succ, List.set_cons_zero, List.set_cons_succ, Option.some.injEq, exists_eq_left, exists_eq_left', V.int.injEq, V.bl.injEq, V.str.injEq, V.ref.injEq,
  uAdd_int, uAdd_str, uSub_int, uMul_int, uMul_str, uDiv_int, uMod_int, uPow_int, uLt_int, uLe_int, uGt_int, uGe_int, uIs_non, uNis_non, uIs_bl, uNis_bl, sp1, sp2, sp3, sp4, uEq_int, uEq_str, uNe_int, uNe_str, uSl_str, uLen_str, decide_eq_true_eq])
local macro_rules | `(tactic| walk_at "1") => `(tactic| try simp only [turnE, lcT, Snoc, tRet, tRetN, tAndV, tOrV, tNotV, tCB, tCons, tVar, tNil, tC, tOp, tAsg, gName, gSub, tIfS, tDrop, tFn, tTup, tLst, tNext, tB, tTest, tNot, tAnd, tOr, tIf, tChain, tUn, rU, tFld, tPart, tNoPart, L2.tSl, tBM, tPar, tPar3, tTruth, tDNewK,
  L2.start, List.map_cons, List.map_nil, List.length_cons, List.length_nil, List.replicate_succ, List.replicate_zero, List.append_nil, List.nil_append, List.cons_append, List.singleton_append, Nat.sub_self, Nat.zero_add, Nat.reduceAdd, Nat.reduceSub,
  List.getElem?_cons_zero, List.getElem?_cons_succ, List.set_cons_zero, List.set_cons_succ, Option.some.injEq, exists_eq_left, exists_eq_left', V.int.injEq, V.bl.injEq, V.str.injEq, V.ref.injEq,
  uAdd_int, uAdd_str, uSub_int, uMul_int, uMul_str, uDiv_int, uMod_int, uPow_int, uLt_int, uLe_int, uGt_int, uGe_int, uIs_non, uNis_non, uIs_bl, uNis_bl, sp1, sp2, sp3, sp4, uEq_int, uEq_str, uNe_int, uNe_str, uSl_str, uLen_str, decide_eq_true_eq])
local macro_rules | `(tactic| walk_at "s") => `(tactic| ((try dsimp only [turnE]); with_reducible refine seq_ ?_))

include F in
theorem read__is_price_row (h : sp__is_price_row K vs H Q E) : t__is_price_row K E { nx := fun _ H' => Q .non H', rt := Q } (start ["value", "price"] vs) H := by
  match vs, h with
  | [x], ⟨b, hb, q⟩ =>
    unfold t__is_price_row
    walk_at "w"
    refine ⟨by decide, fun p hp => ?_⟩
    have e1 : Same H (upd H p (.tup [.ty "list", .ty "tuple"])) := same_new hp
    have hb1 := hb.same e1
    have hp1 : upd H p (.tup [.ty "list", .ty "tuple"]) p = some (.tup [.ty "list", .ty "tuple"]) := upd_same
    generalize upd H p (.tup [.ty "list", .ty "tuple"]) = H1 at *
    rcases hb1 with ⟨a, h1, h2, h3, rfl⟩ | ⟨r, xs, rfl, h1, h2, rfl⟩
    · refine isi_seq F hp1 h1 ?_
      have : (a.sub .lst || a.sub .tup) = false := by cases a <;> first | rfl | exact absurd rfl h2 | exact absurd rfl h3
      rw [this]
      exact ⟨_, rfl, q _ e1⟩
    · obtain ⟨a, ka, ks⟩ := h1.kind
      refine isi_seq F hp1 ka ?_
      rw [ks]
      refine ⟨_, rfl, ?_⟩
      rw [if_pos rfl]
      refine uLen_seq h1 (uLen_seq (.inr (F.ways H1)) ⟨_, rfl, ?_⟩)
      by_cases e : xs.length = 6
      · rw [decide_eq_true (by simp [e]), if_pos rfl]
        refine tLc_seq (p := r) h1 (tVar_eq rfl) fun J G P hG D hD => ?_
        refine lc_grow P (fun acc _ => acc = ((xs.map isPB).take acc.length).map V.bl) hD (by rw [e]; decide) hG (fun _ _ => rfl) (fun _ _ _ _ _ _ h => h) ?_ ?_
        · rintro i y acc H2 Q' hy s hl ha k
          obtain ⟨a, z⟩ := h2 y (List.mem_of_getElem? hy)
          have k := k (.bl (isPB y)) H2 (Same.refl _) (take_snoc V.bl ha hl (by simp [hy]))
          unfold sp_is_price
          walk_at "w"
          cases y with
          | non => simpa [isPB] using k
          | _ =>
            simp only [reduceCtorEq, decide_false, Bool.false_eq_true, if_false]
            refine ⟨a, z.same s, ?_⟩
            simpa [isPB, isPr] using k
        · rintro acc H2 hl s hD2 ha
          have hm : acc = (xs.map isPB).map V.bl := by
            rw [ha, hl, List.take_of_length_le (by simp)]
          refine ⟨D, xs.map isPB, rfl, .inl (.inl (by rw [hD2, hm])), ?_⟩
          have := q H2 (e1.trans s)
          simpa [e, List.all_map, Function.comp_def] using this
      · rw [decide_eq_false (by simp; omega)]
        simpa [e] using q _ e1
include F in
theorem read__are_rows (h : sp__are_rows K vs H Q E) : t__are_rows K E { nx := fun _ H' => Q .non H', rt := Q } (start ["value", "row"] vs) H := by
  match vs, h with
  | [x], ⟨b, hb, q⟩ =>
    unfold t__are_rows
    walk_at "w"
    refine ⟨by decide, fun p hp => ?_⟩
    have e1 : Same H (upd H p (.tup [.ty "list", .ty "tuple"])) := same_new hp
    have hb1 := hb.same e1
    have hp1 : upd H p (.tup [.ty "list", .ty "tuple"]) p = some (.tup [.ty "list", .ty "tuple"]) := upd_same
    generalize upd H p (.tup [.ty "list", .ty "tuple"]) = H1 at *
    rcases hb1 with ⟨a, h1, h2, h3, rfl⟩ | ⟨r, xs, bs, rfl, h1, hbl, h2, rfl⟩
    · refine isi_seq F hp1 h1 ?_
      have : (a.sub .lst || a.sub .tup) = false := by cases a <;> first | rfl | exact absurd rfl h2 | exact absurd rfl h3
      rw [this]
      exact ⟨_, rfl, q _ e1⟩
    · obtain ⟨a, ka, ks⟩ := h1.kind
      refine isi_seq F hp1 ka ?_
      rw [ks]
      refine ⟨_, rfl, ?_⟩
      rw [if_pos rfl]
      refine uLen_seq h1 ?_
      walk_at "w"
      by_cases l1 : 1 ≤ xs.length
      · rw [if_pos (show (1 : Int) ≤ xs.length by omega)]
        by_cases l2 : xs.length ≤ 60
        · rw [if_pos (show (xs.length : Int) ≤ 60 by omega)]
          refine tLc_seq (p := r) h1 (tVar_eq rfl) fun J G P hG D hD => ?_
          refine lc_grow P (fun acc _ => acc = (bs.take acc.length).map V.bl) hD (Nat.le_trans l2 (by decide)) hG (fun _ _ => rfl) (fun _ _ _ _ _ _ h => h) ?_ ?_
          · rintro i y acc H2 Q' hy s hl ha k
            have lt : i < xs.length := (List.getElem?_eq_some_iff.mp hy).1
            have hc : bs[i]? = some bs[i] := List.getElem?_eq_getElem (by omega)
            have z := (h2 i y _ hy hc).same s
            unfold sp__is_price_row
            walk_at "w"
            refine ⟨_, z, fun H3 s3 => k _ _ s3 ?_⟩
            exact take_snoc V.bl ha hl hc
          · rintro acc H2 hl s hD2 ha
            have hm : acc = bs.map V.bl := by rw [ha, hl, List.take_of_length_le (by omega)]
            refine ⟨D, bs, rfl, .inl (.inl (by rw [hD2, hm])), ?_⟩
            have := q H2 (e1.trans s)
            simpa [l1, l2] using this
        · rw [if_neg (show ¬ (xs.length : Int) ≤ 60 by omega)]
          simpa [l2] using q _ e1
      · rw [if_neg (show ¬ (1 : Int) ≤ xs.length by omega)]
        simpa [l1] using q _ e1
end
/-! ### making a yard -/
def RowV (K : PySem.W.Frag) (H : Hp) (x : V) (rows : List (List (Option Int))) : Prop := ∃ (p : Addr) (xs : List V), x = .ref p ∧ SqA K H p xs ∧ xs.length = rows.length ∧
  ∀ (i : Nat) (v : V) (r : List (Option Int)), xs[i]? = some v → rows[i]? = some r → ∃ q, v = .ref q ∧ SqA K H q (r.map pV)
def RowsOk (rows : List (List (Option Int))) : Prop := 1 ≤ rows.length ∧ rows.length ≤ 60 ∧ ∀ r ∈ rows, r.length = 6 ∧ r.all okP = true
theorem isPB_pV (p : Option Int) : isPB (pV p) = okP p := by cases p <;> rfl
theorem is_pV {K : PySem.W.Frag} {H : Hp} (p : Option Int) : ∃ a, Is K H (pV p) a := by
  cases p with
  | none => exact ⟨_, is_non⟩
  | some i => exact ⟨_, is_int i⟩
section
variable {K : PySem.W.Frag} {H H' : Hp} {x : V} {rows : List (List (Option Int))}
theorem RowV.same (e : Same H H') (h : RowV K H x rows) : RowV K H' x rows := by
  obtain ⟨p, xs, h1, h2, h3, h4⟩ := h
  refine ⟨p, xs, h1, h2.same e, h3, fun i v r g1 g2 => ?_⟩
  obtain ⟨q, z1, z2⟩ := h4 i v r g1 g2
  exact ⟨q, z1, z2.same e⟩
theorem RowV.rowsB (h : RowV K H x rows) (o : RowsOk rows) : RowsB K H x true := by
  obtain ⟨p, xs, h1, h2, h3, h4⟩ := h
  obtain ⟨o1, o2, o3⟩ := o
  refine .inr ⟨p, xs, xs.map fun _ => true, h1, h2, by simp, fun i v c g1 g2 => ?_, by simp; omega⟩
  rw [List.getElem?_map, g1] at g2
  cases g2
  have lt : i < rows.length := h3 ▸ (List.getElem?_eq_some_iff.mp g1).1
  obtain ⟨q, rfl, z⟩ := h4 i v rows[i] g1 (List.getElem?_eq_getElem lt)
  obtain ⟨k1, k2⟩ := o3 rows[i] (List.getElem_mem lt)
  refine .inr ⟨q, _, rfl, z, fun v m => ?_, ?_⟩
  · obtain ⟨p, _, rfl⟩ := List.mem_map.mp m
    exact is_pV p
  · rw [List.length_map, k1, List.all_map]
    have : (isPB ∘ pV) = okP := funext isPB_pV
    rw [this, k2]
    rfl
theorem Off.sqT_ins {a D : Addr} {xs : List V} {C dx : Addr} {fs : List (Str × V)} (h : Off D H H') (hD : H D = some (.ins C dx fs)) (q : SqT K H a xs) : SqT K H' a xs := by
  rcases q with (q | ⟨o, q⟩) | q
  · exact .inl (.inl (h _ _ (by rintro rfl; rw [hD] at q; cases q) q))
  · exact .inl (.inr ⟨o, h _ _ (by rintro rfl; rw [hD] at q; cases q) q⟩)
  · exact .inr q
end
def sp_Yard_init (K : PySem.W.Frag) : Sp := sp2 fun s x H Q E => ∃ a dx, s = .ref a ∧ H a = some (.ins (He.ga K "Yard") dx []) ∧
  ((∃ rows, RowV K H x rows ∧ RowsOk rows ∧ ∀ H', Off a H H' → Yd K H' a rows → (∃ dx t, H' a = some (.ins (He.ga K "Yard") dx [("_rows", .ref t), ("_reckoning", .non)])) → Q .non H') ∨ (RowsB K H x false ∧ Rz K "InvalidYard" "value" x H E))
def t_Yard_init (K : PySem.W.Frag) (E : XK) : TS := (tSeq (tIfS (tNot (tB (tFn (sp__are_rows K) E (tCons (tVar 1) tNil)))) (tRse K "InvalidYard" "value" E (tCons (tVar 1) tNil)) tNext) (tSeq (sFld K (tVar 0) (tCB (uTup K) (tCons (tLc (iSeq K (tVar 1)) (gName 2) tYes (tCB (uTup K) (tCons (tVar 2) tNil)) [2]) tNil)) "_rows") (sFld K (tVar 0) (tC .non) "_reckoning")))
section
variable {K : PySem.W.Frag} (F : KF K) {vs : List V} {H : Hp} {Q : VK} {E : XK}
local macro_rules | `(tactic| walk_at "w") => `(tactic| try simp only [turnE, lcT, Snoc, tRet, tRetN, tAndV, tOrV, tNotV, tCB, tCons, tVar, tNil, tC, tOp, tSeq, tAsg, gName, gSub, tIfS, tDrop, tFn, tTup, tLst, tNext, tB, tTest, tNot, tAnd, tOr, tIf, tChain, tUn, rU, tFld, tPart, tNoPart, L2.tSl, tBM, tPar, tPar3, tTruth, tDNewK,
  L2.start, List.map_cons, List.map_nil, List.length_cons, List.length_nil, List.replicate_succ, List.replicate_zero, List.append_nil, List.nil_append, List.cons_append, List.singleton_append, Nat.sub_self, Nat.zero_add, Nat.reduceAdd, Nat.reduceSub,
  List.getElem?_cons_zero, List.getElem?_cons_succ, List.set_cons_zero, List.set_cons_succ, Option.some.injEq, exists_eq_left, exists_eq_left', V.int.injEq, V.bl.injEq, V.str.injEq, V.ref.injEq,
  uAdd_int, uAdd_str, uSub_int, uMul_int, uMul_str, uDiv_int, uMod_int, uPow_int, uLt_int, uLe_int, uGt_int, uGe_int, uIs_non, uNis_non, uIs_bl, uNis_bl, sp1, sp2, sp3, sp4, uEq_int, uEq_str, uNe_int, uNe_str, uSl_str, uLen_str, decide_eq_true_eq])
local macro_rules | `(tactic| walk_at "1") => `(tactic| try simp only [turnE, lcT, Snoc, tRet, tRetN, tAndV, tOrV, tNotV, tCB, tCons, tVar, tNil, tC, tOp, tAsg, gName, gSub, tIfS, tDrop, tFn, tTup, tLst, tNext, tB, tTest, tNot, tAnd, tOr, tIf, tChain, tUn, rU, tFld, tPart, tNoPart, L2.tSl, tBM, tPar, tPar3, tTruth, tDNewK,
  L2.start, List.map_cons, List.map_nil, List.length_cons, List.length_nil, List.replicate_succ, List.replicate_zero, List.append_nil, List.nil_append, List.cons_append, List.singleton_append, Nat.sub_self, Nat.zero_add, Nat.reduceAdd, Nat.reduceSub,
  List.getElem?_cons_zero, List.getElem?_cons_succ, List.set_cons_zero, List.set_cons_succ, Option.some.injEq, exists_eq_left, exists_eq_left', V.int.injEq, V.bl.injEq, V.str.injEq, V.ref.injEq,
  uAdd_int, uAdd_str, uSub_int, uMul_int, uMul_str, uDiv_int, uMod_int, uPow_int, uLt_int, uLe_int, uGt_int, uGe_int, uIs_non, uNis_non, uIs_bl, uNis_bl, sp1, sp2, sp3, sp4, uEq_int, uEq_str, uNe_int, uNe_str, uSl_str, uLen_str, decide_eq_true_eq])
local macro_rules | `(tactic| walk_at "s") => `(tactic| ((try dsimp only [turnE]); with_reducible refine seq_ ?_))

include F in
theorem read_Yard_init (h : sp_Yard_init K vs H Q E) : t_Yard_init K E { nx := fun _ H' => Q .non H', rt := Q } (start ["self", "rows", "row"] vs) H := by
  match vs, h with
  | [_, x], ⟨a, dx, rfl, ha, h⟩ =>
    unfold t_Yard_init sp__are_rows
    walk_at "w"
    rcases h with ⟨rows, hr, ho, q⟩ | ⟨hb, rz⟩
    · refine ⟨true, hr.rowsB ho, fun H1 s1 => ?_⟩
      simp only [Bool.not_true, Bool.false_eq_true, if_false, sFld, tCB]
      obtain ⟨p, xs, rfl, h2, h3, h4⟩ := hr.same s1
      refine tLc_seq (p := p) h2 (tVar_eq rfl) fun J G P hG D hD => ?_
      refine lc_grow P (fun acc H => ∃ as : List Addr, acc = as.map V.ref ∧ as.length ≤ rows.length ∧ ∀ (i : Nat) (a : Addr) (r : List (Option Int)), as[i]? = some a → rows[i]? = some r → SqT K H a (r.map pV)) hD
        (by rw [h3]; exact Nat.le_trans ho.2.1 (by decide)) hG (fun _ _ => ⟨[], rfl, Nat.zero_le _, fun i a r z => by simp at z⟩) ?_ ?_ ?_
      · rintro acc l H2 H3 hl o ⟨as, e1, e2, e3⟩
        exact ⟨as, e1, e2, fun i a r z1 z2 => o.sqT hl (e3 i a r z1 z2)⟩
      · rintro i y acc H2 Q' hy s hl ⟨as, e1, e2, e3⟩ k
        have lt : i < rows.length := h3 ▸ (List.getElem?_eq_some_iff.mp hy).1
        obtain ⟨b, rfl, z⟩ := h4 i y rows[i] hy (List.getElem?_eq_getElem lt)
        have z := z.same s
        walk_at "w"
        have hl2 : as.length = i := by rw [e1, List.length_map] at hl; exact hl
        have step : ∀ (c : Addr) (H3 : Hp), Same H2 H3 → SqT K H3 c (rows[i].map pV) → Q' (.ref c) H3 := fun c H3 s3 hc => by
          refine k _ _ s3 ⟨as ++ [c], by simp [e1], by simp; omega, fun j d r z1 z2 => ?_⟩
          by_cases e : j = i
          · subst e
            rw [List.getElem?_append_right (by omega), hl2] at z1
            simp at z1
            subst z1
            rw [List.getElem?_eq_getElem lt] at z2
            cases z2
            exact hc
          · have : j < as.length := by
              have := (List.getElem?_eq_some_iff.mp z1).1
              simp at this
              omega
            rw [List.getElem?_append_left this] at z1
            exact Same.sqT s3 (e3 j d r z1 z2)
        rcases z with z | z
        · exact ⟨_, .inl ⟨z, fun l hl => step l _ (same_new hl) (.inl (.inl upd_same))⟩⟩
        · exact ⟨_, .inr ⟨z, step b _ (Same.refl _) z⟩⟩
      · rintro acc H2 hl s hD2 ⟨as, e1, e2, e3⟩
        have hla : as.length = rows.length := by rw [e1, List.length_map] at hl; omega
        refine ⟨acc, .inl ⟨.inl (.inl hD2), fun t ht => ?_⟩⟩
        have st : Same H2 (upd H2 t (.tup acc)) := same_new ht
        have hat : upd H2 t (.tup acc) a = some (.ins (He.ga K "Yard") dx []) := st _ _ (s _ _ (s1 _ _ ha))
        have htt : upd H2 t (.tup acc) t = some (.tup acc) := upd_same
        have sall : Same H (upd H2 t (.tup acc)) := (s1.trans s).trans st
        have e3' : ∀ (i : Nat) (a : Addr) (r : List (Option Int)), as[i]? = some a → rows[i]? = some r → SqT K (upd H2 t (.tup acc)) a (r.map pV) := fun i a r z1 z2 => Same.sqT st (e3 i a r z1 z2)
        generalize upd H2 t (.tup acc) = H4 at *
        refine ⟨.ref a, rfl, a, _, dx, [], rfl, hat, F.cl, F.na, by simp, ?_⟩
        refine ⟨.ref a, rfl, a, _, dx, _, rfl, upd_same, F.cl, F.na2, by simp [putF], ?_⟩
        have of : Off a H4 (upd (upd H4 a (.ins (He.ga K "Yard") dx (putF "_rows" (.ref t) []))) a (.ins (He.ga K "Yard") dx (putF "_reckoning" .non (putF "_rows" (.ref t) [])))) := Off.trans off_upd off_upd
        refine q _ (Off.trans (Same.off sall) of) ⟨dx, t, as, ⟨_, upd_same⟩, of.sqT_ins hat (.inl (.inl (by rw [htt, e1]))), hla, ho.2.1, ho.1, fun i b r z1 z2 => of.sqT_ins hat (e3' i b r z1 z2), ho.2.2⟩ ⟨dx, t, upd_same⟩
    · refine ⟨false, hb, fun H1 s1 => ?_⟩
      simp only [if_true, Bool.not_false]
      exact rse_var (K := K) (c := "InvalidYard") (f := "value") (E := E) (i := 1) rfl (rz.same s1)
end
end U
namespace U
open PySem PySem.Spec PyProof.Rows L2

/-! ### arrangements as lists of digits -/
def pl (d : Nat) : Str := ⟨#[97 + d]⟩
def wd (ds : List Nat) : Str := ⟨(ds.map (97 + ·)).toArray⟩
def D3 (ds : List Nat) : Prop := ∀ d ∈ ds, d < 3
theorem strL_wd (ds : List Nat) : strL (wd ds) = ds.map fun d => V.str (pl d) := by
  simp [strL, wd, pl]
theorem wd_size (ds : List Nat) : (wd ds).cps.size = ds.length := by simp [wd]
theorem wd_length (ds : List Nat) : (wd ds).length = ds.length := wd_size ds
theorem wd_pl (d : Nat) : wd [d] = pl d := rfl
theorem isPl_pl {d : Nat} (h : d < 3) : isPl (.str (pl d)) = true := by
  match d, h with
  | 0, _ => decide
  | 1, _ => decide
  | 2, _ => decide
/-- is a value an arrangement of n crates -/
def arrB (n : Nat) : V → Bool
  | .str z => decide (z.cps.size = n) && (strL z).all isPl
  | _ => false
theorem arrB_wd {n : Nat} {ds : List Nat} (h : ds.length = n) (h3 : D3 ds) : arrB n (.str (wd ds)) = true := by
  simp only [arrB, wd_size, h, decide_true, Bool.true_and, strL_wd, List.all_map, List.all_eq_true, Function.comp]
  exact fun d m => isPl_pl (h3 d m)
def Short (x : V) : Prop := ∀ z, x = .str z → z.length ≤ sizeLine
/-- a yard, or an InvalidYard -/
def YardOr (K : PySem.W.Frag) (H : Hp) (y : V) (E : XK) (k : List (List (Option Int)) → Prop) : Prop := ∃ a, Is K H y a ∧ (a ≠ .yard → Rz K "InvalidYard" "value" y H E) ∧ (a = .yard → ∃ p rows, y = .ref p ∧ Yd K H p rows ∧ k rows)
theorem YardOr.to {K : PySem.W.Frag} {H : Hp} {y : V} {E E' : XK} {k k' : List (List (Option Int)) → Prop} (h : YardOr K H y E k) (e : Rz K "InvalidYard" "value" y H E → Rz K "InvalidYard" "value" y H E') (f : ∀ p rows, y = .ref p → Yd K H p rows → k rows → k' rows) : YardOr K H y E' k' := by
  obtain ⟨a, h1, h2, h3⟩ := h
  refine ⟨a, h1, fun z => e (h2 z), fun z => ?_⟩
  obtain ⟨p, rows, r1, r2, r3⟩ := h3 z
  exact ⟨p, rows, r1, r2, f p rows r1 r2 r3⟩
def sp_check_arrangement (K : PySem.W.Frag) : Sp := sp2 fun y x H Q E => YardOr K H y E fun rows => ∃ b, Is K H x b ∧ Short x ∧ (arrB rows.length x = true → ∀ H', Same H H' → Q .non H') ∧ (arrB rows.length x = false → Rz K "InvalidArrangement" "value" x H E)
def Arr (n : Nat) (x : V) (ds : List Nat) : Prop := x = .str (wd ds) ∧ ds.length = n ∧ D3 ds
/-- no arrangement, and so an InvalidArrangement -/
def NoArr (K : PySem.W.Frag) (H : Hp) (n : Nat) (x : V) (E : XK) : Prop := ∃ b, Is K H x b ∧ Short x ∧ arrB n x = false ∧ Rz K "InvalidArrangement" "value" x H E
section
variable {K : PySem.W.Frag} (F : KF K) {vs : List V} {H : Hp} {Q : VK} {E : XK}
local macro_rules | `(tactic| walk_at "w") => `(tactic| try simp only [turnE, lcT, Snoc, tRet, tRetN, tAndV, tOrV, tNotV, tCB, tCons, tVar, tNil, tC, tOp, tSeq, tAsg, gName, gSub, tIfS, tDrop, tFn, tTup, tLst, tNext, tB, tTest, tNot, tAnd, tOr, tIf, tChain, tUn, rU, tFld, tPart, tNoPart, L2.tSl, tBM, tPar, tPar3, tTruth, tDNewK,
  L2.start, List.map_cons, List.map_nil, List.length_cons, List.length_nil, List.replicate_succ, List.replicate_zero, List.append_nil, List.nil_append, List.cons_append, List.singleton_append, Nat.sub_self, Nat.zero_add, Nat.reduceAdd, Nat.reduceSub,
  List.getElem?_cons_zero, List.getElem?_cons_succ, List.set_cons_zero, List.set_cons_succ, Option.some.injEq, exists_eq_left, exists_eq_left', V.int.injEq, V.bl.injEq, V.str.injEq, V.ref.injEq,
  uAdd_int, uAdd_str, uSub_int, uMul_int, uMul_str, uDiv_int, uMod_int, uPow_int, uLt_int, uLe_int, uGt_int, uGe_int, uIs_non, uNis_non, uIs_bl, uNis_bl, sp1, sp2, sp3, sp4, uEq_int, uEq_str, uNe_int, uNe_str, uSl_str, uLen_str, decide_eq_true_eq])
local macro_rules | `(tactic| walk_at "1") => `(tactic| try simp only [turnE, lcT, Snoc, tRet, tRetN, tAndV, tOrV, tNotV, tCB, tCons, tVar, tNil, tC, tOp, tAsg, gName, gSub, tIfS, tDrop, tFn, tTup, tLst, tNext, tB, tTest, tNot, tAnd, tOr, tIf, tChain, tUn, rU, tFld, tPart, tNoPart, L2.tSl, tBM, tPar, tPar3, tTruth, tDNewK,
  L2.start, List.map_cons, List.map_nil, List.length_cons, List.length_nil, List.replicate_succ, List.replicate_zero, List.append_nil, List.nil_append, List.cons_append, List.singleton_append, Nat.sub_self, Nat.zero_add, Nat.reduceAdd, Nat.reduceSub,
  List.getElem?_cons_zero, List.getElem?_cons_succ, List.set_cons_zero, List.set_cons_succ, Option.some.injEq, exists_eq_left, exists_eq_left', V.int.injEq, V.bl.injEq, V.str.injEq, V.ref.injEq,
  uAdd_int, uAdd_str, uSub_int, uMul_int, uMul_str, uDiv_int, uMod_int, uPow_int, uLt_int, uLe_int, uGt_int, uGe_int, uIs_non, uNis_non, uIs_bl, uNis_bl, sp1, sp2, sp3, sp4, uEq_int, uEq_str, uNe_int, uNe_str, uSl_str, uLen_str, decide_eq_true_eq])
local macro_rules | `(tactic| walk_at "s") => `(tactic| ((try dsimp only [turnE]); with_reducible refine seq_ ?_))

theorem chk_arr {y x : V} {H : Hp} {Q : VK} {k : List (List (Option Int)) → List Nat → Prop} (h : YardOr K H y E fun rows => (∃ ds, Arr rows.length x ds ∧ k rows ds) ∨ NoArr K H rows.length x E)
    (q : ∀ p rows ds, y = .ref p → Yd K H p rows → Arr rows.length x ds → k rows ds → ∀ H', Same H H' → Q .non H') : sp_check_arrangement K [y, x] H Q E := by
  refine YardOr.to h id fun p rows e hy g => ?_
  rcases g with ⟨ds, ⟨rfl, a1, a2⟩, g⟩ | ⟨b, g1, g2, g3, g4⟩
  · refine ⟨.str, is_str _, fun z e => ?_, fun _ => q p rows ds e hy ⟨rfl, a1, a2⟩ g, fun z => ?_⟩
    · cases e
      obtain ⟨_, _, _, _, _, _, l1, l2, _⟩ := hy
      rw [wd_length, a1]
      exact Nat.le_trans l1 (by decide)
    · rw [arrB_wd a1 a2] at z
      cases z
  · exact ⟨b, g1, g2, fun z => absurd (g3.symm.trans z) (by decide), fun _ => g4⟩
end
theorem uIx_str {K : PySem.W.Frag} {z : Str} {i : Int} {c : Nat} {H : Hp} {Q : VK} (h : z.length ≤ sizeLine) (hi : atI z.cps.toList i = some c) (q : Q (.str ⟨#[c]⟩) H) : uIx K (.str z) (.int i) H Q := ⟨h, c, hi, q⟩
end U
namespace U
open PySem PySem.Spec PyProof.Rows L2

/-! ### ways, prices, moves -/
def wayI (a b : Nat) : Nat := 2 * a + (if a < b then b - 1 else b)
def Mv (K : PySem.W.Frag) (H : Hp) (t : Addr) (k d : Nat) : Prop := SqT K H t [.int k, .str (pl d)]
/-- a value that has the form of a move, or not -/
def MvF (K : PySem.W.Frag) (H : Hp) (n : Nat) (x : V) (b : Bool) : Prop := (∃ a, Is K H x a ∧ a ≠ .tup ∧ b = false) ∨
  ∃ t xs, x = .ref t ∧ SqT K H t xs ∧ ((xs.length ≠ 2 ∧ b = false) ∨ ∃ u v c e, xs = [u, v] ∧ Is K H u c ∧ Is K H v e ∧ b = (isIn u 0 ((n : Int) - 1) && isPl v))
theorem MvF.same {K : PySem.W.Frag} {H H' : Hp} {n : Nat} {x : V} {b : Bool} (e : Same H H') (h : MvF K H n x b) : MvF K H' n x b := by
  rcases h with ⟨a, h, r⟩ | ⟨t, xs, h1, h2, h3⟩
  · exact .inl ⟨a, h.same e, r⟩
  · refine .inr ⟨t, xs, h1, Same.sqT e h2, ?_⟩
    rcases h3 with h3 | ⟨u, v, c, d, z1, z2, z3, z4⟩
    · exact .inl h3
    · exact .inr ⟨u, v, c, d, z1, z2.same e, z3.same e, z4⟩
theorem Mv.form {K : PySem.W.Frag} {H : Hp} {t : Addr} {k d n : Nat} (h : Mv K H t k d) (hk : k < n) (hd : d < 3) : MvF K H n (.ref t) true := by
  refine .inr ⟨t, _, rfl, h, .inr ⟨_, _, .int, .str, rfl, is_int _, is_str _, ?_⟩⟩
  rw [isPl_pl hd]
  show true = (decide ((0 : Int) ≤ (k : Int)) && decide ((k : Int) ≤ (n : Int) - 1) && true)
  rw [decide_eq_true (by omega), decide_eq_true (by omega)]
  rfl
section
variable {K : PySem.W.Frag} (F : KF K) {vs : List V} {H : Hp} {Q : VK} {E : XK}
local macro_rules | `(tactic| walk_at "w") => `(tactic| try simp only [turnE, lcT, Snoc, tRet, tRetN, tAndV, tOrV, tNotV, tCB, tCons, tVar, tNil, tC, tOp, tSeq, tAsg, gName, gSub, tIfS, tDrop, tFn, tTup, tLst, tNext, tB, tTest, tNot, tAnd, tOr, tIf, tChain, tUn, rU, tFld, tPart, tNoPart, L2.tSl, tBM, tPar, tPar3, tTruth, tDNewK,
  L2.start, List.map_cons, List.map_nil, List.length_cons, List.length_nil, List.replicate_succ, List.replicate_zero, List.append_nil, List.nil_append, List.cons_append, List.singleton_append, Nat.sub_self, Nat.zero_add, Nat.reduceAdd, Nat.reduceSub,
  List.getElem?_cons_zero, List.getElem?_cons_succ, List.set_cons_zero, List.set_cons_succ, Option.some.injEq, exists_eq_left, exists_eq_left', V.int.injEq, V.bl.injEq, V.str.injEq, V.ref.injEq,
  uAdd_int, uAdd_str, uSub_int, uMul_int, uMul_str, uDiv_int, uMod_int, uPow_int, uLt_int, uLe_int, uGt_int, uGe_int, uIs_non, uNis_non, uIs_bl, uNis_bl, sp1, sp2, sp3, sp4, uEq_int, uEq_str, uNe_int, uNe_str, uSl_str, uLen_str, decide_eq_true_eq])
local macro_rules | `(tactic| walk_at "1") => `(tactic| try simp only [turnE, lcT, Snoc, tRet, tRetN, tAndV, tOrV, tNotV, tCB, tCons, tVar, tNil, tC, tOp, tAsg, gName, gSub, tIfS, tDrop, tFn, tTup, tLst, tNext, tB, tTest, tNot, tAnd, tOr, tIf, tChain, tUn, rU, tFld, tPart, tNoPart, L2.tSl, tBM, tPar, tPar3, tTruth, tDNewK,
  L2.start, List.map_cons, List.map_nil, List.length_cons, List.length_nil, List.replicate_succ, List.replicate_zero, List.append_nil, List.nil_append, List.cons_append, List.singleton_append, Nat.sub_self, Nat.zero_add, Nat.reduceAdd, Nat.reduceSub,
  List.getElem?_cons_zero, List.getElem?_cons_succ, List.set_cons_zero, List.set_cons_succ, Option.some.injEq, exists_eq_left, exists_eq_left', V.int.injEq, V.bl.injEq, V.str.injEq, V.ref.injEq,
  uAdd_int, uAdd_str, uSub_int, uMul_int, uMul_str, uDiv_int, uMod_int, uPow_int, uLt_int, uLe_int, uGt_int, uGe_int, uIs_non, uNis_non, uIs_bl, uNis_bl, sp1, sp2, sp3, sp4, uEq_int, uEq_str, uNe_int, uNe_str, uSl_str, uLen_str, decide_eq_true_eq])
local macro_rules | `(tactic| walk_at "s") => `(tactic| ((try dsimp only [turnE]); with_reducible refine seq_ ?_))

theorem col_wd {a b : Nat} (ha : a < 3) (hb : b < 3) (n : a ≠ b) : (wd [a, b], ((wayI a b : Nat) : Int)) ∈ columns := by
  match a, ha, b, hb with
  | 0, _, 0, _ => exact absurd rfl n
  | 0, _, 1, _ => decide
  | 0, _, 2, _ => decide
  | 1, _, 0, _ => decide
  | 1, _, 1, _ => exact absurd rfl n
  | 1, _, 2, _ => decide
  | 2, _, 0, _ => decide
  | 2, _, 1, _ => decide
  | 2, _, 2, _ => exact absurd rfl n
theorem col_of {a b : Nat} {Q : VK} (ha : a < 3) (hb : b < 3) (n : a ≠ b) (q : Q (.int (wayI a b : Nat)) H) : rCol K (.ref (He.ga K "COLUMNS")) (.str (wd [a, b])) H Q := ⟨_, _, rfl, rfl, col_wd ha hb n, q⟩
theorem wayI_lt {a b : Nat} (ha : a < 3) (hb : b < 3) (n : a ≠ b) : wayI a b < 6 := by
  unfold wayI
  split <;> omega
theorem at_nat {xs : List V} {k : Nat} {v : V} (h : xs[k]? = some v) : atI xs (k : Int) = some v := by
  have lt := (List.getElem?_eq_some_iff.mp h).1
  unfold atI ixN
  rw [if_pos (Int.natCast_nonneg k), if_pos (by omega)]
  show xs[((k : Nat) : Int).toNat]? = _
  rw [Int.toNat_natCast, h]
theorem Yd.ys {y : Addr} {rows : List (List (Option Int))} (h : Yd K H y rows) : ∃ dx t rk, H y = some (.ins (He.ga K "Yard") dx [("_rows", .ref t), ("_reckoning", rk)]) ∧ Ys K H t rows := by
  obtain ⟨dx, t, as, ⟨rk, h1⟩, h2, h3, h4, h5, h6, h7⟩ := h
  exact ⟨dx, t, rk, h1, as, h2, h3, h6⟩
theorem Yd.six {y : Addr} {rows : List (List (Option Int))} (h : Yd K H y rows) {k : Nat} (hk : k < rows.length) : rows[k].length = 6 := by
  obtain ⟨_, _, _, _, _, _, _, _, _, h7⟩ := h
  exact (h7 rows[k] (List.getElem_mem hk)).1
end
end U
namespace U
open PySem PySem.Spec PyProof.Rows L2

/-! ### a yard's lists, and other yards made of one -/
section
variable {K : PySem.W.Frag} (F : KF K) {vs : List V} {H : Hp} {Q : VK} {E : XK}
local macro_rules | `(tactic| walk_at "w") => `(tactic| try simp only [turnE, lcT, Snoc, tRet, tRetN, tAndV, tOrV, tNotV, tCB, tCons, tVar, tNil, tC, tOp, tSeq, tAsg, gName, gSub, tIfS, tDrop, tFn, tTup, tLst, tNext, tB, tTest, tNot, tAnd, tOr, tIf, tChain, tUn, rU, tFld, tPart, tNoPart, L2.tSl, tBM, tPar, tPar3, tTruth, tDNewK,
  L2.start, List.map_cons, List.map_nil, List.length_cons, List.length_nil, List.replicate_succ, List.replicate_zero, List.append_nil, List.nil_append, List.cons_append, List.singleton_append, Nat.sub_self, Nat.zero_add, Nat.reduceAdd, Nat.reduceSub,
  List.getElem?_cons_zero, List.getElem?_cons_succ, List.set_cons_zero, List.set_cons_succ, Option.some.injEq, exists_eq_left, exists_eq_left', V.int.injEq, V.bl.injEq, V.str.injEq, V.ref.injEq,
  uAdd_int, uAdd_str, uSub_int, uMul_int, uMul_str, uDiv_int, uMod_int, uPow_int, uLt_int, uLe_int, uGt_int, uGe_int, uIs_non, uNis_non, uIs_bl, uNis_bl, sp1, sp2, sp3, sp4, uEq_int, uEq_str, uNe_int, uNe_str, uSl_str, uLen_str, decide_eq_true_eq])
local macro_rules | `(tactic| walk_at "1") => `(tactic| try simp only [turnE, lcT, Snoc, tRet, tRetN, tAndV, tOrV, tNotV, tCB, tCons, tVar, tNil, tC, tOp, tAsg, gName, gSub, tIfS, tDrop, tFn, tTup, tLst, tNext, tB, tTest, tNot, tAnd, tOr, tIf, tChain, tUn, rU, tFld, tPart, tNoPart, L2.tSl, tBM, tPar, tPar3, tTruth, tDNewK,
  L2.start, List.map_cons, List.map_nil, List.length_cons, List.length_nil, List.replicate_succ, List.replicate_zero, List.append_nil, List.nil_append, List.cons_append, List.singleton_append, Nat.sub_self, Nat.zero_add, Nat.reduceAdd, Nat.reduceSub,
  List.getElem?_cons_zero, List.getElem?_cons_succ, List.set_cons_zero, List.set_cons_succ, Option.some.injEq, exists_eq_left, exists_eq_left', V.int.injEq, V.bl.injEq, V.str.injEq, V.ref.injEq,
  uAdd_int, uAdd_str, uSub_int, uMul_int, uMul_str, uDiv_int, uMod_int, uPow_int, uLt_int, uLe_int, uGt_int, uGe_int, uIs_non, uNis_non, uIs_bl, uNis_bl, sp1, sp2, sp3, sp4, uEq_int, uEq_str, uNe_int, uNe_str, uSl_str, uLen_str, decide_eq_true_eq])
local macro_rules | `(tactic| walk_at "s") => `(tactic| ((try dsimp only [turnE]); with_reducible refine seq_ ?_))

theorem tLc_inT {t : TE} {g : TG} {tt : TT} {te : TE} {ws : List Nat} {σ : L2.St} {H : Hp} (h : t σ H fun x H1 => ∃ a, x = .ref a ∧ (∃ xs, SqT K H1 a xs) ∧ ∀ D, H1 D = none → LcB (Itt K a) g tt te ws σ H1 D (Q (.ref D))) : tLc (iSeq K t) g tt te ws σ H Q := .inr h
end
end U
namespace U
open PySem PySem.Spec PyProof.Rows L2

/-! ### rows of prices as data, in lists and in tuples -/
/-- a list of lists of prices -/
def GrL (K : PySem.W.Frag) (H : Hp) (p : Addr) (rows : List (List (Option Int))) : Prop := ∃ as : List Addr, SqL K H p (as.map V.ref) ∧ as.length = rows.length ∧
  ∀ (i : Nat) (a : Addr) (r : List (Option Int)), as[i]? = some a → rows[i]? = some r → SqL K H a (r.map pV)
section
variable {K : PySem.W.Frag} {H H' : Hp} {Q : VK}
theorem GrL.same {p : Addr} {rows : List (List (Option Int))} (e : Same H H') (h : GrL K H p rows) : GrL K H' p rows := by
  obtain ⟨as, h1, h2, h3⟩ := h
  exact ⟨as, Same.seq e h1, h2, fun i a r z1 z2 => Same.seq e (h3 i a r z1 z2)⟩
end
end U
namespace U
open PySem PySem.Spec PyProof.Rows L2

/-! ### other yards made of one -/
/-- a way, by its places -/
def waysN : List (Nat × Nat) := [(0, 1), (0, 2), (1, 0), (1, 2), (2, 0), (2, 1)]
def okW (w : Nat × Nat) : Prop := w.1 < 3 ∧ w.2 < 3 ∧ w.1 ≠ w.2
section
variable {K : PySem.W.Frag} (F : KF K) {vs : List V} {H : Hp} {Q : VK} {E : XK}
local macro_rules | `(tactic| walk_at "w") => `(tactic| try simp only [turnE, lcT, Snoc, tRet, tRetN, tAndV, tOrV, tNotV, tCB, tCons, tVar, tNil, tC, tOp, tSeq, tAsg, gName, gSub, tIfS, tDrop, tFn, tTup, tLst, tNext, tB, tTest, tNot, tAnd, tOr, tIf, tChain, tUn, rU, tFld, tPart, tNoPart, L2.tSl, tBM, tPar, tPar3, tTruth, tDNewK,
  L2.start, List.map_cons, List.map_nil, List.length_cons, List.length_nil, List.replicate_succ, List.replicate_zero, List.append_nil, List.nil_append, List.cons_append, List.singleton_append, Nat.sub_self, Nat.zero_add, Nat.reduceAdd, Nat.reduceSub,
  List.getElem?_cons_zero, List.getElem?_cons_succ, List.set_cons_zero, List.set_cons_succ, Option.some.injEq, exists_eq_left, exists_eq_left', V.int.injEq, V.bl.injEq, V.str.injEq, V.ref.injEq,
  uAdd_int, uAdd_str, uSub_int, uMul_int, uMul_str, uDiv_int, uMod_int, uPow_int, uLt_int, uLe_int, uGt_int, uGe_int, uIs_non, uNis_non, uIs_bl, uNis_bl, sp1, sp2, sp3, sp4, uEq_int, uEq_str, uNe_int, uNe_str, uSl_str, uLen_str, decide_eq_true_eq])
local macro_rules | `(tactic| walk_at "1") => `(tactic| try simp only [turnE, lcT, Snoc, tRet, tRetN, tAndV, tOrV, tNotV, tCB, tCons, tVar, tNil, tC, tOp, tAsg, gName, gSub, tIfS, tDrop, tFn, tTup, tLst, tNext, tB, tTest, tNot, tAnd, tOr, tIf, tChain, tUn, rU, tFld, tPart, tNoPart, L2.tSl, tBM, tPar, tPar3, tTruth, tDNewK,
  L2.start, List.map_cons, List.map_nil, List.length_cons, List.length_nil, List.replicate_succ, List.replicate_zero, List.append_nil, List.nil_append, List.cons_append, List.singleton_append, Nat.sub_self, Nat.zero_add, Nat.reduceAdd, Nat.reduceSub,
  List.getElem?_cons_zero, List.getElem?_cons_succ, List.set_cons_zero, List.set_cons_succ, Option.some.injEq, exists_eq_left, exists_eq_left', V.int.injEq, V.bl.injEq, V.str.injEq, V.ref.injEq,
  uAdd_int, uAdd_str, uSub_int, uMul_int, uMul_str, uDiv_int, uMod_int, uPow_int, uLt_int, uLe_int, uGt_int, uGe_int, uIs_non, uNis_non, uIs_bl, uNis_bl, sp1, sp2, sp3, sp4, uEq_int, uEq_str, uNe_int, uNe_str, uSl_str, uLen_str, decide_eq_true_eq])
local macro_rules | `(tactic| walk_at "s") => `(tactic| ((try dsimp only [turnE]); with_reducible refine seq_ ?_))

theorem Yd.ok {p : Addr} {rows : List (List (Option Int))} (h : Yd K H p rows) : RowsOk rows := by
  obtain ⟨_, _, _, _, _, _, l1, l2, _, l3⟩ := h
  exact ⟨l2, l1, l3⟩
theorem ways6V : ([.str "ab", .str "ac", .str "ba", .str "bc", .str "ca", .str "cb"] : List V) = waysN.map fun w => V.str (wd [w.1, w.2]) := by decide
theorem waysN_ok : ∀ w ∈ waysN, okW w := by
  unfold okW
  decide
theorem str_at2 {K : PySem.W.Frag} {H : Hp} {Q : VK} {ds : List Nat} {k : Nat} (h : ds.length ≤ 60) (hk : k < ds.length) (q : Q (.str (pl (ds[k]?.getD 0))) H) : uIx K (.str (wd ds)) (.int (k : Nat)) H Q := by
  have e : ds[k]? = some ds[k] := List.getElem?_eq_getElem hk
  rw [e] at q
  have hlen : (wd ds).cps.toList.length = ds.length := by simp [wd]
  refine uIx_str (c := 97 + ds[k]) (Nat.le_trans (by rw [wd_length]; exact h) (by decide)) ?_ q
  unfold atI ixN
  rw [if_pos (by omega), hlen, if_pos (by omega)]
  show (wd ds).cps.toList[((k : Nat) : Int).toNat]? = _
  rw [Int.toNat_natCast]
  simp [wd, e]
end
end U
namespace U
open PySem PySem.Spec PyProof.Rows L2 TL

/-! ### texts cut at a sign -/
def linesL (l : List Nat) : List (List Nat) := spl [10] 0 [] l
def wordsL (l : List Nat) : List (List Nat) := spl [32] 0 [] l
theorem spl_mem {s : Nat} : ∀ (l acc : List Nat), s ∉ acc → ∀ w ∈ spl [s] 0 acc l, s ∉ w ∧ ∃ p q, acc ++ l = p ++ (w ++ q)
  | [], acc, h, w, m => by
    rw [spl_nil] at m
    rw [List.mem_singleton.mp m]
    exact ⟨h, [], [], by simp⟩
  | c :: r, acc, h, w, m => by
    by_cases e : c = s
    · subst e
      rw [spl_hit (by simp [pre])] at m
      rcases List.mem_cons.mp m with rfl | m
      · exact ⟨h, [], c :: r, by simp⟩
      · obtain ⟨h1, p, q, e⟩ := spl_mem r [] (by simp) w m
        refine ⟨h1, acc ++ [c] ++ p, q, ?_⟩
        have : r = p ++ (w ++ q) := by simpa using e
        rw [this]
        simp
    · rw [spl_miss (pre_of_head _ _ e)] at m
      obtain ⟨h1, p, q, e2⟩ := spl_mem r (acc ++ [c]) (by simp [h]; exact fun z => e z.symm) w m
      exact ⟨h1, p, q, by simpa using e2⟩
/-! ### the longest word of a text -/
def sepc (c : Nat) : Bool := c == 10 || c == 32
def mx : Nat → List Nat → Nat
  | k, [] => k
  | k, c :: r => if sepc c = true then max k (mx 0 r) else mx (k + 1) r
theorem mx_mono : ∀ (l : List Nat) {j k : Nat}, j ≤ k → mx j l ≤ mx k l
  | [], j, k, h => h
  | c :: r, j, k, h => by
    unfold mx
    split
    · omega
    · exact mx_mono r (by omega)
theorem mx_ge : ∀ (l : List Nat) (k : Nat), k ≤ mx k l
  | [], k => Nat.le_refl _
  | c :: r, k => by
    unfold mx
    split
    · omega
    · exact Nat.le_trans (Nat.le_succ k) (mx_ge r (k + 1))
theorem mx_pre : ∀ (a b : List Nat) (k : Nat), mx k a ≤ mx k (a ++ b)
  | [], b, k => mx_ge b k
  | c :: r, b, k => by
    show _ ≤ mx k (c :: (r ++ b))
    unfold mx
    split
    · have := mx_pre r b 0
      omega
    · exact mx_pre r b (k + 1)
theorem mx_suf : ∀ (a b : List Nat) (k : Nat), mx 0 b ≤ mx k (a ++ b)
  | [], b, k => mx_mono b (Nat.zero_le _)
  | c :: r, b, k => by
    show _ ≤ mx k (c :: (r ++ b))
    rw [mx]
    split
    · have := mx_suf r b 0
      omega
    · exact mx_suf r b (k + 1)
theorem mx_free : ∀ (w : List Nat) (k : Nat), (∀ c ∈ w, sepc c = false) → mx k w = k + w.length
  | [], k, _ => rfl
  | c :: r, k, h => by
    rw [mx, if_neg (by rw [h c List.mem_cons_self]; decide), mx_free r (k + 1) fun d m => h d (List.mem_cons_of_mem _ m), List.length_cons]
    omega
theorem word_mx {t l w : List Nat} (hl : l ∈ linesL t) (hw : w ∈ wordsL l) : w.length ≤ mx 0 t := by
  obtain ⟨h1, p, q, e⟩ := spl_mem t [] (by simp) l hl
  obtain ⟨h2, p2, q2, e2⟩ := spl_mem l [] (by simp) w hw
  rw [List.nil_append] at e e2
  have h10 : 10 ∉ w := fun m => h1 (by rw [e2]; simp [m])
  have free : ∀ c ∈ w, sepc c = false := fun c m => by
    unfold sepc
    rw [Bool.or_eq_false_iff]
    refine ⟨?_, ?_⟩
    · exact beq_false_of_ne fun z => h10 (z ▸ m)
    · exact beq_false_of_ne fun z => h2 (z ▸ m)
  have e3 : mx 0 w = w.length := by rw [mx_free w 0 free, Nat.zero_add]
  rw [← e3, e, e2]
  refine Nat.le_trans ?_ (mx_suf p _ 0)
  refine Nat.le_trans ?_ (mx_pre _ q 0)
  refine Nat.le_trans ?_ (mx_suf p2 _ 0)
  exact mx_pre w q2 0
theorem line_part {t l : List Nat} (hl : l ∈ linesL t) : ∃ p q, t = p ++ (l ++ q) := by
  obtain ⟨_, p, q, e⟩ := spl_mem t [] (by simp) l hl
  exact ⟨p, q, e⟩
/-! ### what is the text of a yard -/
/-! ### texts and their signs -/
/-! ### the text of a yard, read again -/
/-! ### texts shown in quotes -/
end U
namespace U
open PySem PySem.Spec PyProof.Rows L2 TL

/-! ### a classmethod called in a try's body -/
section
variable {X : Cx} {CX : CXT} {k : Nat} {C f q g : Addr} {sp : Sp} {Q : VK} {us : List Value} {vs : List V} {pins : List (Addr × Obj)} {σ : L2.St} {H : Hp} {s : Shared}
end
/-! ### int(text), text.split(sign) -/
/-! ### the text of a yard, read again -/
/-- a text that may be read: not too long, its words neither, its signs signs -/
structure Tb (t : List Nat) : Prop where
  len : t.length ≤ 100000
  mx : mx 0 t ≤ 600
  ok : ∀ c ∈ t, c < 0x110000
theorem Tb.word {t l w : List Nat} (h : Tb t) (hl : l ∈ linesL t) (hw : w ∈ wordsL l) : w.length ≤ 640 := Nat.le_trans (word_mx hl hw) (Nat.le_trans h.mx (by decide))
theorem Tb.line {t l : List Nat} (h : Tb t) (hl : l ∈ linesL t) : l.length ≤ 100000 := by
  obtain ⟨p, q, e⟩ := line_part hl
  have := h.len
  have := congrArg List.length e
  simp only [List.length_append] at this
  omega
end U
namespace U
open PySem PySem.Spec PyProof.Rows L2

/-! ### max(ints, default=d) -/
def rMaxDf (K : PySem.W.Frag) : List V → List V → Hp → VK → Prop := fun xs zs H Q => ∃ (a : Addr) (ns : List Int) (d : V), xs = [.ref a] ∧ zs = [d] ∧ SqL K H a (ns.map V.int) ∧ (ns = [] → Q d H) ∧ ∀ m, m ∈ ns → (∀ y ∈ ns, y ≤ m) → Q (.int m) H
theorem reads_ints {h : Heap} : ∀ {ns : List Int} {us : List Value}, Vals (ns.map V.int) us → ReadsAll h us (ns.map PyData.int) [] := by
  intro ns
  induction ns with
  | nil =>
    intro us r
    cases r
    exact .nil
  | cons n t ih =>
    intro us r
    cases r with
    | cons r1 r2 =>
      obtain ⟨u, rfl⟩ := r1
      exact ReadsAll.cons (.int n u) (ih r2)
theorem fold_max : ∀ (t : List Int) (x : Int), t.foldl max x ∈ x :: t ∧ ∀ y ∈ x :: t, y ≤ t.foldl max x := by
  intro t
  induction t with
  | nil =>
    intro x
    refine ⟨List.mem_cons_self, fun y m => ?_⟩
    rw [List.mem_singleton.mp m]
    exact Int.le_refl _
  | cons k r ih =>
    intro x
    obtain ⟨h1, h2⟩ := ih (max x k)
    rw [List.foldl_cons]
    have hb := h2 (max x k) List.mem_cons_self
    refine ⟨?_, fun y m => ?_⟩
    · rcases List.mem_cons.mp h1 with e | m
      · rw [e]
        rcases Int.le_total x k with z | z
        · rw [Int.max_eq_right z]; simp
        · rw [Int.max_eq_left z]; simp
      · exact List.mem_cons_of_mem _ (List.mem_cons_of_mem _ m)
    · rcases List.mem_cons.mp m with rfl | m
      · exact Int.le_trans (Int.le_max_left _ _) hb
      · rcases List.mem_cons.mp m with rfl | m
        · exact Int.le_trans (Int.le_max_right _ _) hb
        · exact h2 y (List.mem_cons_of_mem _ m)
theorem call_maxDf {X : Cx} (hc : X.calm = true) (hu : X.A.units + 64 < cLine) : CallRK X (.builtin "max") ["default"] (rMaxDf X.K) := by
  intro pins s σ H xs zs us ws Q I rx rz h
  obtain ⟨a, ns, d, rfl, rfl, hs, q0, q1⟩ := h
  (obtain ⟨its, rv, hl, _⟩ := I.list hs)
  rw [Vals.ref1 rx]
  obtain ⟨w, rfl, rw⟩ := vals1 rz
  have dep : ∀ l : List Int, PyData.depthAll (l.map PyData.int) = 0 := fun l => by
    induction l with
    | nil => simp [PyData.depthAll]
    | cons x t ih => simp [PyData.depthAll, PyData.depth, ih]
  show wpAny (model X.prog X.w) X.A (call (.builtin "max") [.ref a] [(Str.ofString "default", w)]) _ _ s
  refine PySem.W.max_list_default (xs := ns.map PyData.int) (I.ok.hd hc) hl.isList (reads_ints rv) ⟨fun x mx y my => ?_, fun x mx => ?_⟩ (by rw [dep]; omega) (fun e h' tk k => ?_) (fun y ys i v h' tk bs e _ rd k => ?_)
  · obtain ⟨i, _, rfl⟩ := List.mem_map.mp mx
    obtain ⟨j, _, rfl⟩ := List.mem_map.mp my
    rfl
  · obtain ⟨i, _, rfl⟩ := List.mem_map.mp mx
    exact fun z => nomatch z
  · exact ⟨d, H, I.kept (t' := tk) k, rw, q0 (List.map_eq_nil_iff.mp e)⟩
  · cases ns with
    | nil => cases e
    | cons n t =>
      rw [List.map_cons] at e
      injection e with e1 e2
      subst e1 e2
      rw [PySem.W.maxD_ints] at rd
      obtain ⟨m1, m2⟩ := fold_max t n
      cases rd with
      | int _ u => exact ⟨.int _, H, I.kept (t' := tk) k, ⟨u, rfl⟩, q1 _ m1 m2⟩
/-! ### tuple[::-1] -/
section
variable {prog : Program} {w : World} {A : Around} {E : Value → Shared → Prop} {s : Shared}
theorem fm_congr {f g : Nat → Option Value} : ∀ {l : List Nat}, (∀ m ∈ l, f m = g m) → l.filterMap f = l.filterMap g
  | [], _ => rfl
  | a :: r, h => by
    have i := fm_congr (l := r) fun m hm => h m (List.mem_cons_of_mem _ hm)
    rw [List.filterMap_cons, List.filterMap_cons, h a List.mem_cons_self, i]
theorem all_pick (ys : List Value) : (List.range ys.length).filterMap (fun m => ys[m]?) = ys := by
  induction ys with
  | nil => rfl
  | cons y r ih =>
    rw [List.length_cons, List.range_succ_eq_map, List.filterMap_cons, List.filterMap_map]
    exact congrArg (y :: ·) ih
theorem back_pick (its : Array Value) : ((List.range its.size).filterMap fun (m : Nat) => its[(((its.size : Int) - 1) + (m : Int) * (-1)).toNat]?).toArray = its.toList.reverse.toArray := by
  congr 1
  have e : ∀ m ∈ List.range its.size, its[(((its.size : Int) - 1) + (m : Int) * (-1)).toNat]? = its.toList.reverse[m]? := fun m hm => by
    have lt := List.mem_range.mp hm
    rw [List.getElem?_reverse (by rw [Array.length_toList]; exact lt), Array.length_toList, Array.getElem?_toList]
    congr 1
    omega
  rw [fm_congr e]
  have l : its.size = its.toList.reverse.length := by rw [List.length_reverse, Array.length_toList]
  rw [l]
  exact all_pick _
theorem tup_back {t sl : Addr} {its : Array Value} {vl vu vs : Value} {Q : Value → Shared → Prop} (ht : IsTup s.heap t its) (hs : s.heap.IsSliceOf sl vl vu vs) (pl : IsPart vl none) (pu : IsPart vu none) (ps : IsPart vs (some (-1))) (hz : its.size ≤ sizeLine)
    (h : Q (.ref s.heap.objs.size) { s with heap := s.heap.push { cls := .type "tuple", data := .seq its.toList.reverse.toArray } }) : wpAny (model prog w) A (getItem (.ref t) (.ref sl)) Q E s := by
  obtain ⟨os, at_, cl, dt⟩ := id hs
  have tyS : s.TypeIs (.ref sl) "slice" := ⟨os, at_, cl⟩
  have okz : sizeOk (.seq its.toList.reverse.toArray) := by
    show its.toList.reverse.toArray.size ≤ sizeLine
    rw [List.size_toArray, List.length_reverse, Array.length_toList]
    exact hz
  unfold getItem
  (try with_reducible refine wpAny_holding ?_)
  (first | refine wpAny_bind (wpAny_pure ?_) | skip)
  (refine wpAny_bind (wpAny_sequenceKey ht.typeIs (by decide) ?_))
  refine wpAny_bind (wpAny_callSpecial?_slot (name := Str.ofString "__getitem__") ht.typeIs PyProof.Rows.slot_tuple_getitem (wpAny_call_entry PyProof.Rows.slot_tuple_getitem ht.typeIs entry_tuple_getitem ?_ (args_tuple_getitem _ _)))
  (show wpAny _ _ (Builtin.Tuple.tupleItemsOf (.ref t) >>= _) _ _ s)
  refine wpAny_bind (tupleItemsOf_ ht (wpAny_bind (wpAny_typeOf tyS ?_)))
  rw [if_pos (by decide)]
  refine wpAny_bind ?_
  (unfold Builtin.Slice.sliceApplied Builtin.Slice.sliceFields)
  refine wpAny_bind (wpAny_bind (wpAny_field at_ dt (x := vl) rfl (wpAny_bind (wpAny_field at_ dt (x := vu) rfl (wpAny_bind (wpAny_field at_ dt (x := vs) rfl (wpAny_pure ?_)))))))
  refine wpAny_bind (HT.slicePart_ ps ?_)
  show wpAny _ _ (if ((-1 : Int) == 0) = true then _ else _) _ _ s
  rw [if_neg (show ¬ ((-1 : Int) == 0) = true by decide)]
  refine wpAny_bind (HT.slicePart_ pl (wpAny_bind (HT.slicePart_ pu (wpAny_bind (wpAny_pure ?_)))))
  have e1 : Builtin.Slice.sliceAdjust none none (-1) (its.size : Int) = ((its.size : Int) - 1, -1) := by
    (unfold Builtin.Slice.sliceAdjust)
    rfl
  have e2 : Builtin.Slice.slicePlaces ((its.size : Int) - 1) (-1) (-1) = its.size := by
    (unfold Builtin.Slice.slicePlaces)
    rw [if_neg (by decide)]
    split
    · have : ((its.size : Int) - 1 - -1 - 1) / (- -1) = (its.size : Int) - 1 := by
        have : (- -1 : Int) = 1 := by decide
        rw [this, Int.ediv_one]
        omega
      rw [this]
      omega
    · omega
  show wpAny _ _ (match Builtin.Slice.sliceAdjust none none (-1) (its.size : Int) with | (lo, hi) => pure (lo, (-1 : Int), Builtin.Slice.slicePlaces lo hi (-1))) _ _ s
  rw [e1]
  show wpAny _ _ (pure ((its.size : Int) - 1, (-1 : Int), Builtin.Slice.slicePlaces ((its.size : Int) - 1) (-1) (-1))) _ _ s
  rw [e2]
  refine wpAny_pure ?_
  show wpAny _ _ (if (((its.size : Int) - 1 == 0 && (-1 : Int) == 1 && its.size == its.size)) = true then _ else _) _ _ s
  rw [if_neg (by rw [show ((-1 : Int) == 1) = false from by decide, Bool.and_false, Bool.false_and]; decide), back_pick]
  first
    | exact wpAny_bind (m := Builtin.Tuple.tupleExact _) (wpAny_newObj_type (wpAny_pure ⟨_, rfl, wpAny_pure h⟩) okz)
    | exact wpAny_bind (m := Builtin.Tuple.tupleExact _) (wpAny_newObj_type (wpAny_bind (wpAny_pure (wpAny_pure ⟨_, rfl, wpAny_pure h⟩))) okz)
    | exact wpAny_bind (wpAny_bind (m := Builtin.Tuple.tupleExact _) (wpAny_newObj_type (wpAny_pure (wpAny_pure ⟨_, rfl, wpAny_pure h⟩)) okz))
    | exact wpAny_bind (wpAny_bind (m := Builtin.Tuple.tupleExact _) (wpAny_newObj_type (wpAny_pure ⟨_, rfl, wpAny_pure h⟩) okz))
end
def tRevT (K : PySem.W.Frag) (te : TE) : TE := fun σ H Q => te σ H fun x H1 => ∃ a xs, x = .ref a ∧ SqT K H1 a xs ∧ ∀ p, H1 p = none → Q (.ref p) (upd H1 p (.tup xs.reverse))
theorem pe_revT {X : Cx} {e : Expr} {te : TE} {k : Nat} {p1 p2 p3 pos : Pos} (he : PE X e te) : PE X (.Subscript e (.Slice none none (some (.UnaryOp .USub (.Constant (.int 1) k p1) p2)) p3) pos) (tRevT X.K te) := by
  refine .mk ?_
  intro pins s σ H Q I h
  refine Subscript_ (thn (he.run pins s σ H _ I h) fun v s1 out => ?_)
  obtain ⟨x, H1, I1, r1, a, xs, rfl, hx, q⟩ := out
  cases r1
  have neg1 : PO X (some (.UnaryOp .USub (.Constant (.int 1) k p1) p2)) (tPart (tUn (rU fun i => .int (-i)) (tC (.int 1)))) := po_some (pe_un un_neg pe_int)
  refine wpAny_Slice (thn (po_none.run pins s1 σ H1 (fun o H2 => o = none ∧ H2 = H1) I1 ⟨rfl, rfl⟩) fun vl s2 out => ?_)
  obtain ⟨l, H2, I2, pl, rfl, rfl⟩ := out
  refine thn (po_none.run pins s2 σ H2 (fun o H3 => o = none ∧ H3 = H2) I2 ⟨rfl, rfl⟩) fun vu s3 out => ?_
  obtain ⟨u, H3, I3, pu, rfl, rfl⟩ := out
  refine thn (neg1.run pins s3 σ H3 (fun o H4 => o = some (-1) ∧ H4 = H3) I3 ⟨1, rfl, -1, rfl, rfl, rfl⟩) fun vs s4 out => ?_
  obtain ⟨o, H4, I4, ps, rfl, rfl⟩ := out
  have I5 : Inv X pins σ H4 { s4 with heap := s4.heap.push { cls := .type "slice", data := .fields #[vl, vu, vs] } } := I4.kept (t' := s4.toks) fun b ob z => Heap.get?_push_of_some _ z
  obtain ⟨its, r, ht, hz⟩ := I5.tuple hx
  (have hlen : its.toArray.size = xs.length := by rw [List.size_toArray]; exact r.length.symm)
  (show wpAny (model X.prog X.w) X.A (subscriptTail e (.Slice none none (some (.UnaryOp .USub (.Constant (.int 1) k p1) p2)) p3) (.ref a) (.ref s4.heap.objs.size)) (EP X pins σ Q) X.xe { s4 with heap := s4.heap.push { cls := .type "slice", data := .fields #[vl, vu, vs] } })
  refine tail_any (ops := [.ref a, .ref s4.heap.objs.size]) ht.typeIs PyProof.Rows.slot_tuple_getitem.lookup ?_ (by with_unfolding_all rfl)
  refine tup_back ht (Heap.IsSliceOf.new _ vl vu vs) pl pu ps (by rw [hlen]; exact hz) ?_
  refine ⟨.ref _, _, I5.laid (t' := s4.toks) (o := .tup xs.reverse) (fun b ob z => Heap.get?_push_of_some _ z) (Nat.le_refl _) ?_, rfl, q _ (I5.hok.fresh (Nat.le_refl _))⟩
  exact ⟨by rw [List.length_reverse]; exact hz, _, r.reverse, IsTup.new _ _⟩
end U
namespace U
open PySem PySem.Spec PyProof.Rows L2 TL

section
variable {K : PySem.W.Frag} (F : KF K) {vs : List V} {H : Hp} {Q : VK} {E : XK}
local macro_rules | `(tactic| walk_at "w") => `(tactic| try simp only [turnE, lcT, Snoc, tRet, tRetN, tAndV, tOrV, tNotV, tCB, tCons, tVar, tNil, tC, tOp, tSeq, tAsg, gName, gSub, tIfS, tDrop, tFn, tTup, tLst, tNext, tB, tTest, tNot, tAnd, tOr, tIf, tChain, tUn, rU, tFld, tPart, tNoPart, L2.tSl, tBM, tPar, tPar3, tTruth, tDNewK,
  L2.start, List.map_cons, List.map_nil, List.length_cons, List.length_nil, List.replicate_succ, List.replicate_zero, List.append_nil, List.nil_append, List.cons_append, List.singleton_append, Nat.sub_self, Nat.zero_add, Nat.reduceAdd, Nat.reduceSub,
  List.getElem?_cons_zero, List.getElem?_cons_succ, List.set_cons_zero, List.set_cons_succ, Option.some.injEq, exists_eq_left, exists_eq_left', V.int.injEq, V.bl.injEq, V.str.injEq, V.ref.injEq,
  uAdd_int, uAdd_str, uSub_int, uMul_int, uMul_str, uDiv_int, uMod_int, uPow_int, uLt_int, uLe_int, uGt_int, uGe_int, uIs_non, uNis_non, uIs_bl, uNis_bl, sp1, sp2, sp3, sp4, uEq_int, uEq_str, uNe_int, uNe_str, uSl_str, uLen_str, decide_eq_true_eq])
local macro_rules | `(tactic| walk_at "1") => `(tactic| try simp only [turnE, lcT, Snoc, tRet, tRetN, tAndV, tOrV, tNotV, tCB, tCons, tVar, tNil, tC, tOp, tAsg, gName, gSub, tIfS, tDrop, tFn, tTup, tLst, tNext, tB, tTest, tNot, tAnd, tOr, tIf, tChain, tUn, rU, tFld, tPart, tNoPart, L2.tSl, tBM, tPar, tPar3, tTruth, tDNewK,
  L2.start, List.map_cons, List.map_nil, List.length_cons, List.length_nil, List.replicate_succ, List.replicate_zero, List.append_nil, List.nil_append, List.cons_append, List.singleton_append, Nat.sub_self, Nat.zero_add, Nat.reduceAdd, Nat.reduceSub,
  List.getElem?_cons_zero, List.getElem?_cons_succ, List.set_cons_zero, List.set_cons_succ, Option.some.injEq, exists_eq_left, exists_eq_left', V.int.injEq, V.bl.injEq, V.str.injEq, V.ref.injEq,
  uAdd_int, uAdd_str, uSub_int, uMul_int, uMul_str, uDiv_int, uMod_int, uPow_int, uLt_int, uLe_int, uGt_int, uGe_int, uIs_non, uNis_non, uIs_bl, uNis_bl, sp1, sp2, sp3, sp4, uEq_int, uEq_str, uNe_int, uNe_str, uSl_str, uLen_str, decide_eq_true_eq])
local macro_rules | `(tactic| walk_at "s") => `(tactic| ((try dsimp only [turnE]); with_reducible refine seq_ ?_))

theorem tLc_inN {t : TE} {g : TG} {tt : TT} {te : TE} {vs : List Nat} {σ : L2.St} {H : Hp} {Q : VK} (h : t σ H fun x H1 => ∃ a, x = .ref a ∧ (∃ xs, SqL K H1 a xs) ∧ ∀ D, H1 D = none → LcB (Itl K a) g tt te vs σ H1 D (Q (.ref D))) : tLc (iSeq K t) g tt te vs σ H Q := .inl h
end
end U
namespace U
open PySem PySem.Spec PyProof.Rows L2

/-! ### zip of two of lists and tuples, in any mix but (tuple, list) -/
def iZipV (K : PySem.W.Frag) (ta : TA) : TI := fun σ H R => iZipU K ta σ H R ∨ RZ.iZipA K ta σ H R
theorem pi_zipV {X : Cx} {f1 f2 : Expr} {ta : TA} {p pos tpos : Pos} {elts : List Expr} {kk : Nat} (hg : Gl X "zip") (hm : X.mg "zip" = none) (ha : PA X [f1, f2] ta)
    (hs : starEach [f1, f2] X.env = (false, eval f1 X.env) :: starEach [f2] X.env := by rfl) (hpl : (backTo pos (starEach [f2] X.env)).any (·.1) = false := by rfl) :
    PI X (.Tuple elts kk tpos) (.Call (.Name "zip" p) [f1, f2] [] pos) (iZipV X.K ta) := by
  refine .mk ?_
  intro pins s σ H R I h
  rcases h with h | h
  · exact (pi_zipU hg hm ha hs hpl).run pins s σ H R I h
  · exact (RZ.pi_zipA hg hm ha hs hpl).run pins s σ H R I h
theorem zipped_TT {K : PySem.W.Frag} {a b : Addr} {xs ys : List V} : Zipped (RZ.ItzT K a b) xs ys fun H => SqT K H a xs ∧ SqT K H b ys where
  go := fun i H g l1 l2 => ⟨xs, ys, xs[i], ys[i], g.1, g.2, List.getElem?_eq_getElem l1, List.getElem?_eq_getElem l2⟩
  yld := fun i H v H' g ⟨T, x, y, h1, h2, h3, h4, h5⟩ => ⟨T, x, y, h1, h2, h3, h4 xs g.1, h5 ys g.2⟩
  stop := fun i H g l1 l2 e => ⟨xs, ys, g.1, g.2, by omega⟩
/-! ### xs[::-1], a list or a tuple -/
def tRevU (K : PySem.W.Frag) (te : TE) : TE := fun σ H Q => tRevL K te σ H Q ∨ tRevT K te σ H Q
theorem pe_revU {X : Cx} {e : Expr} {te : TE} {k : Nat} {p1 p2 p3 pos : Pos} (he : PE X e te) : PE X (.Subscript e (.Slice none none (some (.UnaryOp .USub (.Constant (.int 1) k p1) p2)) p3) pos) (tRevU X.K te) := by
  refine .mk ?_
  intro pins s σ H Q I h
  rcases h with h | h
  · exact (pe_revL he).run pins s σ H Q I h
  · exact (pe_revT he).run pins s σ H Q I h
/-! ### i << j -/
def uShl : R2 := fun x y H Q => match x, y with
  | .int i, .int j => CShl i j ∧ Q (.int (i * 2 ^ j.toNat)) H
  | _, _ => False
theorem op_uShl {X : Cx} : OpR X (binaryOp .LShift) uShl := by
  intro pins s σ H x y u v Q I rx ry h
  cases x <;> cases y <;> first
    | exact (show False from h).elim
    | exact op_shlW pins s σ H _ _ u v Q I rx ry ⟨_, _, rfl, rfl, h⟩
theorem cshl_of {i : Int} {j : Nat} (h : i.natAbs < 10 ^ 33) (hj : j ≤ 1000) : CShl i (j : Nat) := by
  refine ⟨by omega, ?_⟩
  have b : Builtin.Int.intBits i ≤ i.natAbs.log2 + 1 := by
    unfold Builtin.Int.intBits
    split <;> omega
  have l : i.natAbs.log2 < 128 := by
    by_cases z : i.natAbs = 0
    · rw [z]; decide
    · exact (Nat.log2_lt z).mpr (Nat.lt_of_lt_of_le h (by decide))
  have : (2 : Int) ^ 27 = 134217728 := by decide
  omega
end U
namespace U
open PySem PySem.Spec PyProof.Rows L2

/-! ### zip(text, list, list) -/
/-! ### a loop over such threes -/
end U
namespace U
open PySem PySem.Spec PyProof.Rows L2

/-! ### != of two lists whose items are all alike, within one model -/
section
open PySem.SeqAt AutoSeq1 MeetsSeq MeetsSeq2 MeetsSeq3 SeqRoads2
variable {prog : Program} {w : World} -- both
/-- how a list stands -/
abbrev lstO (dd : Option Addr) (its : Array Value) (n : Nat) (sl : Array (Option Value)) : Obj := { cls := .type "list", dict := dd, data := .seq its n, slots := sl }
theorem ne_turns (l b : Addr) (xs ys : Array Value) (n m : Nat) (dd de : Option Addr) (sl sm : Array (Option Value)) (same : xs.size = ys.size) (k : Nat) :
    ∀ i : Nat, xs.size - i = k → MeetsIn prog w (Builtin.«list.__eq__.loop» ⟨[.ref l, .ref b, rawInt i, rawInt 3], []⟩)
      (fun A R s => s.heap.get? l = some (lstO dd xs n sl) ∧ (s.heap.get? b = some (lstO de ys m sm) ∧ ((∀ (j : Nat) (x y : Value), xs[j]? = some x → ys[j]? = some y → EqIn prog w A.in1 s x y true) ∧ R (.ok (.ret (.bool false))) s))) := by
  induction k with
  | zero =>
    intro i stop A R s pre
    (obtain ⟨hp, g, d, tk, os⟩ := s)
    obtain ⟨at1, at2, each, out⟩ := pre
    wp_walk using wpAny_loadPart' at1, wpAny_loadPart' at2
    have end1 : xs[((i : Nat) : Int).toNat]? = none := by simp; omega
    have end2 : ys[((i : Nat) : Int).toNat]? = none := by simp; omega
    rw [end1, end2]
    wp_walk using wpAny_loadPart' at1, wpAny_loadPart' at2
    show R (.ok (.ret (.bool (xs.size != ys.size)))) _
    rw [same]
    simpa using out
  | succ k ih =>
    intro i more A R s pre
    (obtain ⟨hp, g, d, tk, os⟩ := s)
    obtain ⟨at1, at2, each, out⟩ := pre
    wp_walk using wpAny_loadPart' at1, wpAny_loadPart' at2
    have lt1 : i < xs.size := by omega
    have lt2 : i < ys.size := by omega
    have now1 : xs[((i : Nat) : Int).toNat]? = some xs[i] := by simp [lt1]
    have now2 : ys[((i : Nat) : Int).toNat]? = some ys[i] := by simp [lt2]
    have next : ((i : Int) + 1) = ((i + 1 : Nat) : Int) := by omega
    rw [now1, now2]
    refine wpAny_bind (each i _ _ (by simp [lt1]) (by simp [lt2]) _ _ ?_)
    wp_walk
    rw [next]
    refine ⟨plainId_quiet plain_eq_loop _, codeAny_builtin entry_eq_loop ?_⟩
    (rw [Around.under_plainId plain_eq_loop _])
    exact ih (i + 1) (by omega) A R _ ⟨at1, at2, each, out⟩
theorem ne_lists (l b : Addr) (xs ys : Array Value) (n m : Nat) (dd de : Option Addr) (sl sm : Array (Option Value)) (same : xs.size = ys.size) :
    MeetsIn prog w (Builtin.«list.__ne__» ⟨[.ref l, .ref b], []⟩)
      (fun A R s => s.heap.get? l = some (lstO dd xs n sl) ∧ (s.heap.get? b = some (lstO de ys m sm) ∧ ((∀ (j : Nat) (x y : Value), xs[j]? = some x → ys[j]? = some y → EqIn prog w A.in1 s x y true) ∧ R (.ok (.ret (.bool false))) s))) := by
  intro A R s pre
  (obtain ⟨hp, g, d, tk, os⟩ := s)
  obtain ⟨at1, at2, each, out⟩ := pre
  have isl := AutoSeq1.sub_list_list
  have hne : ¬ (xs.size != ys.size) = true := by simp [same]
  wp_walk using wpAny_loadPart' at1, wpAny_loadPart' at2
  refine ⟨plainId_quiet plain_eq_loop _, codeAny_builtin entry_eq_loop ?_⟩
  (rw [Around.under_plainId plain_eq_loop _])
  exact ne_turns l b xs ys n m dd de sl sm same _ 0 rfl A R _ ⟨at1, at2, each, out⟩
theorem ne_false {A : Around} {s : Shared} {E : Value → Shared → Prop} {l b : Addr} {xs ys : Array Value} {Q : Value → Shared → Prop} (hl : s.heap.IsList l xs) (hb : s.heap.IsList b ys) (same : xs.size = ys.size) (room : A.units < cLine)
    (each : ∀ (j : Nat) (x y : Value), xs[j]? = some x → ys[j]? = some y → EqIn prog w A.in1 s x y true) (q : Q (.bool false) s) : wpAny (model prog w) A (compareOp .NotEq (.ref l) (.ref b)) Q E s := by
  obtain ⟨⟨c1, dd, data, sl⟩, o1, k1, n, e1⟩ := id hl
  obtain ⟨⟨c2, de, data2, sm⟩, o2, k2, m, e2⟩ := id hb
  simp only at k1 e1 k2 e2
  subst k1 e1 k2 e2
  show wpAny (model prog w) A (richCompare .NotEq (.ref l) (.ref b)) Q E s
  exact wpAny_richCompare_same_room (T := "list") (op := .NotEq) ⟨_, o1, rfl⟩ ⟨_, o2, rfl⟩ F.slot_list_ne (call_meetsIn F.slot_list_ne ⟨_, o1, rfl⟩ F.entry_list_ne (F.args_list_ne_2 _ _) (ne_lists l b xs ys n m dd de sl sm same)
    ⟨o1, o2, each, show Value.bool false ≠ Value.notImplemented ∧ Q (.bool false) s from ⟨(fun z => nomatch z), q⟩⟩) room
end
/-- None or an int -/
def flatPI : V → Bool
  | .non => true
  | .int _ => true
  | _ => false
/-- two dicts that hold the same -/
theorem eq_dk {X : Cx} {pins : List (Addr × Obj)} {σ : L2.St} {H : Hp} {s : Shared} {A : Around} {a b : Addr} {kvs : List (Key × V)} (I : Inv X pins σ H s) (hu : A.units + 2 < cLine) (ha : H a = some (.dK kvs)) (hb : H b = some (.dK kvs)) (fl : ∀ p ∈ kvs, flatPI p.2 = true) (nd : (kvs.map (·.1)).Nodup) :
    SeqAt.EqIn X.prog X.w A s (.ref a) (.ref b) true := by
  by_cases e : a = b
  · subst e
    exact (SeqAt.EqAt.same _).inModel _ _
  obtain ⟨_, ma, va, ra, da⟩ := dk_of I.hok ha
  obtain ⟨_, mb, vb, rb, db⟩ := dk_of I.hok hb
  have tree := PySem.W.EqTree.dicts (prog := X.prog) (w := X.w) (s := s) (n := 0) (e := fun _ => true) e ma mb da db fun k v y hm hy => ?_
  · have fin : (va.length == vb.length && va.all fun p => (valueAt vb p.1).isSome && true) = true := by
      rw [Bool.and_eq_true, beq_iff_eq, List.all_eq_true]
      refine ⟨by rw [← KV.length ra, ← KV.length rb], fun p hp => ?_⟩
      rw [Bool.and_true]
      obtain ⟨i, lt, ei⟩ := List.mem_iff_getElem.mp hp
      obtain ⟨x, hx, _⟩ := KV.at' ra (i := i) (k := p.1) (v := p.2) (by rw [← ei]; exact List.getElem?_eq_getElem lt)
      have vx := L2.val_nodup nd _ (List.mem_of_getElem? hx)
      rw [← RelO.isSome_eq (rb.val p.1)]
      show (valV kvs p.1).isSome = true
      rw [vx]
      rfl
    rw [fin] at tree
    exact tree.at A (by omega)
  · obtain ⟨i, lt, ei⟩ := List.mem_iff_getElem.mp hm
    obtain ⟨x, hx, rx⟩ := KV.at' ra (i := i) (k := k) (v := v) (by rw [← ei]; exact List.getElem?_eq_getElem lt)
    have mx := List.mem_of_getElem? hx
    have vx := L2.val_nodup nd _ mx
    have ry := rb.val k
    have vx : valV kvs k = some x := vx
    rw [vx, hy] at ry
    have ry : RelV x y := ry
    have fx := fl _ mx
    refine .leaf fun A2 _ => ?_
    cases x with
    | non =>
      cases (show v = Value.none from rx)
      cases (show y = Value.none from ry)
      exact .same _
    | int z =>
      obtain ⟨t, rfl⟩ := rx
      obtain ⟨u, rfl⟩ := ry
      have := SeqAt.EqAt.int_int (A := A2) (s := s) z t z u
      rwa [beq_self_eq_true] at this
    | _ => cases fx
/-- != of two lists of dicts that hold the same -/
def rNeLD (K : PySem.W.Frag) : R2 := fun x y H Q => ∃ (p q : Addr) (as bs : List Addr), x = .ref p ∧ y = .ref q ∧ SqL K H p (as.map V.ref) ∧ SqL K H q (bs.map V.ref) ∧ as.length = bs.length ∧
  (∀ (i : Nat) (a b : Addr), as[i]? = some a → bs[i]? = some b → ∃ kvs : List (Key × V), H a = some (.dK kvs) ∧ H b = some (.dK kvs) ∧ (∀ p ∈ kvs, flatPI p.2 = true) ∧ (kvs.map (·.1)).Nodup) ∧ Q (.bl false) H
theorem op_neLD {X : Cx} (hu : X.A.units + 64 < cLine) : OpR X (compareOp .NotEq) (rNeLD X.K) := by
  (intro pins s σ H x y v u Q I rx ry h)
  obtain ⟨p, q, as, bs, rfl, rfl, h1, h2, hl, each, q⟩ := h
  obtain ⟨i1, r1, l1, _⟩ := I.list h1
  obtain ⟨i2, r2, l2, _⟩ := I.list h2
  cases rx
  cases ry
  have at_ : ∀ {l : List Addr} {us : List Value}, Vals (l.map V.ref) us → ∀ (j : Nat) (x : Value), us[j]? = some x → ∃ a, l[j]? = some a ∧ x = .ref a := by
    intro l
    induction l with
    | nil => intro us r j x e; cases r; simp at e
    | cons a t ih =>
      intro us r j x e
      cases r with
      | cons r1 r2 =>
        cases r1
        cases j with
        | zero => exact ⟨a, rfl, (Option.some.inj e).symm⟩
        | succ j => exact ih r2 j x e
  refine ne_false l1.isList l2.isList (by rw [List.size_toArray, List.size_toArray, ← r1.length, ← r2.length]; simp [hl]) (by omega) (fun j x y e1 e2 => ?_) ⟨.bl _, H, I, rfl, q⟩
  rw [List.getElem?_toArray] at e1 e2
  obtain ⟨a, ea, rfl⟩ := at_ r1 j x e1
  obtain ⟨b, eb, rfl⟩ := at_ r2 j y e2
  obtain ⟨kvs, k1, k2, k3, k4⟩ := each j a b ea eb
  exact eq_dk I (by show X.A.units + 1 + 2 < cLine; omega) k1 k2 k3 k4
/-! ### min of pairs of a number and a text -/
end U
namespace U
open PySem PySem.Spec PySem.Calls PyProof.Rows L2

/-! ### f(k = v, ..): all arguments by their names -/
section
variable {X : Cx} {CX : CXT} {k : Nat} {x : Str} {fd : FuncData} {f : Addr} {ps ks : List Str} {sp : Sp} {E : XK} {p pos : Pos} {kws : List Keyword} {tk : TA} {g : List Value → List Value → List Value} {gV : List V → List V → List V}
end
/-! ### len of a dict -/
def rLenD : List V → Hp → VK → Prop := fun xs H Q => ∃ (a : Addr) (kvs : List (Key × V)), xs = [V.ref a] ∧ H a = some (.dK kvs) ∧ Q (.int kvs.length) H
theorem call_lenD' {X : Cx} : CallR X (.builtin "len") rLenD := call_lenD
def rDictP (K : PySem.W.Frag) : List V → Hp → VK → Prop := fun xs H Q => ∃ (a : Addr) (ps : List Addr) (kvs : List (Key × V)), xs = [.ref a] ∧ SqL K H a (ps.map V.ref) ∧ Paired (fun p kv => SqT K H p [kV kv.1, kv.2]) ps kvs ∧ ∀ p, H p = none → Q (.ref p) (upd H p (.dK (mergeK [] kvs)))
theorem call_dictP' {X : Cx} (hc : X.calm = true) : CallR X (.type "dict") (rDictP X.K) := call_dictP hc
end U
namespace U
open PySem PySem.Spec PyProof.Rows L2

/-! ### levels: six numbers, by two places -/
def six {α : Type} (f : Nat → Nat → α) : List α := waysN.map fun w => f w.1 w.2
/-- the two lines of a crate -/
def lineS (p D : Nat → Nat → Int) (i j : Nat) : Int := D i (3 - i - j) + p i j + D (3 - i - j) j
def lineT2 (p D : Nat → Nat → Int) (i j : Nat) : Int := D i j + p i (3 - i - j) + D j i + p (3 - i - j) j + D i j
def stepN (p D : Nat → Nat → Int) (i j : Nat) : Int := min (lineS p D i j) (lineT2 p D i j)
def levelN : List (Nat → Nat → Int) → Nat → Nat → Int
  | [], _, _ => 0
  | p :: r, i, j => stepN p (levelN r) i j
/-! ### the same with None -/
def osum : List (Option Int) → Option Int
  | [] => some 0
  | none :: _ => none
  | some a :: r => (osum r).map (a + ·)
def omin : Option Int → Option Int → Option Int
  | none, b => b
  | a, none => a
  | some a, some b => some (min a b)
def oline1 (p D : Nat → Nat → Option Int) (i j : Nat) : Option Int := osum [D i (3 - i - j), p i j, D (3 - i - j) j]
def oline2 (p D : Nat → Nat → Option Int) (i j : Nat) : Option Int := osum [D i j, p i (3 - i - j), D j i, p (3 - i - j) j, D i j]
def stepO (p D : Nat → Nat → Option Int) (i j : Nat) : Option Int := omin (oline1 p D i j) (oline2 p D i j)
/-- the level of some crates, the last one first -/
def levelO : List (Nat → Nat → Option Int) → Nat → Nat → Option Int
  | [], _, _ => some 0
  | p :: r, i, j => stepO p (levelO r) i j
/-- a number stands for a cost -/
def Stands (B M : Int) (c : Option Int) (n : Int) : Prop := match c with
  | some v => n = v ∧ 0 ≤ v ∧ v ≤ M
  | none => B ≤ n
theorem Stands.nonneg {B M : Int} {c : Option Int} {n : Int} (h : Stands B M c n) (hB : 0 ≤ B) : 0 ≤ n := by
  cases c with
  | none => exact Int.le_trans hB h
  | some v => obtain ⟨h1, h2, _⟩ := h; omega
theorem Stands.mono {B M M' : Int} {c : Option Int} {n : Int} (h : Stands B M c n) (hM : M ≤ M') : Stands B M' c n := by
  cases c with
  | none => exact h
  | some v => obtain ⟨h1, h2, h3⟩ := h; exact ⟨h1, h2, by omega⟩
theorem Stands.told {B M : Int} {c : Option Int} {n : Int} (h : Stands B M c n) (hM : M < B) : (if n < B then some n else none) = c := by
  cases c with
  | none => have h : B ≤ n := h; rw [if_neg (by omega)]
  | some v => obtain ⟨h1, h2, h3⟩ := h; rw [if_pos (by omega), h1]
theorem osum3 {B M G : Int} {a b c : Option Int} {x y z : Int} (hB : 0 ≤ B) (ha : Stands B M a x) (hb : Stands B G b y) (hc : Stands B M c z) : Stands B (M + G + M) (osum [a, b, c]) (x + y + z) := by
  have x0 := ha.nonneg hB
  have y0 := hb.nonneg hB
  have z0 := hc.nonneg hB
  cases a with
  | none => have ha : B ≤ x := ha; show B ≤ _; omega
  | some a =>
    obtain ⟨a1, a2, a3⟩ := ha
    cases b with
    | none => have hb : B ≤ y := hb; show B ≤ _; omega
    | some b =>
      obtain ⟨b1, b2, b3⟩ := hb
      cases c with
      | none => have hc : B ≤ z := hc; show B ≤ _; omega
      | some c =>
        obtain ⟨c1, c2, c3⟩ := hc
        show x + y + z = a + (b + (c + 0)) ∧ 0 ≤ a + (b + (c + 0)) ∧ a + (b + (c + 0)) ≤ M + G + M
        omega
theorem osum5 {B M G : Int} {a b c d e : Option Int} {x y z u v : Int} (hB : 0 ≤ B) (ha : Stands B M a x) (hb : Stands B G b y) (hc : Stands B M c z) (hd : Stands B G d u) (he : Stands B M e v) : Stands B (M + G + M + G + M) (osum [a, b, c, d, e]) (x + y + z + u + v) := by
  have x0 := ha.nonneg hB
  have y0 := hb.nonneg hB
  have z0 := hc.nonneg hB
  have u0 := hd.nonneg hB
  have v0 := he.nonneg hB
  cases a with
  | none => have ha : B ≤ x := ha; show B ≤ _; omega
  | some a =>
    obtain ⟨a1, a2, a3⟩ := ha
    cases b with
    | none => have hb : B ≤ y := hb; show B ≤ _; omega
    | some b =>
      obtain ⟨b1, b2, b3⟩ := hb
      cases c with
      | none => have hc : B ≤ z := hc; show B ≤ _; omega
      | some c =>
        obtain ⟨c1, c2, c3⟩ := hc
        cases d with
        | none => have hd : B ≤ u := hd; show B ≤ _; omega
        | some d =>
          obtain ⟨d1, d2, d3⟩ := hd
          cases e with
          | none => have he : B ≤ v := he; show B ≤ _; omega
          | some e =>
            obtain ⟨e1, e2, e3⟩ := he
            show x + y + z + u + v = a + (b + (c + (d + (e + 0)))) ∧ 0 ≤ a + (b + (c + (d + (e + 0)))) ∧ a + (b + (c + (d + (e + 0)))) ≤ M + G + M + G + M
            omega
theorem omin2 {B M N : Int} {a b : Option Int} {x y : Int} (ha : Stands B M a x) (hb : Stands B N b y) (hM : M < B) (hN : N < B) : Stands B (max M N) (omin a b) (min x y) := by
  cases a with
  | none =>
    have ha : B ≤ x := ha
    cases b with
    | none => have hb : B ≤ y := hb; show B ≤ _; omega
    | some b =>
      obtain ⟨b1, b2, b3⟩ := hb
      show min x y = b ∧ _ ∧ _
      omega
  | some a =>
    obtain ⟨a1, a2, a3⟩ := ha
    cases b with
    | none =>
      have hb : B ≤ y := hb
      show min x y = a ∧ _ ∧ _
      omega
    | some b =>
      obtain ⟨b1, b2, b3⟩ := hb
      show min x y = min a b ∧ _ ∧ _
      omega
/-- the greatest cost of a level of k crates -/
def mostN (G : Int) : Nat → Int
  | 0 => 0
  | k + 1 => 3 * mostN G k + 2 * G
theorem mostN_nonneg {G : Int} (h : 0 ≤ G) : ∀ k, 0 ≤ mostN G k
  | 0 => Int.le_refl _
  | k + 1 => by have := mostN_nonneg h k; unfold mostN; omega
theorem mostN_lt {G : Int} (h : 0 < G) : ∀ k, mostN G k + G ≤ G * 3 ^ k
  | 0 => by show 0 + G ≤ G * 1; omega
  | k + 1 => by
    have i := mostN_lt h k
    have e : G * 3 ^ (k + 1) = 3 * (G * 3 ^ k) := by rw [Int.pow_succ]; rw [← Int.mul_assoc]; exact Int.mul_comm _ _
    rw [e]
    unfold mostN
    omega
theorem pow34 : ∀ k : Nat, (3 : Int) ^ k ≤ 4 ^ k
  | 0 => Int.le_refl _
  | k + 1 => by
    have i := pow34 k
    have p : (0 : Int) ≤ 3 ^ k := Int.pow_nonneg (by decide)
    rw [Int.pow_succ, Int.pow_succ]
    omega
theorem pow4_mono : ∀ {k n : Nat}, k ≤ n → (4 : Int) ^ k ≤ 4 ^ n := by
  intro k n h
  induction n with
  | zero => have : k = 0 := by omega
            rw [this]; exact Int.le_refl _
  | succ n ih =>
    by_cases e : k = n + 1
    · rw [e]; exact Int.le_refl _
    · have := ih (by omega)
      have p : (0 : Int) ≤ 4 ^ n := Int.pow_nonneg (by decide)
      rw [Int.pow_succ]
      omega
theorem mostN_bound {G : Int} {k n : Nat} (h : 0 < G) (hk : k ≤ n) : mostN G k < G * 4 ^ n := by
  have h1 := mostN_lt h k
  have h2 := Int.le_trans (pow34 k) (pow4_mono hk)
  have h3 : G * 3 ^ k ≤ G * 4 ^ n := Int.mul_le_mul_of_nonneg_left h2 (Int.le_of_lt h)
  omega
theorem step_stands {B G : Int} {k : Nat} {p D : Nat → Nat → Option Int} {q E : Nat → Nat → Int} (hB : 0 ≤ B) (hG : 0 ≤ G) (hM : mostN G (k + 1) < B) (hp : ∀ i j, i < 3 → j < 3 → i ≠ j → Stands B G (p i j) (q i j)) (hD : ∀ i j, i < 3 → j < 3 → i ≠ j → Stands B (mostN G k) (D i j) (E i j)) :
    ∀ i j, i < 3 → j < 3 → i ≠ j → Stands B (mostN G (k + 1)) (stepO p D i j) (stepN q E i j) := by
  intro i j hi hj n
  have m0 := mostN_nonneg hG k
  have ht : 3 - i - j < 3 ∧ i ≠ 3 - i - j ∧ 3 - i - j ≠ j := by omega
  have a := osum3 hB (hD i _ hi ht.1 ht.2.1) (hp i j hi hj n) (hD _ j ht.1 hj ht.2.2)
  have b := osum5 hB (hD i j hi hj n) (hp i _ hi ht.1 ht.2.1) (hD j i hj hi n.symm) (hp _ j ht.1 hj ht.2.2) (hD i j hi hj n)
  have e : mostN G (k + 1) = 3 * mostN G k + 2 * G := rfl
  refine (omin2 (a.mono (M' := mostN G (k + 1)) (by omega)) (b.mono (M' := mostN G (k + 1)) (by omega)) hM hM).mono ?_
  omega
end U
namespace U
open PySem PySem.Spec PyProof.Rows L2

def iV (ns : List Int) : List V := ns.map V.int
def sp_turned (K : PySem.W.Frag) : Sp := sp1 fun x H Q _ => ∃ p f, x = .ref p ∧ SqT K H p (iV (six f)) ∧ ∀ r H', Same H H' → H r = none → H' r = some (.tup (iV (six fun i j => f j i))) → Q (.ref r) H'
def sp_towers_above (K : PySem.W.Frag) : Sp := sp2 fun x y H Q _ => ∃ p q f g, x = .ref p ∧ y = .ref q ∧ SqT K H p (iV (six f)) ∧ SqT K H q (iV (six g)) ∧ ∀ r H', Same H H' → H r = none → H' r = some (.tup (iV (six (stepN f g)))) → Q (.ref r) H'
/-- from a place to all three -/
def dd (D : Nat → Nat → Int) (i j : Nat) : Int := if i = j then 0 else D i j
def three (f : Nat → Int) : List Int := [f 0, f 1, f 2]
def Each (H : Hp) (r : Addr) (D : Nat → Nat → Int) : Prop := ∃ q0 q1 q2, H r = some (.dK [(.inr "a", .ref q0), (.inr "b", .ref q1), (.inr "c", .ref q2)]) ∧ H q0 = some (.tup (iV (three (dd D 0)))) ∧ H q1 = some (.tup (iV (three (dd D 1)))) ∧ H q2 = some (.tup (iV (three (dd D 2))))
def sp_from_each_tower (K : PySem.W.Frag) : Sp := sp1 fun x H Q _ => ∃ p D, x = .ref p ∧ SqT K H p (iV (six D)) ∧ ∀ r H', Same H H' → H r = none → Each H' r D → Q (.ref r) H'
def bl1 (p : Nat → Nat → Int) (u v : Nat → Int) (i j : Nat) : Int := u (3 - i - j) + p i j + v (3 - i - j)
def bl2 (p D : Nat → Nat → Int) (u v : Nat → Int) (i j : Nat) : Int := u j + p i (3 - i - j) + D j i + p (3 - i - j) j + v i
def sp_both_lines (K : PySem.W.Frag) : Sp := sp5' fun w x y z t H Q _ => ∃ i j px py pz pt f D u v, w = .str (wd [i, j]) ∧ i < 3 ∧ j < 3 ∧ i ≠ j ∧ x = .ref px ∧ y = .ref py ∧ z = .ref pz ∧ t = .ref pt ∧ SqT K H px (iV (six f)) ∧ SqT K H py (iV (six D)) ∧ SqT K H pz (iV (three u)) ∧ SqT K H pt (iV (three v)) ∧
  ∀ r H', Same H H' → H r = none → H' r = some (.tup (iV [bl1 f u v i j, bl2 f D u v i j])) → Q (.ref r) H'
where sp5' (f : V → V → V → V → V → Hp → VK → XK → Prop) : Sp := fun vs H Q E => match vs with
  | [x, y, z, u, v] => f x y z u v H Q E
  | _ => False
def t_turned (K : PySem.W.Frag) (E : XK) : TS := (tSeq (tAsg (tVar 0) (gTup K 6 (gCons (gName 1) (gCons (gName 2) (gCons (gName 3) (gCons (gName 4) (gCons (gName 5) (gCons (gName 6) gNil)))))))) (tRet (tTup (tCons (tVar 3) (tCons (tVar 5) (tCons (tVar 1) (tCons (tVar 6) (tCons (tVar 2) (tCons (tVar 4) tNil)))))))))
def t_towers_above (K : PySem.W.Frag) (E : XK) : TS := (tSeq (tAsg (tVar 1) (gTup K 6 (gCons (gName 2) (gCons (gName 3) (gCons (gName 4) (gCons (gName 5) (gCons (gName 6) (gCons (gName 7) gNil)))))))) (tSeq (tAsg (tVar 0) (gTup K 6 (gCons (gName 8) (gCons (gName 9) (gCons (gName 10) (gCons (gName 11) (gCons (gName 12) (gCons (gName 13) gNil)))))))) (tRet (tTup (tCons (tCB uMin2 (tCons (tOp uAdd (tOp uAdd (tVar 3) (tVar 8)) (tVar 7)) (tCons (tOp uAdd (tOp uAdd (tOp uAdd (tOp uAdd (tVar 2) (tVar 9)) (tVar 4)) (tVar 13)) (tVar 2)) tNil))) (tCons (tCB uMin2 (tCons (tOp uAdd (tOp uAdd (tVar 2) (tVar 9)) (tVar 5)) (tCons (tOp uAdd (tOp uAdd (tOp uAdd (tOp uAdd (tVar 3) (tVar 8)) (tVar 6)) (tVar 11)) (tVar 3)) tNil))) (tCons (tCB uMin2 (tCons (tOp uAdd (tOp uAdd (tVar 5) (tVar 10)) (tVar 6)) (tCons (tOp uAdd (tOp uAdd (tOp uAdd (tOp uAdd (tVar 4) (tVar 11)) (tVar 2)) (tVar 12)) (tVar 4)) tNil))) (tCons (tCB uMin2 (tCons (tOp uAdd (tOp uAdd (tVar 4) (tVar 11)) (tVar 3)) (tCons (tOp uAdd (tOp uAdd (tOp uAdd (tOp uAdd (tVar 5) (tVar 10)) (tVar 7)) (tVar 9)) (tVar 5)) tNil))) (tCons (tCB uMin2 (tCons (tOp uAdd (tOp uAdd (tVar 7) (tVar 12)) (tVar 4)) (tCons (tOp uAdd (tOp uAdd (tOp uAdd (tOp uAdd (tVar 6) (tVar 13)) (tVar 3)) (tVar 10)) (tVar 6)) tNil))) (tCons (tCB uMin2 (tCons (tOp uAdd (tOp uAdd (tVar 6) (tVar 13)) (tVar 2)) (tCons (tOp uAdd (tOp uAdd (tOp uAdd (tOp uAdd (tVar 7) (tVar 12)) (tVar 5)) (tVar 8)) (tVar 7)) tNil))) tNil))))))))))
def t_from_each_tower (K : PySem.W.Frag) (E : XK) : TS := (tSeq (tAsg (tVar 0) (gTup K 6 (gCons (gName 1) (gCons (gName 2) (gCons (gName 3) (gCons (gName 4) (gCons (gName 5) (gCons (gName 6) gNil)))))))) (tRet (tDisp [((tC (.str "a")), (tTup (tCons (tC (.int 0)) (tCons (tVar 1) (tCons (tVar 2) tNil))))), ((tC (.str "b")), (tTup (tCons (tVar 3) (tCons (tC (.int 0)) (tCons (tVar 4) tNil))))), ((tC (.str "c")), (tTup (tCons (tVar 5) (tCons (tVar 6) (tCons (tC (.int 0)) tNil)))))])))
def t_both_lines (K : PySem.W.Frag) (E : XK) : TS := (tSeq (tAsg (tOp (rTurn K) (tC (.ref (He.ga K "_TURNS"))) (tVar 0)) (gTup K 7 (gCons (gName 5) (gCons (gName 6) (gCons (gName 7) (gCons (gName 8) (gCons (gName 9) (gCons (gName 10) (gCons (gName 11) gNil))))))))) (tRet (tTup (tCons (tOp uAdd (tOp uAdd (tOp (uIx K) (tVar 3) (tVar 11)) (tOp (uIx K) (tVar 1) (tVar 5))) (tOp (uIx K) (tVar 4) (tVar 11))) (tCons (tOp uAdd (tOp uAdd (tOp uAdd (tOp uAdd (tOp (uIx K) (tVar 3) (tVar 10)) (tOp (uIx K) (tVar 1) (tVar 6))) (tOp (uIx K) (tVar 2) (tVar 8))) (tOp (uIx K) (tVar 1) (tVar 7))) (tOp (uIx K) (tVar 4) (tVar 9))) tNil)))))
section
variable {K : PySem.W.Frag} (F : KF K) {vs : List V} {H : Hp} {Q : VK} {E : XK}
local macro_rules | `(tactic| walk_at "w") => `(tactic| try simp only [turnE, lcT, Snoc, tRet, tRetN, tAndV, tOrV, tNotV, tCB, tCons, tVar, tNil, tC, tOp, tSeq, tAsg, gName, gSub, tIfS, tDrop, tFn, tTup, tLst, tNext, tB, tTest, tNot, tAnd, tOr, tIf, tChain, tUn, rU, tFld, tPart, tNoPart, L2.tSl, tBM, tPar, tPar3, tTruth, tDNewK,
  L2.start, List.map_cons, List.map_nil, List.length_cons, List.length_nil, List.replicate_succ, List.replicate_zero, List.append_nil, List.nil_append, List.cons_append, List.singleton_append, Nat.sub_self, Nat.zero_add, Nat.reduceAdd, Nat.reduceSub,
  List.getElem?_cons_zero, List.getElem?_cons_succ, List.set_cons_zero, List.set_cons_succ, Option.some.injEq, exists_eq_left, exists_eq_left', V.int.injEq, V.bl.injEq, V.str.injEq, V.ref.injEq,
  uAdd_int, uAdd_str, uSub_int, uMul_int, uMul_str, uDiv_int, uMod_int, uPow_int, uLt_int, uLe_int, uGt_int, uGe_int, uIs_non, uNis_non, uIs_bl, uNis_bl, sp1, sp2, sp3, sp4, uEq_int, uEq_str, uNe_int, uNe_str, uSl_str, uLen_str, decide_eq_true_eq])
local macro_rules | `(tactic| walk_at "1") => `(tactic| try simp only [turnE, lcT, Snoc, tRet, tRetN, tAndV, tOrV, tNotV, tCB, tCons, tVar, tNil, tC, tOp, tAsg, gName, gSub, tIfS, tDrop, tFn, tTup, tLst, tNext, tB, tTest, tNot, tAnd, tOr, tIf, tChain, tUn, rU, tFld, tPart, tNoPart, L2.tSl, tBM, tPar, tPar3, tTruth, tDNewK,
  L2.start, List.map_cons, List.map_nil, List.length_cons, List.length_nil, List.replicate_succ, List.replicate_zero, List.append_nil, List.nil_append, List.cons_append, List.singleton_append, Nat.sub_self, Nat.zero_add, Nat.reduceAdd, Nat.reduceSub,
  List.getElem?_cons_zero, List.getElem?_cons_succ, List.set_cons_zero, List.set_cons_succ, Option.some.injEq, exists_eq_left, exists_eq_left', V.int.injEq, V.bl.injEq, V.str.injEq, V.ref.injEq,
  uAdd_int, uAdd_str, uSub_int, uMul_int, uMul_str, uDiv_int, uMod_int, uPow_int, uLt_int, uLe_int, uGt_int, uGe_int, uIs_non, uNis_non, uIs_bl, uNis_bl, sp1, sp2, sp3, sp4, uEq_int, uEq_str, uNe_int, uNe_str, uSl_str, uLen_str, decide_eq_true_eq])
local macro_rules | `(tactic| walk_at "s") => `(tactic| ((try dsimp only [turnE]); with_reducible refine seq_ ?_))

theorem min_int {a b : Int} : (if b < a then b else a) = min a b := by
  by_cases h : b < a
  · rw [if_pos h]; omega
  · rw [if_neg h]; omega
/-- a tuple of n numbers in n names -/
theorem un1 {i : Nat} {u : TGs} {v : V} {r : List V} {σ : L2.St} {Q : L2.St → Hp → Prop} (h : u r (σ.set i (some v)) H Q) : gCons (gName i) u (v :: r) σ H Q := ⟨v, r, rfl, h⟩
theorem un0 {σ : L2.St} {Q : L2.St → Hp → Prop} (h : Q σ H) : gNil [] σ H Q := ⟨rfl, h⟩
include F in
theorem read_turned (h : sp_turned K vs H Q E) : t_turned K E { nx := fun _ H' => Q .non H', rt := Q } (start ["six", "ab", "ac", "ba", "bc", "ca", "cb"] vs) H := by
  match vs, h with
  | [_], ⟨p, f, rfl, hp, q⟩ =>
    unfold t_turned
    walk_at "s"
    walk_at "1"
    refine ⟨p, _, rfl, hp, rfl, un1 (un1 (un1 (un1 (un1 (un1 (un0 ?_))))))⟩
    walk_at "1"
    exact ⟨by decide, fun r hr => q r _ (same_new hr) hr upd_same⟩
include F in
theorem read_towers_above (h : sp_towers_above K vs H Q E) : t_towers_above K E { nx := fun _ H' => Q .non H', rt := Q } (start ["prices", "below", "ab", "ac", "ba", "bc", "ca", "cb", "price_ab", "price_ac", "price_ba", "price_bc", "price_ca", "price_cb"] vs) H := by
  match vs, h with
  | [_, _], ⟨p, b, f, g, rfl, rfl, hp, hb, q⟩ =>
    unfold t_towers_above
    walk_at "s"
    walk_at "1"
    refine ⟨b, _, rfl, hb, rfl, un1 (un1 (un1 (un1 (un1 (un1 (un0 ?_))))))⟩
    walk_at "s"
    walk_at "1"
    refine ⟨p, _, rfl, hp, rfl, un1 (un1 (un1 (un1 (un1 (un1 (un0 ?_))))))⟩
    walk_at "1"
    refine ⟨_, _, rfl, ⟨_, _, rfl, ⟨_, _, rfl, ⟨_, _, rfl, ⟨_, _, rfl, ⟨_, _, rfl, ⟨by decide, fun r hr => q r _ (same_new hr) hr ?_⟩⟩⟩⟩⟩⟩⟩
    rw [upd_same]
    simp only [min_int]
    rfl
include F in
theorem read_from_each_tower (h : sp_from_each_tower K vs H Q E) : t_from_each_tower K E { nx := fun _ H' => Q .non H', rt := Q } (start ["towers", "ab", "ac", "ba", "bc", "ca", "cb"] vs) H := by
  match vs, h with
  | [_], ⟨p, D, rfl, hp, q⟩ =>
    unfold t_from_each_tower
    walk_at "s"
    walk_at "1"
    refine ⟨p, _, rfl, hp, rfl, un1 (un1 (un1 (un1 (un1 (un1 (un0 ?_))))))⟩
    simp only [tRet, tDisp, tPairs]
    walk_at "1"
    refine fun d nd => ⟨by decide, fun q0 n0 => ⟨by decide, fun q1 n1 => ⟨by decide, fun q2 n2 => ?_⟩⟩⟩
    have o1 : Off d H (upd H d (.dK [])) := off_upd
    have g0 : upd H d (.dK []) d = some (.dK []) := upd_same
    generalize upd H d (.dK []) = H1 at *
    have s2 : Same H1 (upd H1 q0 (.tup (iV (three (dd D 0))))) := same_new n0
    have g2 : upd H1 q0 (.tup (iV (three (dd D 0)))) q0 = some (.tup (iV (three (dd D 0)))) := upd_same
    change upd H1 q0 (.tup (iV (three (dd D 0)))) q1 = none at n1
    change upd (upd H1 q0 (.tup (iV (three (dd D 0))))) q1 (.tup (iV (three (dd D 1)))) q2 = none at n2
    show upd (upd (upd H1 q0 (.tup (iV (three (dd D 0))))) q1 (.tup (iV (three (dd D 1))))) q2 (.tup (iV (three (dd D 2)))) d = _ ∧ ∃ kvs, _ ∧ _ ∧ Q (.ref d) (upd (upd (upd (upd H1 q0 (.tup (iV (three (dd D 0))))) q1 (.tup (iV (three (dd D 1))))) q2 (.tup (iV (three (dd D 2))))) d (.dK (mergeK [] kvs)))
    generalize upd H1 q0 (.tup (iV (three (dd D 0)))) = H2 at *
    have s3 : Same H2 (upd H2 q1 (.tup (iV (three (dd D 1))))) := same_new n1
    have g3 : upd H2 q1 (.tup (iV (three (dd D 1)))) q1 = some (.tup (iV (three (dd D 1)))) := upd_same
    generalize upd H2 q1 (.tup (iV (three (dd D 1)))) = H3 at *
    have s4 : Same H3 (upd H3 q2 (.tup (iV (three (dd D 2))))) := same_new n2
    have g4 : upd H3 q2 (.tup (iV (three (dd D 2)))) q2 = some (.tup (iV (three (dd D 2)))) := upd_same
    generalize upd H3 q2 (.tup (iV (three (dd D 2)))) = H4 at *
    have s14 := s2.trans (s3.trans s4)
    have gd := s14 _ _ g0
    have nd0 : ∀ {c : Addr} {xs : List V}, H4 c = some (.tup xs) → c ≠ d := fun e z => by rw [z, gd] at e; cases e
    refine ⟨gd, [(.inr "a", .ref q0), (.inr "b", .ref q1), (.inr "c", .ref q2)], rfl, Nat.le_of_ble_eq_true rfl, ?_⟩
    rw [show mergeK [] [((.inr "a" : Key), V.ref q0), (.inr "b", .ref q1), (.inr "c", .ref q2)] = [(.inr "a", .ref q0), (.inr "b", .ref q1), (.inr "c", .ref q2)] from rfl]
    have e0 := s4 _ _ (s3 _ _ g2)
    have e1 := s4 _ _ g3
    refine q d _ ((o1.trans ((Same.off s14).trans off_upd)).same nd) nd ⟨q0, q1, q2, upd_same, ?_, ?_, ?_⟩
    · rw [upd_ne (nd0 e0)]; exact e0
    · rw [upd_ne (nd0 e1)]; exact e1
    · rw [upd_ne (nd0 g4)]; exact g4
theorem turn_at {i j : Nat} (hi : i < 3) (hj : j < 3) (n : i ≠ j) : ∃ c1 c2 c3 c4 : Nat, (wd [i, j], [(c1 : Int), c2, c3, c4, i, j, ((3 - i - j : Nat) : Int)]) ∈ turnsT ∧
    (∀ f : Nat → Nat → Int, (six f)[c1]? = some (f i j) ∧ (six f)[c2]? = some (f i (3 - i - j)) ∧ (six f)[c3]? = some (f (3 - i - j) j) ∧ (six f)[c4]? = some (f j i)) := by
  rcases (show i = 0 ∧ j = 1 ∨ i = 0 ∧ j = 2 ∨ i = 1 ∧ j = 0 ∨ i = 1 ∧ j = 2 ∨ i = 2 ∧ j = 0 ∨ i = 2 ∧ j = 1 by omega) with ⟨rfl, rfl⟩ | ⟨rfl, rfl⟩ | ⟨rfl, rfl⟩ | ⟨rfl, rfl⟩ | ⟨rfl, rfl⟩ | ⟨rfl, rfl⟩
  · exact ⟨0, 1, 5, 2, by decide +kernel, fun f => ⟨rfl, rfl, rfl, rfl⟩⟩
  · exact ⟨1, 0, 3, 4, by decide +kernel, fun f => ⟨rfl, rfl, rfl, rfl⟩⟩
  · exact ⟨2, 3, 4, 0, by decide +kernel, fun f => ⟨rfl, rfl, rfl, rfl⟩⟩
  · exact ⟨3, 2, 1, 5, by decide +kernel, fun f => ⟨rfl, rfl, rfl, rfl⟩⟩
  · exact ⟨4, 5, 2, 1, by decide +kernel, fun f => ⟨rfl, rfl, rfl, rfl⟩⟩
  · exact ⟨5, 4, 0, 3, by decide +kernel, fun f => ⟨rfl, rfl, rfl, rfl⟩⟩
theorem ix_six {p c : Addr} {x : Int} {k : Nat} {ns : List Int} (h : SqT K H p (iV ns)) (e : ns[k]? = some x) (q : Q (.int x) H) : uIx K (.ref p) (.int (k : Nat)) H Q :=
  ⟨_, .int x, .inr h, at_nat (by unfold iV; rw [List.getElem?_map, e]; rfl), q⟩
theorem three_at (u : Nat → Int) {k : Nat} (hk : k < 3) : (three u)[k]? = some (u k) := by
  match k, hk with
  | 0, _ => rfl
  | 1, _ => rfl
  | 2, _ => rfl
include F in
theorem read_both_lines (h : sp_both_lines K vs H Q E) : t_both_lines K E { nx := fun _ H' => Q .non H', rt := Q } (start ["way", "prices", "towers", "to_towers", "from_towers", "straight", "first", "second", "back", "here", "there", "over"] vs) H := by
  match vs, h with
  | [_, _, _, _, _], ⟨i, j, px, py, pz, pt, f, D, u, v, rfl, hi, hj, n, rfl, rfl, rfl, rfl, h1, h2, h3, h4, q⟩ =>
    unfold t_both_lines
    obtain ⟨c1, c2, c3, c4, mem, at_⟩ := turn_at hi hj n
    obtain ⟨f1, f2, f3, f4⟩ := at_ f
    obtain ⟨_, _, _, d4⟩ := at_ D
    have ht : 3 - i - j < 3 := by omega
    walk_at "s"
    walk_at "1"
    refine ⟨_, _, rfl, rfl, mem, fun p hp => ?_⟩
    refine ⟨p, _, rfl, hp, rfl, un1 (un1 (un1 (un1 (un1 (un1 (un1 (un0 ?_)))))))⟩
    walk_at "1"
    refine ix_six (c := p) h3 (three_at u ht) (ix_six (c := p) h1 f1 ?_)
    walk_at "1"
    refine ix_six (c := p) h4 (three_at v ht) ?_
    walk_at "1"
    refine ix_six (c := p) h3 (three_at u hj) (ix_six (c := p) h1 f2 ?_)
    walk_at "1"
    refine ix_six (c := p) h2 d4 ?_
    walk_at "1"
    refine ix_six (c := p) h1 f3 ?_
    walk_at "1"
    refine ix_six (c := p) h4 (three_at v hi) ?_
    walk_at "1"
    exact ⟨by decide, fun r hr => q r _ (same_new hr) hr upd_same⟩
end
end U
namespace U
open PySem PySem.Spec PyProof.Rows L2

/-! ### a dict comprehension over pairs -/
/-- the turns of such a comprehension, D its dict -/
def DcB (J : It) (g : TG) (tt : TT) (tk tv : TE) (vs : List Nat) (σ : L2.St) (H1 : Hp) (D : Addr) (Qd : Hp → Prop) : Prop :=
  ∃ W : Nat → Nat → Hp → Prop, (∃ m, W 0 m (upd H1 D (.dK []))) ∧ ∀ i m H, W i m H → (J.stop i H ∧ Qd H) ∨ (J.go i H ∧ ∃ Nx : Hp → Prop, (∀ H', Nx H' → ∃ m', m' < m ∧ W (i + 1) m' H') ∧ ∀ x H', J.yld i H x H' → g x (wipe σ vs) H' fun ρ H2 => wipe ρ vs = wipe σ vs ∧ tt ρ H2 fun b H3 =>
        if b = true then tk ρ H3 fun u H4 => tv ρ H4 fun z H5 => ∃ kvs k, u = kV k ∧ H5 D = some (.dK kvs) ∧ kvs.length < sizeLine ∧ Nx (upd H5 D (.dK (putK kvs k z))) else Nx H3)
theorem tDc_zipA {K : PySem.W.Frag} {ta : TA} {g : TG} {tt : TT} {tk tv : TE} {vs : List Nat} {σ : L2.St} {H : Hp} {Q : VK} (h : RZ.iZipA K ta σ H fun J H1 => ∀ D, H1 D = none → DcB J g tt tk tv vs σ H1 D (Q (.ref D))) : tDc (iZipV K ta) g tt tk tv vs σ H Q := .inr h
theorem dc_zip {J : It} {xs ys : List V} {G : Hp → Prop} (Z : Zipped J xs ys G) {g : TG} {tt : TT} {tk tv : TE} {vs : List Nat} {σ : L2.St} {H1 : Hp} {D : Addr} {Qd : Hp → Prop} (Pv : Nat → Hp → Prop) (h0 : Pv 0 (upd H1 D (.dK []))) (hG : ∀ i H, Pv i H → G H)
    (hs : ∀ i x y T H, xs[i]? = some x → ys[i]? = some y → Pv i H → H T = none → g (.ref T) (wipe σ vs) (upd H T (.tup [x, y])) fun ρ H2 => wipe ρ vs = wipe σ vs ∧ tt ρ H2 fun b H3 =>
      if b = true then tk ρ H3 fun u H4 => tv ρ H4 fun z H5 => ∃ kvs k, u = kV k ∧ H5 D = some (.dK kvs) ∧ kvs.length < sizeLine ∧ Pv (i + 1) (upd H5 D (.dK (putK kvs k z))) else Pv (i + 1) H3)
    (hd : ∀ H, Pv (min xs.length ys.length) H → Qd H) :
    DcB J g tt tk tv vs σ H1 D Qd := by
  refine ⟨fun i m H => m = min xs.length ys.length - i ∧ (i ≤ min xs.length ys.length ∧ Pv i H), ⟨_, rfl, Nat.zero_le _, h0⟩, ?_⟩
  rintro i m H ⟨rfl, hi, p⟩
  by_cases lt : i < min xs.length ys.length
  · refine .inr ⟨Z.go i H (hG i H p) (by omega) (by omega), Pv (i + 1), fun H' p' => ⟨min xs.length ys.length - (i + 1), by omega, rfl, lt, p'⟩, fun v H' yd => ?_⟩
    obtain ⟨T, x, y, rfl, hT, rfl, e1, e2⟩ := Z.yld i H v H' (hG i H p) yd
    exact hs i x y T H e1 e2 p hT
  · have e : i = min xs.length ys.length := by omega
    subst e
    exact .inl ⟨Z.stop _ H (hG _ H p) (by omega) (by omega) (by omega), hd H p⟩
theorem pair_in {K : PySem.W.Frag} {T : Addr} {x y : V} {i j : Nat} {σ : L2.St} {H : Hp} {Q : L2.St → Hp → Prop} (h : H T = some (.tup [x, y])) (q : Q ((σ.set i (some x)).set j (some y)) H) : gTup K 2 (gCons (gName i) (gCons (gName j) gNil)) (.ref T) σ H Q :=
  ⟨T, _, rfl, .inl (.inl h), rfl, x, _, rfl, y, _, rfl, rfl, q⟩
/-! ### what the head tells of the class Reckoning -/
structure KR (K : PySem.W.Frag) : Prop where
  cl : Cls K (He.ga K "Reckoning")
  bound : NoAttr K (He.ga K "Reckoning") "bound"
  prices : NoAttr K (He.ga K "Reckoning") "prices"
  towers : NoAttr K (He.ga K "Reckoning") "towers"
  back : NoAttr K (He.ga K "Reckoning") "_backwards"
  ne : He.ga K "Yard" ≠ He.ga K "Reckoning"
/-- the fields of a reckoning -/
def rkF (B : Int) (lp lt : V) (bk : V) : List (Str × V) := [("bound", .int B), ("prices", lp), ("towers", lt), ("_backwards", bk)]
def RkAt (K : PySem.W.Frag) (H : Hp) (a : Addr) (B : Int) (lp lt : V) : Prop := ∃ dx bk, H a = some (.ins (He.ga K "Reckoning") dx (rkF B lp lt bk))
def toldV (B n : Int) : Option Int := if n < B then some n else none
def sp_Reckoning_init (K : PySem.W.Frag) : Sp := sp4 fun s b p t H Q _ => ∃ a dx B, s = .ref a ∧ b = .int B ∧ H a = some (.ins (He.ga K "Reckoning") dx []) ∧ ∀ H', Off a H H' → H' a = some (.ins (He.ga K "Reckoning") dx (rkF B p t .non)) → Q .non H'
def sp_Reckoning_told (K : PySem.W.Frag) : Sp := sp2 fun s x H Q _ => ∃ a B lp lt n, s = .ref a ∧ RkAt K H a B lp lt ∧ x = .int n ∧ Q (pV (toldV B n)) H
/-- names with what is told of as many numbers -/
def namedK (B : Int) (zs : List Str) (ns : List Int) : List (Key × V) := (zs.zip ns).map fun p => (.inr p.1, pV (toldV B p.2))
def sp_Reckoning_named (K : PySem.W.Frag) : Sp := sp3 fun s x y H Q _ => ∃ a B lp lt p q zs ns, s = .ref a ∧ RkAt K H a B lp lt ∧ x = .ref p ∧ y = .ref q ∧ SqT K H p (zs.map V.str) ∧ SqT K H q (iV ns) ∧ zs.Nodup ∧ zs.length ≤ 10 ∧ zs.length = ns.length ∧
  ∀ r H', Same H H' → H r = none → H' r = some (.dK (namedK B zs ns)) → Q (.ref r) H'
def t_Reckoning_init (K : PySem.W.Frag) (E : XK) : TS := (tSeq (sFld K (tVar 0) (tVar 1) "bound") (tSeq (sFld K (tVar 0) (tVar 2) "prices") (tSeq (sFld K (tVar 0) (tVar 3) "towers") (sFld K (tVar 0) (tC .non) "_backwards"))))
def t_Reckoning_told (K : PySem.W.Frag) (E : XK) : TS := (tRet (tIf (tTest (tOp uLt (tVar 1) (tFld K (tVar 0) "bound"))) (tVar 1) (tC .non)))
def t_Reckoning_named (K : PySem.W.Frag) (E : XK) : TS := (tSeq (tAsg (tFld K (tVar 0) "bound") (gName 3)) (tRet (tDc (iZipV K (tCons (tVar 1) (tCons (tVar 2) tNil))) (gTup K 2 (gCons (gName 4) (gCons (gName 5) gNil))) tYes (tVar 4) (tIf (tTest (tOp uLt (tVar 5) (tVar 3))) (tVar 5) (tC .non)) [4, 5])))
section
variable {K : PySem.W.Frag} (F : KF K) (R : KR K) {vs : List V} {H : Hp} {Q : VK} {E : XK}
local macro_rules | `(tactic| walk_at "w") => `(tactic| try simp only [turnE, lcT, Snoc, tRet, tRetN, tAndV, tOrV, tNotV, tCB, tCons, tVar, tNil, tC, tOp, tSeq, tAsg, gName, gSub, tIfS, tDrop, tFn, tTup, tLst, tNext, tB, tTest, tNot, tAnd, tOr, tIf, tChain, tUn, rU, tFld, tPart, tNoPart, L2.tSl, tBM, tPar, tPar3, tTruth, tDNewK,
  L2.start, List.map_cons, List.map_nil, List.length_cons, List.length_nil, List.replicate_succ, List.replicate_zero, List.append_nil, List.nil_append, List.cons_append, List.singleton_append, Nat.sub_self, Nat.zero_add, Nat.reduceAdd, Nat.reduceSub,
  List.getElem?_cons_zero, List.getElem?_cons_succ, List.set_cons_zero, List.set_cons_succ, Option.some.injEq, exists_eq_left, exists_eq_left', V.int.injEq, V.bl.injEq, V.str.injEq, V.ref.injEq,
  uAdd_int, uAdd_str, uSub_int, uMul_int, uMul_str, uDiv_int, uMod_int, uPow_int, uLt_int, uLe_int, uGt_int, uGe_int, uIs_non, uNis_non, uIs_bl, uNis_bl, sp1, sp2, sp3, sp4, uEq_int, uEq_str, uNe_int, uNe_str, uSl_str, uLen_str, decide_eq_true_eq])
local macro_rules | `(tactic| walk_at "1") => `(tactic| try simp only [turnE, lcT, Snoc, tRet, tRetN, tAndV, tOrV, tNotV, tCB, tCons, tVar, tNil, tC, tOp, tAsg, gName, gSub, tIfS, tDrop, tFn, tTup, tLst, tNext, tB, tTest, tNot, tAnd, tOr, tIf, tChain, tUn, rU, tFld, tPart, tNoPart, L2.tSl, tBM, tPar, tPar3, tTruth, tDNewK,
  L2.start, List.map_cons, List.map_nil, List.length_cons, List.length_nil, List.replicate_succ, List.replicate_zero, List.append_nil, List.nil_append, List.cons_append, List.singleton_append, Nat.sub_self, Nat.zero_add, Nat.reduceAdd, Nat.reduceSub,
  List.getElem?_cons_zero, List.getElem?_cons_succ, List.set_cons_zero, List.set_cons_succ, Option.some.injEq, exists_eq_left, exists_eq_left', V.int.injEq, V.bl.injEq, V.str.injEq, V.ref.injEq,
  uAdd_int, uAdd_str, uSub_int, uMul_int, uMul_str, uDiv_int, uMod_int, uPow_int, uLt_int, uLe_int, uGt_int, uGe_int, uIs_non, uNis_non, uIs_bl, uNis_bl, sp1, sp2, sp3, sp4, uEq_int, uEq_str, uNe_int, uNe_str, uSl_str, uLen_str, decide_eq_true_eq])
local macro_rules | `(tactic| walk_at "s") => `(tactic| ((try dsimp only [turnE]); with_reducible refine seq_ ?_))

include F R in
theorem read_Reckoning_init (h : sp_Reckoning_init K vs H Q E) : t_Reckoning_init K E { nx := fun _ H' => Q .non H', rt := Q } (start ["self", "bound", "prices", "towers"] vs) H := by
  match vs, h with
  | [_, _, p, t], ⟨a, dx, B, rfl, rfl, ha, q⟩ =>
    unfold t_Reckoning_init
    simp only [tSeq, sFld]
    walk_at "1"
    refine ⟨a, _, dx, _, rfl, ha, R.cl, R.bound, by decide, ?_⟩
    have e1 : putF "bound" (.int B) [] = ([("bound", .int B)] : List (Str × V)) := rfl
    have e2 : putF "prices" p ([("bound", .int B)] : List (Str × V)) = ([("bound", .int B), ("prices", p)] : List (Str × V)) := rfl
    have e3 : putF "towers" t ([("bound", .int B), ("prices", p)] : List (Str × V)) = ([("bound", .int B), ("prices", p), ("towers", t)] : List (Str × V)) := rfl
    have e4 : putF "_backwards" .non ([("bound", .int B), ("prices", p), ("towers", t)] : List (Str × V)) = rkF B p t .non := rfl
    refine ⟨a, _, dx, _, rfl, upd_same, R.cl, R.prices, by rw [e1]; show (1 : Nat) < 1000; decide, ?_⟩
    rw [e1, e2]
    refine ⟨a, _, dx, _, rfl, upd_same, R.cl, R.towers, by show (2 : Nat) < 1000; decide, ?_⟩
    rw [e3]
    refine ⟨a, _, dx, _, rfl, upd_same, R.cl, R.back, by show (3 : Nat) < 1000; decide, ?_⟩
    rw [e4]
    exact q _ (Off.trans (Off.trans (Off.trans off_upd off_upd) off_upd) off_upd) upd_same
include F R in
theorem read_Reckoning_told (h : sp_Reckoning_told K vs H Q E) : t_Reckoning_told K E { nx := fun _ H' => Q .non H', rt := Q } (start ["self", "number"] vs) H := by
  match vs, h with
  | [_, _], ⟨a, B, lp, lt, n, rfl, ⟨dx, bk, ha⟩, rfl, q⟩ =>
    unfold t_Reckoning_told
    walk_at "1"
    refine ⟨a, _, dx, _, .int B, rfl, ha, R.cl, R.bound, rfl, ?_⟩
    walk_at "1"
    by_cases l : n < B
    · rw [toldV, if_pos l] at q
      rw [if_pos l]
      exact q
    · rw [toldV, if_neg l] at q
      rw [if_neg l]
      exact q
/-- the numbers of a list, as they come out of a zip -/
theorem put_new {kvs : List (Key × V)} {k : Key} {v : V} (h : ∀ p ∈ kvs, p.1 ≠ k) : putK kvs k v = kvs ++ [(k, v)] := by
  unfold putK
  rw [if_neg]
  simp only [List.any_eq_true, decide_eq_true_eq, not_exists, not_and]
  exact h
include F R in
theorem read_Reckoning_named (h : sp_Reckoning_named K vs H Q E) : t_Reckoning_named K E { nx := fun _ H' => Q .non H', rt := Q } (start ["self", "names", "numbers", "bound", "name", "number"] vs) H := by
  match vs, h with
  | [_, _, _], ⟨a, B, lp, lt, p, b, zs, ns, rfl, ⟨dx, bk, ha⟩, rfl, rfl, hp, hb, nd, few, same, q⟩ =>
    unfold t_Reckoning_named
    walk_at "s"
    walk_at "1"
    refine ⟨a, _, dx, _, .int B, rfl, ha, R.cl, R.bound, rfl, ?_⟩
    refine tDc_zipA ?_
    refine ⟨.ref p, rfl, .ref b, rfl, p, b, _, _, rfl, .inr ⟨hp, hb, fun D hD => ?_⟩⟩
    refine dc_zip (zipped_TT (K := K) (a := p) (b := b) (xs := zs.map V.str) (ys := iV ns))
      (fun i H' => Off D H H' ∧ H' D = some (.dK (namedK B (zs.take i) (ns.take i)))) ⟨off_upd, upd_same⟩ (fun i H' z => ⟨Same.sqT (z.1.same hD) hp, Same.sqT (z.1.same hD) hb⟩) ?_ ?_
    · rintro i x y T H2 hx hy ⟨o2, gD⟩ nT
      refine pair_in upd_same ?_
      rw [List.getElem?_map] at hx
      obtain ⟨z, hz, rfl⟩ := Option.map_eq_some_iff.mp hx
      unfold iV at hy
      rw [List.getElem?_map] at hy
      obtain ⟨n, hn, rfl⟩ := Option.map_eq_some_iff.mp hy
      have lz := (List.getElem?_eq_some_iff.mp hz).1
      have ln := (List.getElem?_eq_some_iff.mp hn).1
      have nTD : D ≠ T := by rintro rfl; rw [gD] at nT; cases nT
      have o3 : Off D H (upd H2 T (.tup [.str z, .int n])) := Off.trans o2 (Same.off (same_new nT))
      have gD3 : upd H2 T (.tup [.str z, .int n]) D = some (.dK (namedK B (zs.take i) (ns.take i))) := by rw [upd_ne nTD]; exact gD
      generalize upd H2 T (.tup [.str z, .int n]) = H3 at *
      refine ⟨rfl, ?_⟩
      unfold tYes
      dsimp only
      rw [if_pos rfl, show wipe [some (V.ref a), some (V.ref p), some (V.ref b), some (V.int B), none, none] [4, 5] = [some (V.ref a), some (V.ref p), some (V.ref b), some (V.int B), none, none] from rfl]
      simp only [List.set_cons_zero, List.set_cons_succ]
      have et : namedK B (zs.take (i + 1)) (ns.take (i + 1)) = namedK B (zs.take i) (ns.take i) ++ [(.inr z, pV (toldV B n))] := by
        unfold namedK
        rw [List.take_succ_eq_append_getElem lz, List.take_succ_eq_append_getElem ln, List.zip_append (by rw [List.length_take, List.length_take]; omega), List.map_append]
        rw [(List.getElem?_eq_some_iff.mp hz).2, (List.getElem?_eq_some_iff.mp hn).2]
        rfl
      have fresh : ∀ q ∈ namedK B (zs.take i) (ns.take i), q.1 ≠ .inr z := by
        rintro q m e
        unfold namedK at m
        obtain ⟨w, mw, rfl⟩ := List.mem_map.mp m
        have e : w.1 = z := Sum.inr.inj e
        have m2 := (List.of_mem_zip mw).1
        rw [e] at m2
        obtain ⟨k, lk, ek⟩ := List.mem_iff_getElem.mp m2
        rw [List.length_take] at lk
        rw [List.getElem_take] at ek
        have hz2 := (List.getElem?_eq_some_iff.mp hz).2
        have ek2 : zs[k]? = zs[i]? := by rw [List.getElem?_eq_getElem (by omega), hz, ek]
        have := (List.getElem?_inj (by omega) nd).mp ek2
        omega
      have few2 : (namedK B (zs.take i) (ns.take i)).length < sizeLine := by
        unfold namedK
        rw [List.length_map, List.length_zip, List.length_take, sizeLine_eq]
        omega
      have fin : upd H3 D (.dK (putK (namedK B (zs.take i) (ns.take i)) (.inr z) (pV (toldV B n)))) D = some (.dK (namedK B (zs.take (i + 1)) (ns.take (i + 1)))) := by rw [upd_same, et, put_new fresh]
      refine ⟨.str z, rfl, ?_⟩
      walk_at "1"
      by_cases l : n < B
      · rw [toldV, if_pos l] at fin
        rw [if_pos l]
        exact ⟨_, .inr z, rfl, gD3, few2, Off.trans o3 off_upd, fin⟩
      · rw [toldV, if_neg l] at fin
        rw [if_neg l]
        exact ⟨_, .inr z, rfl, gD3, few2, Off.trans o3 off_upd, fin⟩
    · intro H2 ⟨o2, gD⟩
      rw [List.length_map, show (iV ns).length = ns.length from List.length_map _, ← same, Nat.min_self, List.take_length, same, List.take_length] at gD
      exact q D H2 (o2.same hD) hD gD
end
end U
namespace U
open PySem PySem.Spec PyProof.Rows L2

/-! ### comprehensions of two clauses -/
def lc3T (g : TG) (tt : TT) (te : TE) (vs : List Nat) (σ : L2.St) (D : Addr) (N : Hp → Prop) (x : V) (H : Hp) : Prop :=
  g x (wipe σ vs) H fun τ H2 => wipe τ vs = wipe σ vs ∧ tt τ H2 fun b H3 => if b = true then te τ H3 (fun y H4 => ∃ acc, H4 D = some (.lst acc) ∧ acc.length < sizeLine ∧ N (upd H4 D (.lst (acc ++ [y])))) else N H3
def lc2T (g : TG) (tt : TT) (wi1 : TI) (g1 : TG) (tt1 : TT) (te : TE) (vs vs1 : List Nat) (σ : L2.St) (D : Addr) (N : Hp → Prop) (x : V) (H : Hp) : Prop :=
  g x (wipe σ vs) H fun τ H2 => wipe τ vs = wipe σ vs ∧ tt τ H2 fun b H3 => if b = true then wi1 τ H3 fun J1 H4 => Laps J1 H4 N fun y H5 N1 => lc3T g1 tt1 te vs1 τ D N1 y H5 else N H3
theorem tLc2_of {wi : TI} {g : TG} {tt : TT} {wi1 : TI} {g1 : TG} {tt1 : TT} {te : TE} {vs vs1 : List Nat} {σ : L2.St} {H : Hp} {Q : VK} (h : wi σ H fun J H1 => ∀ D, H1 D = none → Laps J (upd H1 D (.lst [])) (Q (.ref D)) fun x H' N => lc2T g tt wi1 g1 tt1 te vs vs1 σ D N x H') :
    tLc2 wi g tt wi1 g1 tt1 te vs vs1 σ H Q := h
/-! ### the prices of a reckoning -/
def PrB (K : PySem.W.Frag) (H : Hp) (l : Addr) (qs : List (List Int)) : Prop := ∃ bs : List Addr, H l = some (.lst (bs.map V.ref)) ∧ bs.length = qs.length ∧ ∀ (i : Nat) (b : Addr) (q : List Int), bs[i]? = some b → qs[i]? = some q → SqT K H b (iV q)
theorem PrB.same {K : PySem.W.Frag} {H H' : Hp} {l : Addr} {qs : List (List Int)} (e : Same H H') (h : PrB K H l qs) : PrB K H' l qs := by
  obtain ⟨bs, h1, h2, h3⟩ := h
  exact ⟨bs, e _ _ h1, h2, fun i b q z1 z2 => Same.sqT e (h3 i b q z1 z2)⟩
def rowI (B : Int) (r : List (Option Int)) : List Int := r.map fun o => o.getD B
def RowsT (K : PySem.W.Frag) (H : Hp) (t : Addr) (rows : List (List (Option Int))) : Prop := ∃ as : List Addr, SqT K H t (as.map V.ref) ∧ as.length = rows.length ∧ rows.length ≤ 60 ∧ (∀ (i : Nat) (a : Addr) (r : List (Option Int)), as[i]? = some a → rows[i]? = some r → SqT K H a (r.map pV)) ∧ ∀ r ∈ rows, r.length = 6
theorem RowsT.same {K : PySem.W.Frag} {H H' : Hp} {t : Addr} {rows : List (List (Option Int))} (e : Same H H') (h : RowsT K H t rows) : RowsT K H' t rows := by
  obtain ⟨as, h1, h2, h3, h4, h5⟩ := h
  exact ⟨as, Same.sqT e h1, h2, h3, fun i a r z1 z2 => Same.sqT e (h4 i a r z1 z2), h5⟩
def sp_without_bars (K : PySem.W.Frag) : Sp := sp2 fun x y H Q _ => ∃ t rows B, x = .ref t ∧ y = .int B ∧ RowsT K H t rows ∧ ∀ l H', Same H H' → H l = none → PrB K H' l (rows.reverse.map (rowI B)) → Q (.ref l) H'
def t_without_bars (K : PySem.W.Frag) (E : XK) : TS := (tRet (tLc (iSeq K (tRevU K (tVar 0))) (gName 2) tYes (tIf (tTest (tOp (uIn K false) (tC .non) (tVar 2))) (tCB (uTup K) (tCons (tLc (iSeq K (tVar 2)) (gName 3) tYes (tIf (tTest (tOp uIs (tVar 3) (tC .non))) (tVar 1) (tVar 3)) [3]) tNil)) (tVar 2)) [2]))
section
variable {K : PySem.W.Frag} (F : KF K) (R : KR K) {vs : List V} {H : Hp} {Q : VK} {E : XK}
local macro_rules | `(tactic| walk_at "w") => `(tactic| try simp only [turnE, lcT, Snoc, tRet, tRetN, tAndV, tOrV, tNotV, tCB, tCons, tVar, tNil, tC, tOp, tSeq, tAsg, gName, gSub, tIfS, tDrop, tFn, tTup, tLst, tNext, tB, tTest, tNot, tAnd, tOr, tIf, tChain, tUn, rU, tFld, tPart, tNoPart, L2.tSl, tBM, tPar, tPar3, tTruth, tDNewK,
  L2.start, List.map_cons, List.map_nil, List.length_cons, List.length_nil, List.replicate_succ, List.replicate_zero, List.append_nil, List.nil_append, List.cons_append, List.singleton_append, Nat.sub_self, Nat.zero_add, Nat.reduceAdd, Nat.reduceSub,
  List.getElem?_cons_zero, List.getElem?_cons_succ, List.set_cons_zero, List.set_cons_succ, Option.some.injEq, exists_eq_left, exists_eq_left', V.int.injEq, V.bl.injEq, V.str.injEq, V.ref.injEq,
  uAdd_int, uAdd_str, uSub_int, uMul_int, uMul_str, uDiv_int, uMod_int, uPow_int, uLt_int, uLe_int, uGt_int, uGe_int, uIs_non, uNis_non, uIs_bl, uNis_bl, sp1, sp2, sp3, sp4, uEq_int, uEq_str, uNe_int, uNe_str, uSl_str, uLen_str, decide_eq_true_eq])
local macro_rules | `(tactic| walk_at "1") => `(tactic| try simp only [turnE, lcT, Snoc, tRet, tRetN, tAndV, tOrV, tNotV, tCB, tCons, tVar, tNil, tC, tOp, tAsg, gName, gSub, tIfS, tDrop, tFn, tTup, tLst, tNext, tB, tTest, tNot, tAnd, tOr, tIf, tChain, tUn, rU, tFld, tPart, tNoPart, L2.tSl, tBM, tPar, tPar3, tTruth, tDNewK,
  L2.start, List.map_cons, List.map_nil, List.length_cons, List.length_nil, List.replicate_succ, List.replicate_zero, List.append_nil, List.nil_append, List.cons_append, List.singleton_append, Nat.sub_self, Nat.zero_add, Nat.reduceAdd, Nat.reduceSub,
  List.getElem?_cons_zero, List.getElem?_cons_succ, List.set_cons_zero, List.set_cons_succ, Option.some.injEq, exists_eq_left, exists_eq_left', V.int.injEq, V.bl.injEq, V.str.injEq, V.ref.injEq,
  uAdd_int, uAdd_str, uSub_int, uMul_int, uMul_str, uDiv_int, uMod_int, uPow_int, uLt_int, uLe_int, uGt_int, uGe_int, uIs_non, uNis_non, uIs_bl, uNis_bl, sp1, sp2, sp3, sp4, uEq_int, uEq_str, uNe_int, uNe_str, uSl_str, uLen_str, decide_eq_true_eq])
local macro_rules | `(tactic| walk_at "s") => `(tactic| ((try dsimp only [turnE]); with_reducible refine seq_ ?_))

theorem in_nons (r : List (Option Int)) : inV .non (r.map pV) = r.contains none := by
  unfold inV
  induction r with
  | nil => rfl
  | cons o t ih =>
    rw [List.map_cons, List.any_cons, ih, List.contains_cons]
    cases o <;> rfl
theorem flat_pvs (r : List (Option Int)) : (r.map pV).all flatV = true := by
  rw [List.all_map]
  refine List.all_eq_true.mpr fun o _ => ?_
  cases o <;> rfl
theorem rowI_full {B : Int} {r : List (Option Int)} (h : r.contains none = false) : (rowI B r).map V.int = r.map pV := by
  unfold rowI
  rw [List.map_map]
  refine List.map_congr_left fun o m => ?_
  cases o with
  | none => rw [List.contains_iff_mem.mpr m] at h; cases h
  | some i => rfl
include F in
theorem read_without_bars (h : sp_without_bars K vs H Q E) : t_without_bars K E { nx := fun _ H' => Q .non H', rt := Q } (start ["rows", "bound", "row", "price"] vs) H := by
  match vs, h with
  | [_, _], ⟨t, rows, B, rfl, rfl, ⟨as, h1, h2, h3, h4, h5⟩, q⟩ =>
    unfold t_without_bars
    simp only [tRet]
    refine tLc_inT ?_
    refine .inr ⟨.ref t, rfl, t, _, rfl, h1, fun p hp => ⟨p, rfl, ⟨_, .inl (.inl upd_same)⟩, fun D hD => ?_⟩⟩
    have s1 : Same H (upd H p (.tup (as.map V.ref).reverse)) := same_new hp
    have g1 : upd H p (.tup (as.map V.ref).reverse) p = some (.tup (as.reverse.map V.ref)) := by rw [upd_same, List.map_reverse]
    generalize upd H p (.tup (as.map V.ref).reverse) = H1 at *
    refine lc_grow (plain_T (K := K) (a := p) (xs := as.reverse.map V.ref)) (fun acc H' => ∃ bs : List Addr, acc = bs.map V.ref ∧ bs.length ≤ rows.length ∧ ∀ (i : Nat) (b : Addr) (z : List Int), bs[i]? = some b → (rows.reverse.map (rowI B))[i]? = some z → SqT K H' b (iV z)) hD
      (by rw [List.length_map, List.length_reverse, h2]; exact Nat.le_trans h3 (by decide)) (fun H' s => Same.sqT s (.inl (.inl g1))) (fun _ _ => ⟨[], rfl, Nat.zero_le _, fun i b z e => nomatch e⟩) ?_ ?_ ?_
    · rintro acc l H2 H3 hl o ⟨bs, e1, e2, e3⟩
      exact ⟨bs, e1, e2, fun i b z z1 z2 => o.sqT hl (e3 i b z z1 z2)⟩
    · rintro i y acc H2 Q' hy s hl ⟨bs, e1, e2, e3⟩ k
      rw [List.getElem?_map] at hy
      obtain ⟨c, hc, rfl⟩ := Option.map_eq_some_iff.mp hy
      have lt : i < rows.length := by
        have := (List.getElem?_eq_some_iff.mp hc).1
        rw [List.length_reverse, h2] at this
        exact this
      have hl2 : bs.length = i := by rw [e1, List.length_map] at hl; exact hl
      have er : rows.reverse[i]? = some rows[rows.length - 1 - i] := by
        rw [List.getElem?_reverse lt]
        exact List.getElem?_eq_getElem _
      have ec : as[rows.length - 1 - i]? = some c := by
        rw [List.getElem?_reverse (by rw [h2]; exact lt), h2] at hc
        exact hc
      have hq := h4 _ c _ ec (List.getElem?_eq_getElem (show rows.length - 1 - i < rows.length by omega))
      have l6 : (rows[rows.length - 1 - i]).length = 6 := h5 _ (List.getElem_mem _)
      generalize rows[rows.length - 1 - i] = r at *
      have hq2 := Same.sqT (s1.trans s) hq
      have step : ∀ (b : Addr) (H3 : Hp), Same H2 H3 → SqT K H3 b (iV (rowI B r)) → Q' (.ref b) H3 := fun b H3 s3 hb => by
        refine k _ _ s3 ⟨bs ++ [b], by simp [e1], by simp; omega, fun j d z z1 z2 => ?_⟩
        by_cases e : j = i
        · subst e
          rw [List.getElem?_append_right (by omega), hl2] at z1
          simp at z1
          subst z1
          rw [List.getElem?_map, er] at z2
          cases z2
          exact hb
        · have : j < bs.length := by
            have := (List.getElem?_eq_some_iff.mp z1).1
            simp at this
            omega
          rw [List.getElem?_append_left this] at z1
          exact Same.sqT s3 (e3 j d z z1 z2)
      walk_at "1"
      refine ⟨c, _, rfl, .inr hq2, rfl, flat_pvs r, _, rfl, ?_⟩
      rw [if_neg (show ¬ false = true by decide), in_nons]
      by_cases nb : r.contains none = true
      · rw [if_pos nb]
        refine tLc_inT ⟨.ref c, rfl, c, rfl, ⟨_, hq2⟩, fun D2 hD2 => ?_⟩
        refine lc_grow (plain_T (K := K) (a := c) (xs := r.map pV)) (fun acc _ => acc = ((rowI B r).take acc.length).map V.int) hD2 (by
            rw [List.length_map, l6]; decide) (fun H' s => Same.sqT s hq2) (fun _ _ => rfl) (fun _ _ _ _ _ _ z => z) ?_ ?_
        · rintro j z acc H3 Q3 hz s3 hl3 e3' k3
          rw [List.getElem?_map] at hz
          obtain ⟨o, ho, rfl⟩ := Option.map_eq_some_iff.mp hz
          have fin : ∀ v, v = V.int (o.getD B) → Q3 v H3 := fun v ev => by
            subst ev
            refine k3 _ H3 (Same.refl _) ?_
            have lo := (List.getElem?_eq_some_iff.mp ho).1
            have lr : j < (rowI B r).length := by unfold rowI; rw [List.length_map]; exact lo
            have e4 : acc = ((rowI B r).take j).map V.int := by rw [hl3] at e3'; exact e3'
            have : (rowI B r)[j] = o.getD B := by
              have e5 : (rowI B r)[j]? = some (o.getD B) := by
                unfold rowI
                rw [List.getElem?_map, ho]
                rfl
              exact (List.getElem?_eq_some_iff.mp e5).2
            rw [List.length_append, List.length_singleton, hl3, List.take_succ_eq_append_getElem lr, List.map_append, this, ← e4]
            rfl
          walk_at "1"
          cases o with
          | none => exact fin _ rfl
          | some i => exact fin _ rfl
        · rintro acc H3 hl3 s3 gD2 e3'
          rw [List.length_map, l6] at hl3
          rw [hl3, List.take_of_length_le (by unfold rowI; rw [List.length_map, l6]; exact Nat.le_refl _)] at e3'
          subst e3'
          exact ⟨_, .inl ⟨.inl (.inl gD2), fun l hl => step l _ (s3.trans (same_new hl)) (.inl (.inl upd_same))⟩⟩
      · rw [if_neg nb]
        refine step c H2 (Same.refl _) ?_
        rw [show iV (rowI B r) = r.map pV from rowI_full (by simpa using nb)]
        exact hq2
    · rintro acc H2 hl s gD ⟨bs, e1, e2, e3⟩
      subst e1
      rw [List.length_map, List.length_map, List.length_reverse, h2] at hl
      refine q D H2 (s1.trans s) ?_ ⟨bs, gD, by rw [List.length_map, List.length_reverse, hl], e3⟩
      exact s1.free hD
end
end U
namespace U
open PySem PySem.Spec PyProof.Rows L2

/-! ### the reckoning of some rows -/
def colN : Nat → Nat → Nat
  | 0, 1 => 0
  | 0, 2 => 1
  | 1, 0 => 2
  | 1, 2 => 3
  | 2, 0 => 4
  | _, _ => 5
def fnOf (q : List Int) (i j : Nat) : Int := (q[colN i j]?).getD 0
theorem six_fn {q : List Int} (h : q.length = 6) : six (fnOf q) = q := by
  match q, h with
  | [a, b, c, d, e, f], _ => rfl
/-- the levels of the costs from tower to tower, for no crates and so on -/
def levelQ (qs : List (List Int)) (k : Nat) : Nat → Nat → Int := levelN (((qs.take k).map fnOf).reverse)
def towersL (qs : List (List Int)) : List (List Int) := (List.range (qs.length + 1)).map fun k => six (levelQ qs k)
theorem levelQ_succ {qs : List (List Int)} {k : Nat} {q : List Int} (h : qs[k]? = some q) : levelQ qs (k + 1) = stepN (fnOf q) (levelQ qs k) := by
  have lt := (List.getElem?_eq_some_iff.mp h).1
  unfold levelQ
  rw [List.take_succ_eq_append_getElem lt, List.map_append, List.reverse_append, (List.getElem?_eq_some_iff.mp h).2]
  rfl
def priced (rows : List (List (Option Int))) : List Int := rows.flatMap fun r => r.filterMap id
/-- a bound of all prices -/
def Great (rows : List (List (Option Int))) (g : Int) : Prop := 0 < g ∧ g < 10 ^ 33 ∧ ∀ p ∈ priced rows, 0 < p ∧ p ≤ g
/-- the six numbers of the ways back -/
def turnQ (q : List Int) : List Int := six fun i j => fnOf q j i
/-- the numbers of a reckoning -/
def RkN0 (K : PySem.W.Frag) (H : Hp) (a : Addr) (B : Int) (qs : List (List Int)) : Prop := ∃ lp lt : Addr, RkAt K H a B (.ref lp) (.ref lt) ∧ PrB K H lp qs ∧ PrB K H lt (towersL qs)
/-- what a reckoning keeps: nothing yet, or that of the ways back -/
def Bk (K : PySem.W.Frag) (H : Hp) (bk : V) (B : Int) (qs : List (List Int)) : Prop := bk = .non ∨ ∃ b, bk = .ref b ∧ RkN0 K H b B (qs.map turnQ)
def RkO (K : PySem.W.Frag) (H : Hp) (a : Addr) (rows : List (List (Option Int))) : Prop := ∃ (g : Int) (lp lt : Addr), Great rows g ∧ (∃ dx bk, H a = some (.ins (He.ga K "Reckoning") dx (rkF (g * 4 ^ rows.length) (.ref lp) (.ref lt) bk)) ∧ Bk K H bk (g * 4 ^ rows.length) (rows.reverse.map (rowI (g * 4 ^ rows.length)))) ∧ PrB K H lp (rows.reverse.map (rowI (g * 4 ^ rows.length))) ∧ PrB K H lt (towersL (rows.reverse.map (rowI (g * 4 ^ rows.length))))
def PricesOk (rows : List (List (Option Int))) : Prop := ∀ p ∈ priced rows, 0 < p ∧ p < 10 ^ 33
def sp_reckoning_of (K : PySem.W.Frag) : Sp := sp1 fun x H Q _ => ∃ t rows, x = .ref t ∧ RowsT K H t rows ∧ PricesOk rows ∧ ∀ a H', Same H H' → H a = none → RkO K H' a rows → Q (.ref a) H'
def t_reckoning_of (K : PySem.W.Frag) (E : XK) : TS := (tSeq (tAsg (tCKw (rMaxDf K) (tCons (tLc2 (iSeq K (tVar 0)) (gName 6) tYes (iSeq K (tVar 6)) (gName 7) (tTest (tOp uNis (tVar 7) (tC .non))) (tVar 7) [6, 7] [7]) tNil) (tCons (tC (.int 1)) tNil)) (gName 1)) (tSeq (tAsg (tOp uShl (tVar 1) (tOp uMul (tC (.int 2)) (tCB (uLen K) (tCons (tVar 0) tNil)))) (gName 2)) (tSeq (tAsg (tFn (sp_without_bars K) E (tCons (tVar 0) (tCons (tVar 2) tNil))) (gName 3)) (tSeq (tAsg (tLst (tCons (tTup (tCons (tC (.int 0)) (tCons (tC (.int 0)) (tCons (tC (.int 0)) (tCons (tC (.int 0)) (tCons (tC (.int 0)) (tCons (tC (.int 0)) tNil))))))) tNil)) (gName 4)) (tSeq (tFor (iSeq K (tVar 3)) (gName 5) (tDrop (tBM K "list" rAppend (tVar 4) (tCons (tFn (sp_towers_above K) E (tCons (tVar 5) (tCons (tOp (uIx K) (tVar 4) (tUn (rU fun i => .int (-i)) (tC (.int 1)))) tNil))) tNil)))) (tRet (tMake (He.ga K "Reckoning") (sp_Reckoning_init K) [] E (tCons (tVar 2) (tCons (tVar 3) (tCons (tVar 4) tNil))))))))))
section
variable {K : PySem.W.Frag} (F : KF K) (R : KR K) {vs : List V} {H : Hp} {Q : VK} {E : XK}
local macro_rules | `(tactic| walk_at "w") => `(tactic| try simp only [turnE, lcT, Snoc, tRet, tRetN, tAndV, tOrV, tNotV, tCB, tCons, tVar, tNil, tC, tOp, tSeq, tAsg, gName, gSub, tIfS, tDrop, tFn, tTup, tLst, tNext, tB, tTest, tNot, tAnd, tOr, tIf, tChain, tUn, rU, tFld, tPart, tNoPart, L2.tSl, tBM, tPar, tPar3, tTruth, tDNewK,
  L2.start, List.map_cons, List.map_nil, List.length_cons, List.length_nil, List.replicate_succ, List.replicate_zero, List.append_nil, List.nil_append, List.cons_append, List.singleton_append, Nat.sub_self, Nat.zero_add, Nat.reduceAdd, Nat.reduceSub,
  List.getElem?_cons_zero, List.getElem?_cons_succ, List.set_cons_zero, List.set_cons_succ, Option.some.injEq, exists_eq_left, exists_eq_left', V.int.injEq, V.bl.injEq, V.str.injEq, V.ref.injEq,
  uAdd_int, uAdd_str, uSub_int, uMul_int, uMul_str, uDiv_int, uMod_int, uPow_int, uLt_int, uLe_int, uGt_int, uGe_int, uIs_non, uNis_non, uIs_bl, uNis_bl, sp1, sp2, sp3, sp4, uEq_int, uEq_str, uNe_int, uNe_str, uSl_str, uLen_str, decide_eq_true_eq])
local macro_rules | `(tactic| walk_at "1") => `(tactic| try simp only [turnE, lcT, Snoc, tRet, tRetN, tAndV, tOrV, tNotV, tCB, tCons, tVar, tNil, tC, tOp, tAsg, gName, gSub, tIfS, tDrop, tFn, tTup, tLst, tNext, tB, tTest, tNot, tAnd, tOr, tIf, tChain, tUn, rU, tFld, tPart, tNoPart, L2.tSl, tBM, tPar, tPar3, tTruth, tDNewK,
  L2.start, List.map_cons, List.map_nil, List.length_cons, List.length_nil, List.replicate_succ, List.replicate_zero, List.append_nil, List.nil_append, List.cons_append, List.singleton_append, Nat.sub_self, Nat.zero_add, Nat.reduceAdd, Nat.reduceSub,
  List.getElem?_cons_zero, List.getElem?_cons_succ, List.set_cons_zero, List.set_cons_succ, Option.some.injEq, exists_eq_left, exists_eq_left', V.int.injEq, V.bl.injEq, V.str.injEq, V.ref.injEq,
  uAdd_int, uAdd_str, uSub_int, uMul_int, uMul_str, uDiv_int, uMod_int, uPow_int, uLt_int, uLe_int, uGt_int, uGe_int, uIs_non, uNis_non, uIs_bl, uNis_bl, sp1, sp2, sp3, sp4, uEq_int, uEq_str, uNe_int, uNe_str, uSl_str, uLen_str, decide_eq_true_eq])
local macro_rules | `(tactic| walk_at "s") => `(tactic| ((try dsimp only [turnE]); with_reducible refine seq_ ?_))

/-- the list of the prices that are no bars -/
theorem priced_of {t D : Addr} {rows : List (List (Option Int))} {x0 x1 x2 x3 x4 x5 : Option V} {Q : Hp → Prop} {as : List Addr} (h1 : SqT K H t (as.map V.ref)) (h2 : as.length = rows.length) (h3 : rows.length ≤ 60) (h4 : ∀ (i : Nat) (a : Addr) (r : List (Option Int)), as[i]? = some a → rows[i]? = some r → SqT K H a (r.map pV)) (h5 : ∀ r ∈ rows, r.length = 6) (hD : H D = none)
    (q : ∀ H', Same H H' → H' D = some (.lst ((priced rows).map V.int)) → Q H') :
    Laps (Itt K t) (upd H D (.lst [])) Q fun x H' N => lc2T (gName 6) tYes (iSeq K (tVar 6)) (gName 7) (tTest (tOp uNis (tVar 7) (tC .non))) (tVar 7) [6, 7] [7] [x0, x1, x2, x3, x4, x5, none, none] D N x H' := by
  have lenP : ∀ l : List (List (Option Int)), (∀ r ∈ l, r.length = 6) → (priced l).length ≤ 6 * l.length := by
    intro l
    induction l with
    | nil => intro _; exact Nat.le_refl _
    | cons r s ih =>
      intro h
      have := ih fun x m => h x (List.mem_cons_of_mem _ m)
      have h6 := h r List.mem_cons_self
      have := List.length_filterMap_le id r
      unfold priced at *
      rw [List.flatMap_cons, List.length_append, List.length_cons]
      omega
  refine it_plain (plain_T (K := K) (a := t) (xs := as.map V.ref)) (fun i H' => Same H H' ∧ H' D = some (.lst ((priced (rows.take i)).map V.int))) ⟨same_new hD, upd_same⟩ (fun i H' z => Same.sqT z.1 h1) ?_ ?_
  · rintro i x H2 hx ⟨s2, gD⟩
    rw [List.getElem?_map] at hx
    obtain ⟨a, ha, rfl⟩ := Option.map_eq_some_iff.mp hx
    have lt : i < rows.length := by rw [← h2]; exact (List.getElem?_eq_some_iff.mp ha).1
    have hr : rows[i]? = some rows[i] := List.getElem?_eq_getElem lt
    have ht := Same.sqT s2 (h4 i a _ ha hr)
    have l6 := h5 _ (List.getElem_mem lt)
    have few : (priced (rows.take i)).length ≤ 360 := by
      have := lenP (rows.take i) fun r m => h5 r (List.mem_of_mem_take m)
      rw [List.length_take] at this
      omega
    have grow : priced (rows.take (i + 1)) = priced (rows.take i) ++ (rows[i]).filterMap id := by
      unfold priced
      rw [List.take_succ_eq_append_getElem lt, List.flatMap_append, List.flatMap_cons, List.flatMap_nil, List.append_nil]
    generalize rows[i] = r at *
    generalize priced (rows.take i) = ps at *
    unfold lc2T
    refine ⟨rfl, ?_⟩
    unfold tYes
    dsimp only
    rw [if_pos rfl]
    refine .inr ⟨.ref a, rfl, a, rfl, ⟨_, ht⟩, ?_⟩
    refine it_plain (plain_T (K := K) (a := a) (xs := r.map pV)) (fun j H' => Same H H' ∧ H' D = some (.lst ((ps ++ (r.take j).filterMap id).map V.int)) ∧ SqT K H' a (r.map pV)) ⟨s2, by rw [List.take_zero]; simpa using gD, ht⟩ (fun j H' z => z.2.2) ?_ ?_
    · rintro j y H3 hy ⟨s3, gD3, ht3⟩
      rw [List.getElem?_map] at hy
      obtain ⟨o, ho, rfl⟩ := Option.map_eq_some_iff.mp hy
      have lo := (List.getElem?_eq_some_iff.mp ho).1
      have et : (r.take (j + 1)).filterMap id = (r.take j).filterMap id ++ [o].filterMap id := by
        rw [List.take_succ_eq_append_getElem lo, List.filterMap_append, (List.getElem?_eq_some_iff.mp ho).2]
      have fewJ : ((r.take j).filterMap id).length ≤ 6 := by
        have := List.length_filterMap_le id (r.take j)
        rw [List.length_take] at this
        omega
      rw [et]
      unfold lc3T
      refine ⟨rfl, ?_⟩
      cases o with
      | none =>
        refine ⟨_, rfl, ?_⟩
        simp only [tC, uNis, pV]
        refine ⟨_, rfl, ?_⟩
        rw [if_neg (by decide)]
        exact ⟨s3, by rw [show ([none] : List (Option Int)).filterMap id = [] from rfl, List.append_nil]; exact gD3, ht3⟩
      | some i =>
        refine ⟨_, rfl, ?_⟩
        simp only [tC, uNis, pV]
        refine ⟨_, rfl, ?_⟩
        rw [if_pos (by simp)]
        refine ⟨_, rfl, _, gD3, ?_, ?_⟩
        · rw [List.length_map, List.length_append, sizeLine_eq]
          omega
        · refine ⟨(Off.trans (Same.off s3) off_upd).same hD, ?_, ?_⟩
          · rw [upd_same, show ([some i] : List (Option Int)).filterMap id = [i] from rfl, ← List.append_assoc, List.map_append, List.map_append, List.map_append]
            rfl
          · exact Off.sqT off_upd gD3 ht3
    · rintro H3 ⟨s3, gD3, _⟩
      rw [List.length_map, l6, List.take_of_length_le (by rw [l6]; exact Nat.le_refl _)] at gD3
      exact ⟨s3, by rw [grow]; exact gD3⟩
  · rintro H2 ⟨s2, gD⟩
    rw [List.length_map, h2, List.take_length] at gD
    exact q H2 s2 gD
theorem max_great {D : Addr} {rows : List (List (Option Int))} (hD : H D = some (.lst ((priced rows).map V.int))) (ok : PricesOk rows) (q : ∀ g, Great rows g → Q (.int g) H) : rMaxDf K [.ref D] [.int 1] H Q :=
  ⟨D, priced rows, .int 1, rfl, rfl, .inl (.inl hD), fun e => q 1 ⟨by decide, by decide, fun p m => by rw [e] at m; cases m⟩, fun m hm hle => q m ⟨(ok m hm).1, (ok m hm).2, fun p mp => ⟨(ok p mp).1, hle p mp⟩⟩⟩
theorem tFor_seqL {t : TE} {g : TG} {tb : TS} {D : Ends} {σ : L2.St} (h : t σ H fun x H1 => ∃ a, x = .ref a ∧ (∃ xs, SqL K H1 a xs) ∧ tFor (fun _ H' R => R (Itl K a) H') g tb D σ H1) : tFor (iSeq K t) g tb D σ H := .inl h
theorem at_end {xs : List V} {v : V} {n : Nat} (h : xs.length = n + 1) (e : xs[n]? = some v) : atI xs (-1) = some v := by
  unfold atI ixN
  rw [h, if_neg (by decide), if_pos (by omega)]
  show xs[((n + 1 : Nat) + (-1) : Int).toNat]? = some v
  rw [show ((n + 1 : Nat) + (-1) : Int).toNat = n by omega]
  exact e
theorem pow_4 (n : Nat) : (2 : Int) ^ (2 * (n : Int)).toNat = 4 ^ n := by
  rw [show (2 * (n : Int)).toNat = 2 * n by omega, Int.pow_mul]
  rfl
include F R in
theorem read_reckoning_of (h : sp_reckoning_of K vs H Q E) : t_reckoning_of K E { nx := fun _ H' => Q .non H', rt := Q } (start ["rows", "greatest", "bound", "prices", "towers", "six", "row", "price"] vs) H := by
  match vs, h with
  | [_], ⟨t, rows, rfl, ⟨as, h1, h2, h3, h4, h5⟩, ok, q⟩ =>
    unfold t_reckoning_of
    walk_at "s"
    simp only [tCKw, tAsg]
    refine tLc2_of ?_
    refine .inr ⟨.ref t, rfl, t, rfl, ⟨_, h1⟩, fun D hD => ?_⟩
    refine priced_of h1 h2 h3 h4 h5 hD fun H1 s1 gD => ?_
    walk_at "1"
    refine max_great gD ok fun g hg => ?_
    have hn : (as.map V.ref).length = rows.length := by rw [List.length_map, h2]
    walk_at "s"
    walk_at "1"
    refine uLen_seq (.inr (Same.sqT s1 h1)) ?_
    walk_at "1"
    rw [hn]
    have gA : g.natAbs < 10 ^ 33 := by
      have := hg.1
      have := hg.2.1
      omega
    refine ⟨.inl (by decide), cshl_of (j := 2 * rows.length) gA (by omega), ?_⟩
    dsimp only
    rw [show ((2 * (rows.length : Int)).toNat) = (2 * (rows.length : Int)).toNat from rfl, pow_4]
    walk_at "s"
    walk_at "1"
    refine ⟨t, rows, _, rfl, rfl, ⟨as, Same.sqT s1 h1, h2, h3, fun i a r z1 z2 => Same.sqT s1 (h4 i a r z1 z2), h5⟩, fun lp H2 s2 np pr => ?_⟩
    walk_at "s"
    walk_at "1"
    refine ⟨by decide, fun z nz => ⟨by decide, fun lt nt => ?_⟩⟩
    have s3 : Same H2 (upd H2 z (.tup (iV [0, 0, 0, 0, 0, 0]))) := same_new nz
    have gz : upd H2 z (.tup (iV [0, 0, 0, 0, 0, 0])) z = some (.tup (iV [0, 0, 0, 0, 0, 0])) := upd_same
    change upd H2 z (.tup (iV [0, 0, 0, 0, 0, 0])) lt = none at nt
    show tSeq _ _ _ _ (upd (upd H2 z (.tup (iV [0, 0, 0, 0, 0, 0]))) lt (.lst [.ref z]))
    generalize upd H2 z (.tup (iV [0, 0, 0, 0, 0, 0])) = H3 at *
    have s4 : Same H3 (upd H3 lt (.lst [.ref z])) := same_new nt
    have gl : upd H3 lt (.lst [.ref z]) lt = some (.lst [.ref z]) := upd_same
    generalize upd H3 lt (.lst [.ref z]) = H4 at *
    generalize hB : g * 4 ^ rows.length = B at *
    generalize hqs : rows.reverse.map (rowI B) = qs at *
    have lq : qs.length = rows.length := by rw [← hqs, List.length_map, List.length_reverse]
    have l6 : ∀ q ∈ qs, q.length = 6 := fun x m => by
      rw [← hqs] at m
      obtain ⟨r, mr, rfl⟩ := List.mem_map.mp m
      unfold rowI
      rw [List.length_map]
      exact h5 r (List.mem_reverse.mp mr)
    have pr3 := pr.same s3
    obtain ⟨bs, p1, p2, p3⟩ := id pr3
    walk_at "s"
    refine tFor_seqL ?_
    refine ⟨.ref lp, rfl, lp, rfl, ⟨_, .inl (.inl (s4 _ _ p1))⟩, ?_⟩
    refine for_plain (plain_L (K := K) (a := lp) (xs := bs.map V.ref)) (fun R r => r)
      (fun i τ H' => (∃ o5, τ = [some (.ref t), some (.int g), some (.int B), some (.ref lp), some (.ref lt), o5, none, none]) ∧ Same H3 H' ∧ ∃ cs : List Addr, H' lt = some (.lst (cs.map V.ref)) ∧ cs.length = i + 1 ∧ ∀ (j : Nat) (c : Addr), cs[j]? = some c → SqT K H' c (iV (six (levelQ qs j))))
      ⟨⟨_, rfl⟩, s4, [z], gl, rfl, fun j c e => ?_⟩ (fun i τ H' z => .inl (.inl (z.2.1 _ _ p1))) ?_ ?_
    · match j, e with
      | 0, e =>
        cases e
        exact .inl (.inl (s4 _ _ gz))
    · rintro i x τ H5 hx ⟨⟨o5, rfl⟩, s5, cs, k1, k2, k3⟩
      rw [List.getElem?_map] at hx
      obtain ⟨c, hc, rfl⟩ := Option.map_eq_some_iff.mp hx
      have lt' : i < qs.length := by rw [← p2]; exact (List.getElem?_eq_some_iff.mp hc).1
      have hq : qs[i]? = some qs[i] := List.getElem?_eq_getElem lt'
      have tq := Same.sqT s5 (p3 i c _ hc hq)
      have m6 := l6 _ (List.getElem_mem lt')
      have next := levelQ_succ hq
      generalize qs[i] = w at *
      obtain ⟨d, hd⟩ : ∃ d, cs[i]? = some d := ⟨_, List.getElem?_eq_getElem (by omega)⟩
      simp only [gName, List.set_cons_zero, List.set_cons_succ]
      walk_at "1"
      refine ⟨Or.inl ⟨rfl, _, .inl (.inl k1)⟩, ?_⟩
      refine ⟨_, .ref d, .inl (.inl (.inl k1)), at_end (n := i) (by rw [List.length_map, k2]) (by rw [List.getElem?_map, hd]; rfl), ?_⟩
      refine ⟨c, d, fnOf w, levelQ qs i, rfl, rfl, by rw [six_fn m6]; exact tq, k3 i d hd, fun r H6 s6 nr gr => ?_⟩
      refine ⟨lt, _, .ref r, rfl, rfl, s6 _ _ k1, by rw [List.length_map, k2, sizeLine_eq]; omega, ?_⟩
      have k1' := s6 _ _ k1
      have nrl : r ≠ lt := by rintro rfl; rw [k1] at nr; cases nr
      have o7 : Off lt H6 (upd H6 lt (.lst (cs.map V.ref ++ [.ref r]))) := off_upd
      refine ⟨⟨_, rfl⟩, (Off.trans (Same.off (s5.trans s6)) o7).same nt, cs ++ [r], by rw [upd_same, List.map_append]; rfl, by rw [List.length_append, k2]; rfl, fun j c2 e => ?_⟩
      by_cases lj : j < cs.length
      · rw [List.getElem?_append_left lj] at e
        exact o7.sqT k1' (Same.sqT s6 (k3 j c2 e))
      · have ej : j = i + 1 := by
          have := (List.getElem?_eq_some_iff.mp e).1
          rw [List.length_append, List.length_singleton] at this
          omega
        subst ej
        rw [List.getElem?_append_right (by omega), k2, Nat.sub_self] at e
        cases e
        rw [next]
        exact o7.sqT k1' (.inl (.inl gr))
    · rintro τ H5 ⟨⟨o5, rfl⟩, s5, cs, k1, k2, k3⟩
      walk_at "1"
      refine ⟨_, rfl, _, rfl, _, rfl, fun y dy ny nd ne => ?_⟩
      have s6 : Same H5 (upd (upd H5 dy (.own y)) y (.ins (He.ga K "Reckoning") dy [])) := fun b o e => by
        rw [upd_ne (ne_of_none e ny), upd_ne (ne_of_none e nd)]
        exact e
      have gy : upd (upd H5 dy (.own y)) y (.ins (He.ga K "Reckoning") dy []) y = some (.ins (He.ga K "Reckoning") dy []) := upd_same
      generalize upd (upd H5 dy (.own y)) y (.ins (He.ga K "Reckoning") dy []) = H6 at *
      refine ⟨y, dy, B, rfl, rfl, gy, fun H7 o7 g7 => ⟨rfl, ?_⟩⟩
      have s57 : Same H5 H7 := (Off.trans (Same.off s6) o7).same ny
      have s15 := s1.trans (s2.trans (s3.trans s5))
      refine q y H7 (s15.trans s57) (s15.free ny) ⟨g, lp, lt, hg, ?_, ?_, ?_⟩
      · rw [hB]
        exact ⟨dy, _, g7, .inl rfl⟩
      · rw [hB, hqs]
        exact pr3.same (s5.trans s57)
      · rw [hB, hqs]
        have lt2 : cs.length = qs.length + 1 := by rw [k2, List.length_map, p2]
        refine ⟨cs, s57 _ _ k1, ?_, fun i b w z1 z2 => ?_⟩
        · unfold towersL
          rw [List.length_map, List.length_range, lt2]
        · unfold towersL at z2
          rw [List.getElem?_map] at z2
          obtain ⟨k, hk, rfl⟩ := Option.map_eq_some_iff.mp z2
          have ek : k = i := by
            have := (List.getElem?_eq_some_iff.mp hk).2
            rw [List.getElem_range] at this
            exact this.symm
          subst ek
          exact Same.sqT s57 (k3 k b z1)
end
end U
namespace U
open PySem PySem.Spec PyProof.Rows L2

/-! ### a yard and its reckoning -/
/-- what a yard keeps: nothing yet, or its reckoning -/
def Kept (K : PySem.W.Frag) (H : Hp) (rows : List (List (Option Int))) (rk : V) : Prop := rk = .non ∨ ∃ a, rk = .ref a ∧ RkO K H a rows
/-- a yard as its maker left it, or as its reckoning left it -/
def YdK (K : PySem.W.Frag) (H : Hp) (y : Addr) (rows : List (List (Option Int))) : Prop := Yd K H y rows ∧ PricesOk rows ∧ ∃ dx t rk, H y = some (.ins (He.ga K "Yard") dx [("_rows", .ref t), ("_reckoning", rk)]) ∧ Kept K H rows rk
/-- a yard keeps this reckoning -/
def YdR (K : PySem.W.Frag) (H : Hp) (y a : Addr) : Prop := ∃ dx t, H y = some (.ins (He.ga K "Yard") dx [("_rows", .ref t), ("_reckoning", .ref a)])
def sp_Yard_reckoning (K : PySem.W.Frag) : Sp := sp1 fun x H Q _ => ∃ y rows, x = .ref y ∧ YdK K H y rows ∧ ∀ a H', Off y H H' → YdK K H' y rows → RkO K H' a rows → YdR K H' y a → (YdR K H y a ∨ H a = none) → (∀ a0, YdR K H y a0 → Same H H') → Q (.ref a) H'
def t_Yard_reckoning (K : PySem.W.Frag) (E : XK) : TS := (tSeq (tIfS (tTest (tOp uIs (tFld K (tVar 0) "_reckoning") (tC .non))) (sFld K (tVar 0) (tFn (sp_reckoning_of K) E (tCons (tFld K (tVar 0) "_rows") tNil)) "_reckoning") tNext) (tRet (tFld K (tVar 0) "_reckoning")))
section
variable {K : PySem.W.Frag} (F : KF K) (R : KR K) {vs : List V} {H : Hp} {Q : VK} {E : XK}
local macro_rules | `(tactic| walk_at "w") => `(tactic| try simp only [turnE, lcT, Snoc, tRet, tRetN, tAndV, tOrV, tNotV, tCB, tCons, tVar, tNil, tC, tOp, tSeq, tAsg, gName, gSub, tIfS, tDrop, tFn, tTup, tLst, tNext, tB, tTest, tNot, tAnd, tOr, tIf, tChain, tUn, rU, tFld, tPart, tNoPart, L2.tSl, tBM, tPar, tPar3, tTruth, tDNewK,
  L2.start, List.map_cons, List.map_nil, List.length_cons, List.length_nil, List.replicate_succ, List.replicate_zero, List.append_nil, List.nil_append, List.cons_append, List.singleton_append, Nat.sub_self, Nat.zero_add, Nat.reduceAdd, Nat.reduceSub,
  List.getElem?_cons_zero, List.getElem?_cons_succ, List.set_cons_zero, List.set_cons_succ, Option.some.injEq, exists_eq_left, exists_eq_left', V.int.injEq, V.bl.injEq, V.str.injEq, V.ref.injEq,
  uAdd_int, uAdd_str, uSub_int, uMul_int, uMul_str, uDiv_int, uMod_int, uPow_int, uLt_int, uLe_int, uGt_int, uGe_int, uIs_non, uNis_non, uIs_bl, uNis_bl, sp1, sp2, sp3, sp4, uEq_int, uEq_str, uNe_int, uNe_str, uSl_str, uLen_str, decide_eq_true_eq])
local macro_rules | `(tactic| walk_at "1") => `(tactic| try simp only [turnE, lcT, Snoc, tRet, tRetN, tAndV, tOrV, tNotV, tCB, tCons, tVar, tNil, tC, tOp, tAsg, gName, gSub, tIfS, tDrop, tFn, tTup, tLst, tNext, tB, tTest, tNot, tAnd, tOr, tIf, tChain, tUn, rU, tFld, tPart, tNoPart, L2.tSl, tBM, tPar, tPar3, tTruth, tDNewK,
  L2.start, List.map_cons, List.map_nil, List.length_cons, List.length_nil, List.replicate_succ, List.replicate_zero, List.append_nil, List.nil_append, List.cons_append, List.singleton_append, Nat.sub_self, Nat.zero_add, Nat.reduceAdd, Nat.reduceSub,
  List.getElem?_cons_zero, List.getElem?_cons_succ, List.set_cons_zero, List.set_cons_succ, Option.some.injEq, exists_eq_left, exists_eq_left', V.int.injEq, V.bl.injEq, V.str.injEq, V.ref.injEq,
  uAdd_int, uAdd_str, uSub_int, uMul_int, uMul_str, uDiv_int, uMod_int, uPow_int, uLt_int, uLe_int, uGt_int, uGe_int, uIs_non, uNis_non, uIs_bl, uNis_bl, sp1, sp2, sp3, sp4, uEq_int, uEq_str, uNe_int, uNe_str, uSl_str, uLen_str, decide_eq_true_eq])
local macro_rules | `(tactic| walk_at "s") => `(tactic| ((try dsimp only [turnE]); with_reducible refine seq_ ?_))

theorem RkN0.same {H' : Hp} {a : Addr} {B : Int} {qs : List (List Int)} (e : Same H H') (h : RkN0 K H a B qs) : RkN0 K H' a B qs := by
  obtain ⟨lp, lt, ⟨dx, bk, ha⟩, p1, p2⟩ := h
  exact ⟨lp, lt, ⟨dx, bk, e _ _ ha⟩, p1.same e, p2.same e⟩
theorem Bk.same {H' : Hp} {bk : V} {B : Int} {qs : List (List Int)} (e : Same H H') (h : Bk K H bk B qs) : Bk K H' bk B qs := h.imp id fun ⟨b, z, r⟩ => ⟨b, z, r.same e⟩
theorem RkO.same {H' : Hp} {a : Addr} {rows : List (List (Option Int))} (e : Same H H') (h : RkO K H a rows) : RkO K H' a rows := by
  obtain ⟨g, lp, lt, hg, ⟨dx, bk, ha, kb⟩, p1, p2⟩ := h
  exact ⟨g, lp, lt, hg, ⟨dx, bk, e _ _ ha, kb.same e⟩, p1.same e, p2.same e⟩
theorem PrB.off {H' : Hp} {y l C dx : Addr} {fs : List (Str × V)} {qs : List (List Int)} (e : Off y H H') (hy : H y = some (.ins C dx fs)) (h : PrB K H l qs) : PrB K H' l qs := by
  obtain ⟨bs, h1, h2, h3⟩ := h
  exact ⟨bs, e _ _ (by rintro rfl; rw [hy] at h1; cases h1) h1, h2, fun i b q z1 z2 => e.sqT_ins hy (h3 i b q z1 z2)⟩
theorem RkN0.off {H' : Hp} {y a dx : Addr} {fs : List (Str × V)} {B : Int} {qs : List (List Int)} (ne : He.ga K "Yard" ≠ He.ga K "Reckoning") (e : Off y H H') (hy : H y = some (.ins (He.ga K "Yard") dx fs)) (h : RkN0 K H a B qs) : RkN0 K H' a B qs := by
  obtain ⟨lp, lt, ⟨d2, bk, ha⟩, p1, p2⟩ := h
  refine ⟨lp, lt, ⟨d2, bk, e _ _ ?_ ha⟩, p1.off e hy, p2.off e hy⟩
  rintro rfl
  rw [hy] at ha
  injection ha with ha
  injection ha with h1
  exact ne h1
theorem RkO.off {H' : Hp} {y a dx : Addr} {fs : List (Str × V)} {rows : List (List (Option Int))} (ne : He.ga K "Yard" ≠ He.ga K "Reckoning") (e : Off y H H') (hy : H y = some (.ins (He.ga K "Yard") dx fs)) (h : RkO K H a rows) : RkO K H' a rows := by
  obtain ⟨g, lp, lt, hg, ⟨d2, bk, ha, kb⟩, p1, p2⟩ := h
  refine ⟨g, lp, lt, hg, ⟨d2, bk, e _ _ ?_ ha, kb.imp id fun ⟨b, z, r⟩ => ⟨b, z, r.off ne e hy⟩⟩, p1.off e hy, p2.off e hy⟩
  rintro rfl
  rw [hy] at ha
  injection ha with ha
  injection ha with h1
  exact ne h1
include F R in
theorem read_Yard_reckoning (h : sp_Yard_reckoning K vs H Q E) : t_Yard_reckoning K E { nx := fun _ H' => Q .non H', rt := Q } (start ["self"] vs) H := by
  match vs, h with
  | [_], ⟨y, rows, rfl, ⟨hy, ok, dx, t, rk, gy, hk⟩, q⟩ =>
    unfold t_Yard_reckoning
    walk_at "s"
    walk_at "1"
    refine ⟨y, _, dx, _, rk, rfl, gy, F.cl, F.na2, rfl, ?_⟩
    rcases hk with rfl | ⟨a, rfl, ra⟩
    · rw [if_pos rfl]
      simp only [sFld]
      walk_at "1"
      refine ⟨y, _, dx, _, .ref t, rfl, gy, F.cl, F.na, rfl, ?_⟩
      obtain ⟨dx0, t0, as, ⟨rk0, y1⟩, y2, y3, y4, y5, y6, y7⟩ := id hy
      obtain ⟨rfl, rfl, rfl⟩ : dx = dx0 ∧ t = t0 ∧ V.non = rk0 := by
        rw [gy] at y1
        injection y1 with y1
        injection y1 with _ e1 e2
        simp at e2
        exact ⟨e1, e2.1, e2.2⟩
      refine ⟨t, rows, rfl, ⟨as, y2, y3, y4, y6, fun r m => (y7 r m).1⟩, ok, fun a H1 s1 na ra => ?_⟩
      refine ⟨y, _, dx, _, rfl, s1 _ _ gy, F.cl, F.na2, by show (2 : Nat) < 1000; decide, ?_⟩
      have ep : putF "_reckoning" (.ref a) ([("_rows", .ref t), ("_reckoning", .non)] : List (Str × V)) = ([("_rows", .ref t), ("_reckoning", .ref a)] : List (Str × V)) := rfl
      rw [ep]
      have gy1 := s1 _ _ gy
      have o2 : Off y H1 (upd H1 y (.ins (He.ga K "Yard") dx [("_rows", .ref t), ("_reckoning", .ref a)])) := off_upd
      have g2 : upd H1 y (.ins (He.ga K "Yard") dx [("_rows", .ref t), ("_reckoning", .ref a)]) y = some (.ins (He.ga K "Yard") dx [("_rows", .ref t), ("_reckoning", .ref a)]) := upd_same
      generalize upd H1 y (.ins (He.ga K "Yard") dx [("_rows", .ref t), ("_reckoning", .ref a)]) = H2 at *
      refine ⟨y, _, dx, _, .ref a, rfl, g2, F.cl, F.na2, rfl, ?_⟩
      have ra2 := ra.off R.ne o2 gy1
      refine q a H2 (Off.trans (Same.off s1) o2) ⟨⟨dx, t, as, ⟨_, g2⟩, o2.sqT_ins gy1 (Same.sqT s1 y2), y3, y4, y5, fun i b r z1 z2 => o2.sqT_ins gy1 (Same.sqT s1 (y6 i b r z1 z2)), y7⟩, ok, dx, t, _, g2, .inr ⟨a, rfl, ra2⟩⟩ ra2 ⟨dx, t, g2⟩ (.inr na) fun a0 ⟨d0, t0, z⟩ => by
        rw [gy] at z
        simp at z
    · rw [if_neg (by simp)]
      refine ⟨y, _, dx, _, .ref a, rfl, gy, F.cl, F.na2, rfl, ?_⟩
      exact q a H Off.refl ⟨hy, ok, dx, t, _, gy, .inr ⟨a, rfl, ra⟩⟩ ra ⟨dx, t, gy⟩ (.inl ⟨dx, t, gy⟩) fun _ _ => Same.refl H
end
end U
namespace U
open PySem PySem.Spec PyProof.Rows L2

/-! ### tables and costs from tower to tower -/
/-- prices by two places -/
def prF (r : List (Option Int)) (i j : Nat) : Option Int := (r[colN i j]?).getD none
/-- the least costs from tower to tower of the k smallest crates -/
def towO (rows : List (List (Option Int))) (k : Nat) : Nat → Nat → Option Int := levelO (((rows.reverse.take k).map prF).reverse)
def ways6 : List Str := waysN.map fun w => wd [w.1, w.2]
/-- a dict of the costs for the six ways -/
def wayD (f : Nat → Nat → Option Int) : List (Key × V) := waysN.map fun w => (.inr (wd [w.1, w.2]), pV (f w.1 w.2))
theorem levelQ_stands {rows : List (List (Option Int))} {g : Int} (hg : Great rows g) (h6 : ∀ r ∈ rows, r.length = 6) : ∀ k, k ≤ rows.length → ∀ i j, i < 3 → j < 3 → i ≠ j → Stands (g * 4 ^ rows.length) (mostN g k) (towO rows k i j) (levelQ (rows.reverse.map (rowI (g * 4 ^ rows.length))) k i j) := by
  intro k
  induction k with
  | zero =>
    intro _ i j _ _ _
    exact ⟨rfl, Int.le_refl _, Int.le_refl _⟩
  | succ k ih =>
    intro hk
    have ih := ih (by omega)
    have lt : k < rows.reverse.length := by rw [List.length_reverse]; omega
    have pos : (0 : Int) ≤ g * 4 ^ rows.length := Int.mul_nonneg (Int.le_of_lt hg.1) (Int.pow_nonneg (by decide))
    have eq1 : levelQ (rows.reverse.map (rowI (g * 4 ^ rows.length))) (k + 1) = stepN (fnOf (rowI (g * 4 ^ rows.length) rows.reverse[k])) (levelQ (rows.reverse.map (rowI (g * 4 ^ rows.length))) k) := levelQ_succ (by rw [List.getElem?_map, List.getElem?_eq_getElem lt]; rfl)
    have eq2 : towO rows (k + 1) = stepO (prF rows.reverse[k]) (towO rows k) := by
      unfold towO
      rw [List.take_succ_eq_append_getElem lt, List.map_append, List.reverse_append]
      rfl
    rw [eq1, eq2]
    refine step_stands pos (Int.le_of_lt hg.1) (mostN_bound hg.1 hk) (fun i j hi hj n => ?_) ih
    have mr : rows.reverse[k] ∈ rows := List.mem_reverse.mp (List.getElem_mem lt)
    generalize rows.reverse[k] = r at *
    have l6 := h6 r mr
    have c6 : colN i j < r.length := by
      rw [l6]
      unfold colN
      split <;> omega
    unfold prF fnOf rowI
    rw [List.getElem?_map, List.getElem?_eq_getElem c6]
    have mo : r[colN i j] ∈ r := List.getElem_mem c6
    generalize r[colN i j] = o at *
    cases o with
    | none => exact Int.le_refl _
    | some v =>
      have mp : v ∈ priced rows := List.mem_flatMap.mpr ⟨r, mr, List.mem_filterMap.mpr ⟨some v, mo, rfl⟩⟩
      have := hg.2.2 v mp
      exact ⟨rfl, Int.le_of_lt this.1, this.2⟩
/-- what is told of a level's numbers -/
theorem told_level {rows : List (List (Option Int))} {g : Int} (hg : Great rows g) (h6 : ∀ r ∈ rows, r.length = 6) {k : Nat} (hk : k ≤ rows.length) : namedK (g * 4 ^ rows.length) ways6 (six (levelQ (rows.reverse.map (rowI (g * 4 ^ rows.length))) k)) = wayD (towO rows k) := by
  have st := levelQ_stands hg h6 k hk
  have told : ∀ i j, i < 3 → j < 3 → i ≠ j → toldV (g * 4 ^ rows.length) (levelQ (rows.reverse.map (rowI (g * 4 ^ rows.length))) k i j) = towO rows k i j := fun i j hi hj n => (st i j hi hj n).told (mostN_bound hg.1 hk)
  generalize levelQ (rows.reverse.map (rowI (g * 4 ^ rows.length))) k = L at *
  generalize towO rows k = T at *
  unfold namedK ways6 wayD six waysN
  simp only [List.map_cons, List.map_nil, List.zip_cons_cons, List.zip_nil_left]
  rw [told 0 1 (by decide) (by decide) (by decide), told 0 2 (by decide) (by decide) (by decide), told 1 0 (by decide) (by decide) (by decide), told 1 2 (by decide) (by decide) (by decide), told 2 0 (by decide) (by decide) (by decide), told 2 1 (by decide) (by decide) (by decide)]
end U
namespace U
open PySem PySem.Spec PyProof.Rows L2

/-- what a look at a yard's costs leaves as it was -/
structure Mild (K : PySem.W.Frag) (p : Addr) (H H' : Hp) : Prop where
  fl : ∀ b o, (∀ C dx fs, o ≠ .ins C dx fs) → H b = some o → H' b = some o
  bs : ∀ H0, Same H0 H → H0 p = none → (∀ a, YdR K H p a → H0 a = none) → Same H0 H' ∧ ∀ a, YdR K H' p a → H0 a = none
  sm : ∀ a, YdR K H p a → Same H H'
theorem YdR.same {K : PySem.W.Frag} {p a : Addr} {H H' : Hp} (h : YdR K H p a) (e : Same H H') : YdR K H' p a := by
  obtain ⟨dx, t, z⟩ := h
  exact ⟨dx, t, e _ _ z⟩
theorem Mild.trans {K : PySem.W.Frag} {p : Addr} {H H' H2 : Hp} (h : Mild K p H H') (g : Mild K p H' H2) : Mild K p H H2 where
  fl := fun b o n e => g.fl b o n (h.fl b o n e)
  bs := fun H0 s n r => by
    obtain ⟨s1, r1⟩ := h.bs H0 s n r
    exact g.bs H0 s1 n r1
  sm := fun a r => (h.sm a r).trans (g.sm a (r.same (h.sm a r)))
theorem Mild.of_same {K : PySem.W.Frag} {p : Addr} {H H' : Hp} {o : HO} (hp : H p = some o) (e : Same H H') : Mild K p H H' where
  fl := fun b o _ z => e b o z
  bs := fun H0 s n r => ⟨s.trans e, fun a ⟨dx, t, z⟩ => r a ⟨dx, t, by
    have := e p o hp
    rw [this] at z
    rw [hp]
    exact z⟩⟩
  sm := fun _ _ => e
/-- the yard gets its reckoning -/
theorem mild_reck {K : PySem.W.Frag} {p a : Addr} {H H' : Hp} {C dx : Addr} {fs : List (Str × V)} (hp : H p = some (.ins C dx fs)) (o : Off p H H') (yr : YdR K H' p a) (old : YdR K H p a ∨ H a = none) (sm : ∀ a0, YdR K H p a0 → Same H H') : Mild K p H H' := by
  refine ⟨fun b u n e => o b u (fun z => ?_) e, fun H0 s n r => ⟨fun b u e => o b u (fun z => by rw [z, n] at e; cases e) (s b u e), fun b ⟨d2, t2, z⟩ => ?_⟩, sm⟩
  · rw [z, hp] at e
    injection e with e
    exact n _ _ _ e.symm
  · obtain ⟨d1, t1, z1⟩ := yr
    have : b = a := by
      rw [z1] at z
      simp at z
      exact z.2.2.symm
    subst this
    rcases old with h | h
    · exact r b h
    · cases e : H0 b with
      | none => rfl
      | some u => rw [s b u e] at h; cases h
/-! ### refusals -/
def BadY (K : PySem.W.Frag) (H : Hp) (y : V) (E : XK) : Prop := ∃ a, Is K H y a ∧ (a ≠ .yard ∧ Rz K "InvalidYard" "value" y H E)
theorem BadY.or {K : PySem.W.Frag} {H : Hp} {y : V} {E : XK} {k : List (List (Option Int)) → Prop} (h : BadY K H y E) : YardOr K H y E k := by
  obtain ⟨a, h1, h2, h3⟩ := h
  exact ⟨a, h1, fun _ => h3, fun z => (h2 z).elim⟩
theorem BadY.chk {K : PySem.W.Frag} {H : Hp} {y : V} {E : XK} {Q : VK} (h : BadY K H y E) : sp_check_yard K [y] H Q E := by
  obtain ⟨a, h1, h2, h3⟩ := h
  exact ⟨a, h1, fun z => (h2 z).elim, fun _ => h3⟩
def BadW (K : PySem.W.Frag) (H : Hp) (x : V) (E : XK) : Prop := ∃ a, Is K H x a ∧ (isWy x = false ∧ Rz K "InvalidWay" "value" x H E)
theorem BadW.chk {K : PySem.W.Frag} {H : Hp} {y : V} {E : XK} {Q : VK} (h : BadW K H y E) : sp_check_way K [y] H Q E := by
  obtain ⟨a, h1, h2, h3⟩ := h
  exact ⟨a, h1, fun z => by rw [h2] at z; (cases z), fun _ => h3⟩
end U
namespace U
open PySem PySem.Spec PyProof.Rows L2

/-- a list of new objects of any kind -/
theorem lc_freshO {J : It} {G : Hp → Prop} {xs : List V} (P : Plain J xs G) (f : Nat → HO) {te : TE} {j : Nat} {σ : L2.St} {H : Hp} {D : Addr} {Qd : Hp → Prop} (hD : H D = none) (hl : xs.length ≤ 1000) (hG : ∀ H', Same H H' → G H')
    (hs : ∀ i x H2 (Q : VK), xs[i]? = some x → Same H H2 → (∀ l H3, H2 l = none → Same H2 H3 → H3 l = some (f i) → Q (.ref l) H3) → te (σ.set j (some x)) H2 Q)
    (hd : ∀ (H2 : Hp) (ls : List Addr), Same H H2 → ls.length = xs.length → H2 D = some (.lst (ls.map V.ref)) → (∀ (i : Nat) (l : Addr), ls[i]? = some l → H2 l = some (f i)) → ls.Nodup → D ∉ ls → (∀ l ∈ ls, H l = none) → Qd H2) : LcB J (gName j) tYes te [j] σ H D Qd := by
  refine lc_plain P (fun i H' => Same H H' ∧ ∃ ls : List Addr, H' D = some (.lst (ls.map V.ref)) ∧ ls.length = i ∧ D ∉ ls ∧ (∀ (j : Nat) (a : Addr), ls[j]? = some a → H' a = some (f j)) ∧ ls.Nodup ∧ ∀ l ∈ ls, H l = none)
    ⟨same_new hD, [], upd_same, rfl, (fun m => nomatch m), (fun j a z => nomatch z), .nil, fun l m => nomatch m⟩ (fun i H' z => hG _ z.1) ?_ (fun H2 ⟨s2, ls, gD, hl, nD, at_, nd, fr⟩ => hd H2 ls s2 hl gD at_ nd nD fr)
  rintro i x H2 hx ⟨s2, ls, gD, hll, nD, at_, nd, fr⟩
  have hi : i < xs.length := (List.getElem?_eq_some_iff.mp hx).1
  show wipe _ [j] = wipe σ [j] ∧ _
  refine ⟨by simp only [wipe, List.set_set], ?_⟩
  show te ((σ.set j none).set j (some x)) H2 _
  rw [List.set_set]
  refine hs i x H2 _ hx s2 fun l H3 nl s3 gl => ?_
  have lD : l ≠ D := by rintro rfl; rw [gD] at nl; cases nl
  have lls : l ∉ ls := fun m => by
    obtain ⟨k, lt, e⟩ := List.mem_iff_getElem.mp m
    have := at_ k l (by rw [← e]; exact List.getElem?_eq_getElem lt)
    rw [this] at nl
    cases nl
  refine ⟨_, s3 _ _ gD, ?_, (Off.trans (Same.off (s2.trans s3)) off_upd).same hD, ls ++ [l], by rw [upd_same]; simp, by simp [hll], ?_, ?_, ?_, ?_⟩
  · rw [List.length_map, hll]
    exact Nat.lt_of_lt_of_le (show i < 1001 by omega) (by decide)
  · rintro m
    rcases List.mem_append.mp m with m | m
    · exact nD m
    · exact lD (List.mem_singleton.mp m).symm
  · rintro k y z1
    have yD : y ≠ D := by
      rintro rfl
      rcases List.mem_append.mp (List.mem_of_getElem? z1) with m | m
      · exact nD m
      · exact lD (List.mem_singleton.mp m).symm
    rw [upd_ne yD]
    by_cases e : k < ls.length
    · rw [List.getElem?_append_left e] at z1
      exact s3 _ _ (at_ k y z1)
    · have e2 : k = ls.length := by
        have := (List.getElem?_eq_some_iff.mp z1).1
        simp at this
        omega
      subst e2
      rw [List.getElem?_append_right (Nat.le_refl _), Nat.sub_self] at z1
      cases z1
      rw [← hll] at gl
      exact gl
  · rw [List.nodup_append]
    refine ⟨nd, by simp, fun x hx y hy => ?_⟩
    rw [List.mem_singleton.mp hy]
    rintro rfl
    exact lls hx
  · intro y m
    rcases List.mem_append.mp m with m | m
    · exact fr y m
    · rw [List.mem_singleton.mp m]
      cases e : H l with
      | none => rfl
      | some o => rw [s2 _ _ e] at nl; cases nl
/-- new dicts of the levels, a list of them -/
def Tables (H0 H : Hp) (l : Addr) (rows : List (List (Option Int))) : Prop := ∃ ls : List Addr, H l = some (.lst (ls.map V.ref)) ∧ ls.length = rows.length + 1 ∧ (∀ (k : Nat) (d : Addr), ls[k]? = some d → H d = some (.dK (wayD (towO rows k)))) ∧ ls.Nodup ∧ l ∉ ls ∧ H0 l = none ∧ ∀ d ∈ ls, H0 d = none
def sp_tables (K : PySem.W.Frag) : Sp := sp1 fun x H Q E => BadY K H x E ∨ ∃ y rows, x = .ref y ∧ YdK K H y rows ∧ ∀ l H1 H', Mild K y H H1 → YdK K H1 y rows → (∃ a, YdR K H1 y a) → Same H1 H' → Tables H1 H' l rows → Q (.ref l) H'
def sp_tower_cost (K : PySem.W.Frag) : Sp := sp2 fun x z H Q E => BadY K H x E ∨ ∃ y rows, x = .ref y ∧ YdK K H y rows ∧ (BadW K H z E ∨ ∃ i j, z = .str (wd [i, j]) ∧ i < 3 ∧ j < 3 ∧ i ≠ j ∧ ∀ H', Mild K y H H' → YdK K H' y rows → Q (pV (towO rows rows.length i j)) H')
def t_tables (K : PySem.W.Frag) (E : XK) : TS := (tSeq (tDrop (tFn (sp_check_yard K) E (tCons (tVar 0) tNil))) (tSeq (tAsg (tMeth (He.ga K "Yard") "reckoning" (sp_Yard_reckoning K) [] E (tVar 0) tNil) (gName 1)) (tRet (tLc (iSeq K (tFld K (tVar 1) "towers")) (gName 2) tYes (tMeth (He.ga K "Reckoning") "named" (sp_Reckoning_named K) [] E0 (tVar 1) (tCons (tC (.ref (He.ga K "WAYS"))) (tCons (tVar 2) tNil))) [2]))))
def t_tower_cost (K : PySem.W.Frag) (E : XK) : TS := (tSeq (tDrop (tFn (sp_check_yard K) E (tCons (tVar 0) tNil))) (tSeq (tDrop (tFn (sp_check_way K) E (tCons (tVar 1) tNil))) (tSeq (tAsg (tMeth (He.ga K "Yard") "reckoning" (sp_Yard_reckoning K) [] E (tVar 0) tNil) (gName 2)) (tRet (tMeth (He.ga K "Reckoning") "told" (sp_Reckoning_told K) [] E (tVar 2) (tCons (tOp (uIx K) (tOp (uIx K) (tFld K (tVar 2) "towers") (tUn (rU fun i => .int (-i)) (tC (.int 1)))) (tOp (rCol K) (tC (.ref (He.ga K "COLUMNS"))) (tVar 1))) tNil))))))
section
variable {K : PySem.W.Frag} (F : KF K) (R : KR K) {vs : List V} {H : Hp} {Q : VK} {E : XK}
local macro_rules | `(tactic| walk_at "w") => `(tactic| try simp only [turnE, lcT, Snoc, tRet, tRetN, tAndV, tOrV, tNotV, tCB, tCons, tVar, tNil, tC, tOp, tSeq, tAsg, gName, gSub, tIfS, tDrop, tFn, tTup, tLst, tNext, tB, tTest, tNot, tAnd, tOr, tIf, tChain, tUn, rU, tFld, tPart, tNoPart, L2.tSl, tBM, tPar, tPar3, tTruth, tDNewK,
  L2.start, List.map_cons, List.map_nil, List.length_cons, List.length_nil, List.replicate_succ, List.replicate_zero, List.append_nil, List.nil_append, List.cons_append, List.singleton_append, Nat.sub_self, Nat.zero_add, Nat.reduceAdd, Nat.reduceSub,
  List.getElem?_cons_zero, List.getElem?_cons_succ, List.set_cons_zero, List.set_cons_succ, Option.some.injEq, exists_eq_left, exists_eq_left', V.int.injEq, V.bl.injEq, V.str.injEq, V.ref.injEq,
  uAdd_int, uAdd_str, uSub_int, uMul_int, uMul_str, uDiv_int, uMod_int, uPow_int, uLt_int, uLe_int, uGt_int, uGe_int, uIs_non, uNis_non, uIs_bl, uNis_bl, sp1, sp2, sp3, sp4, uEq_int, uEq_str, uNe_int, uNe_str, uSl_str, uLen_str, decide_eq_true_eq])
local macro_rules | `(tactic| walk_at "1") => `(tactic| try simp only [turnE, lcT, Snoc, tRet, tRetN, tAndV, tOrV, tNotV, tCB, tCons, tVar, tNil, tC, tOp, tAsg, gName, gSub, tIfS, tDrop, tFn, tTup, tLst, tNext, tB, tTest, tNot, tAnd, tOr, tIf, tChain, tUn, rU, tFld, tPart, tNoPart, L2.tSl, tBM, tPar, tPar3, tTruth, tDNewK,
  L2.start, List.map_cons, List.map_nil, List.length_cons, List.length_nil, List.replicate_succ, List.replicate_zero, List.append_nil, List.nil_append, List.cons_append, List.singleton_append, Nat.sub_self, Nat.zero_add, Nat.reduceAdd, Nat.reduceSub,
  List.getElem?_cons_zero, List.getElem?_cons_succ, List.set_cons_zero, List.set_cons_succ, Option.some.injEq, exists_eq_left, exists_eq_left', V.int.injEq, V.bl.injEq, V.str.injEq, V.ref.injEq,
  uAdd_int, uAdd_str, uSub_int, uMul_int, uMul_str, uDiv_int, uMod_int, uPow_int, uLt_int, uLe_int, uGt_int, uGe_int, uIs_non, uNis_non, uIs_bl, uNis_bl, sp1, sp2, sp3, sp4, uEq_int, uEq_str, uNe_int, uNe_str, uSl_str, uLen_str, decide_eq_true_eq])
local macro_rules | `(tactic| walk_at "s") => `(tactic| ((try dsimp only [turnE]); with_reducible refine seq_ ?_))

theorem len6_of {y : Addr} {rows : List (List (Option Int))} (h : Yd K H y rows) : ∀ r ∈ rows, r.length = 6 := by
  obtain ⟨dx, t, as, _, _, _, _, _, _, y7⟩ := h
  exact fun r m => (y7 r m).1
theorem YdK.same {H' : Hp} {y : Addr} {rows : List (List (Option Int))} (e : Same H H') (h : YdK K H y rows) : YdK K H' y rows := by
  obtain ⟨h1, h2, dx, t, rk, gy, hk⟩ := h
  refine ⟨h1.same e, h2, dx, t, rk, e _ _ gy, ?_⟩
  rcases hk with rfl | ⟨a, rfl, ra⟩
  · exact .inl rfl
  · exact .inr ⟨a, rfl, ra.same e⟩
include F R in
theorem read_tables (h : sp_tables K vs H Q E) : t_tables K E { nx := fun _ H' => Q .non H', rt := Q } (start ["yard", "reckoning", "towers"] vs) H := by
  match vs, h with
  | [_], .inl bad =>
    unfold t_tables
    walk_at "s"
    walk_at "1"
    exact bad.chk
  | [_], .inr ⟨y, rows, rfl, hy, q⟩ =>
    obtain ⟨h1, ok, dx, t, rk, gy, hk⟩ := id hy
    have h6 := len6_of h1
    have h60 : rows.length ≤ 60 := by
      obtain ⟨_, _, _, _, _, _, y4, _⟩ := h1
      exact y4
    unfold t_tables
    walk_at "s"
    walk_at "1"
    refine ⟨.yard, is_yard F gy, fun _ => ?_, fun z => (z rfl).elim⟩
    walk_at "s"
    simp only [tMeth]
    walk_at "1"
    refine ⟨.ref y, rfl, y, dx, _, rfl, gy, rfl, y, rows, rfl, hy, fun a H1 o1 hy1 ra yr old sm => ?_⟩
    obtain ⟨g, lp, lt, hg, ⟨da, bk, ga, kb⟩, p1, cs, c1, c2, c3⟩ := id ra
    refine tLc_inN ?_
    walk_at "1"
    refine ⟨a, _, da, _, .ref lt, rfl, ga, R.cl, R.towers, rfl, lt, rfl, ⟨_, .inl (.inl c1)⟩, fun D hD => ?_⟩
    refine lc_freshO (plain_L (K := K) (a := lt) (xs := cs.map V.ref)) (fun k => .dK (wayD (towO rows k))) hD ?_ (fun H' s => .inl (.inl (s _ _ c1))) ?_ ?_
    · rw [List.length_map, c2]
      unfold towersL
      rw [List.length_map, List.length_range, List.length_map, List.length_reverse]
      omega
    · intro i x H2 Q2 hx s2 go
      rw [List.getElem?_map] at hx
      obtain ⟨c, hc, rfl⟩ := Option.map_eq_some_iff.mp hx
      have li : i < rows.length + 1 := by
        have := (List.getElem?_eq_some_iff.mp hc).1
        rw [c2] at this
        unfold towersL at this
        rw [List.length_map, List.length_range, List.length_map, List.length_reverse] at this
        exact this
      have tq := Same.sqT s2 (c3 i c (six (levelQ (rows.reverse.map (rowI (g * 4 ^ rows.length))) i)) hc (by
        unfold towersL
        rw [List.getElem?_map, List.getElem?_range (by rw [List.length_map, List.length_reverse]; exact li)]
        rfl))
      have wy : SqT K H2 (He.ga K "WAYS") (ways6.map V.str) := F.ways H2
      refine ⟨.ref a, rfl, a, da, _, rfl, s2 _ _ ga, rfl, .ref c, rfl, a, _, _, _, _, c, ways6, _, rfl, ⟨da, bk, s2 _ _ ga⟩, rfl, rfl, wy, tq, by decide +kernel, by decide +kernel, rfl, fun r H3 s3 nr gr => ?_⟩
      rw [told_level hg h6 (by omega)] at gr
      exact go r H3 nr s3 gr
    · intro H2 ls s2 hl gD at_ nd nD fr
      refine q D H1 H2 (mild_reck gy o1 yr old sm) hy1 ⟨a, yr⟩ s2 ⟨ls, gD, ?_, at_, nd, nD, hD, fr⟩
      rw [hl, List.length_map, c2]
      unfold towersL
      rw [List.length_map, List.length_range, List.length_map, List.length_reverse]
theorem is_way {i j : Nat} (hi : i < 3) (hj : j < 3) (n : i ≠ j) : isWy (.str (wd [i, j])) = true := by
  rcases (show i = 0 ∧ j = 1 ∨ i = 0 ∧ j = 2 ∨ i = 1 ∧ j = 0 ∨ i = 1 ∧ j = 2 ∨ i = 2 ∧ j = 0 ∨ i = 2 ∧ j = 1 by omega) with ⟨rfl, rfl⟩ | ⟨rfl, rfl⟩ | ⟨rfl, rfl⟩ | ⟨rfl, rfl⟩ | ⟨rfl, rfl⟩ | ⟨rfl, rfl⟩ <;> decide +kernel
theorem six_at (f : Nat → Nat → Int) {i j : Nat} (hi : i < 3) (hj : j < 3) (n : i ≠ j) : (six f)[wayI i j]? = some (f i j) := by
  rcases (show i = 0 ∧ j = 1 ∨ i = 0 ∧ j = 2 ∨ i = 1 ∧ j = 0 ∨ i = 1 ∧ j = 2 ∨ i = 2 ∧ j = 0 ∨ i = 2 ∧ j = 1 by omega) with ⟨rfl, rfl⟩ | ⟨rfl, rfl⟩ | ⟨rfl, rfl⟩ | ⟨rfl, rfl⟩ | ⟨rfl, rfl⟩ | ⟨rfl, rfl⟩ <;> rfl
include F R in
theorem read_tower_cost (h : sp_tower_cost K vs H Q E) : t_tower_cost K E { nx := fun _ H' => Q .non H', rt := Q } (start ["yard", "way", "reckoning"] vs) H := by
  match vs, h with
  | [_, _], .inl bad =>
    unfold t_tower_cost
    walk_at "s"
    walk_at "1"
    exact bad.chk
  | [_, _], .inr ⟨y, rows, rfl, hy, .inl bad⟩ =>
    obtain ⟨_, _, dx, t, rk, gy, _⟩ := id hy
    unfold t_tower_cost
    walk_at "s"
    walk_at "1"
    refine ⟨.yard, is_yard F gy, fun _ => ?_, fun z => (z rfl).elim⟩
    walk_at "s"
    walk_at "1"
    exact bad.chk
  | [_, _], .inr ⟨y, rows, rfl, hy, .inr ⟨i, j, rfl, hi, hj, n, q⟩⟩ =>
    obtain ⟨h1, ok, dx, t, rk, gy, hk⟩ := id hy
    have h6 := len6_of h1
    unfold t_tower_cost
    walk_at "s"
    walk_at "1"
    refine ⟨.yard, is_yard F gy, fun _ => ?_, fun z => (z rfl).elim⟩
    walk_at "s"
    walk_at "1"
    refine ⟨.str, is_str _, fun _ => ?_, fun z => by rw [is_way hi hj n] at z; cases z⟩
    walk_at "s"
    walk_at "1"
    refine ⟨.ref y, rfl, y, dx, _, rfl, gy, rfl, y, rows, rfl, hy, fun a H1 o1 hy1 ra yr old sm => ?_⟩
    obtain ⟨g, lp, lt, hg, ⟨da, bk, ga, kb⟩, p1, cs, c1, c2, c3⟩ := id ra
    have lc : cs.length = rows.length + 1 := by
      rw [c2]
      unfold towersL
      rw [List.length_map, List.length_range, List.length_map, List.length_reverse]
    obtain ⟨c, hc⟩ : ∃ c, cs[rows.length]? = some c := ⟨_, List.getElem?_eq_getElem (by omega)⟩
    have tq := c3 rows.length c (six (levelQ (rows.reverse.map (rowI (g * 4 ^ rows.length))) rows.length)) hc (by
      unfold towersL
      rw [List.getElem?_map, List.getElem?_range (by rw [List.length_map, List.length_reverse]; omega)]
      rfl)
    refine ⟨.ref a, rfl, a, da, _, rfl, ga, rfl, ?_⟩
    walk_at "1"
    refine ⟨a, _, da, _, .ref lt, rfl, ga, R.cl, R.towers, rfl, ?_⟩
    refine ⟨_, .ref c, .inl (.inl (.inl c1)), at_end (n := rows.length) (by rw [List.length_map, lc]) (by rw [List.getElem?_map, hc]; rfl), ?_⟩
    refine col_of hi hj n ⟨_, .int (levelQ (rows.reverse.map (rowI (g * 4 ^ rows.length))) rows.length i j), .inr tq, at_nat (by unfold iV; rw [List.getElem?_map, six_at _ hi hj n]; rfl), ?_⟩
    refine ⟨a, _, _, _, _, rfl, ⟨da, bk, ga⟩, rfl, ?_⟩
    rw [show toldV (g * 4 ^ rows.length) (levelQ (rows.reverse.map (rowI (g * 4 ^ rows.length))) rows.length i j) = towO rows rows.length i j from (levelQ_stands hg h6 rows.length (Nat.le_refl _) i j hi hj n).told (mostN_bound hg.1 (Nat.le_refl _))]
    exact q H1 (mild_reck gy o1 yr old sm) hy1
end
end U
namespace U
open PySem PySem.Spec PyProof.Rows L2

/-! ### the ways on which a crate moves just once -/
def strN (f D : Nat → Nat → Int) (B : Int) (w : Nat × Nat) : Bool := decide (lineS f D w.1 w.2 < B) && decide (lineS f D w.1 w.2 ≤ lineT2 f D w.1 w.2)
def wayV (w : Nat × Nat) : V := .str (wd [w.1, w.2])
def sp__straight_ways (K : PySem.W.Frag) : Sp := sp3 fun x y z H Q _ => ∃ p b f D B, x = .ref p ∧ y = .ref b ∧ z = .int B ∧ SqT K H p (iV (six f)) ∧ SqT K H b (iV (six D)) ∧ ∀ l H', Same H H' → H l = none → H' l = some (.lst ((waysN.filter (strN f D B)).map wayV)) → Q (.ref l) H'
def t__straight_ways (K : PySem.W.Frag) (E : XK) : TS := (tSeq (tAsg (tFn (sp_from_each_tower K) E (tCons (tVar 1) tNil)) (gName 3)) (tSeq (tAsg (tFn (sp_from_each_tower K) E (tCons (tFn (sp_turned K) E (tCons (tVar 1) tNil)) tNil)) (gName 4)) (tSeq (tAsg (tLst tNil) (gName 5)) (tSeq (tFor (iSeq K (tC (.ref (He.ga K "WAYS")))) (gName 6) (tSeq (tAsg (tFn (sp_both_lines K) E (tCons (tVar 6) (tCons (tVar 0) (tCons (tVar 1) (tCons (tDGet (tVar 3) (tOp (uIx K) (tVar 6) (tC (.int 0)))) (tCons (tDGet (tVar 4) (tOp (uIx K) (tVar 6) (tC (.int 1)))) tNil)))))) (gTup K 2 (gCons (gName 7) (gCons (gName 8) gNil)))) (tIfS (tAnd (tTest (tOp uLt (tVar 7) (tVar 2))) (tTest (tOp uLe (tVar 7) (tVar 8)))) (tDrop (tBM K "list" rAppend (tVar 5) (tCons (tVar 6) tNil))) tNext))) (tRet (tVar 5))))))
section
variable {K : PySem.W.Frag} (F : KF K) {vs : List V} {H : Hp} {Q : VK} {E : XK}
local macro_rules | `(tactic| walk_at "w") => `(tactic| try simp only [turnE, lcT, Snoc, tRet, tRetN, tAndV, tOrV, tNotV, tCB, tCons, tVar, tNil, tC, tOp, tSeq, tAsg, gName, gSub, tIfS, tDrop, tFn, tTup, tLst, tNext, tB, tTest, tNot, tAnd, tOr, tIf, tChain, tUn, rU, tFld, tPart, tNoPart, L2.tSl, tBM, tPar, tPar3, tTruth, tDNewK,
  L2.start, List.map_cons, List.map_nil, List.length_cons, List.length_nil, List.replicate_succ, List.replicate_zero, List.append_nil, List.nil_append, List.cons_append, List.singleton_append, Nat.sub_self, Nat.zero_add, Nat.reduceAdd, Nat.reduceSub,
  List.getElem?_cons_zero, List.getElem?_cons_succ, List.set_cons_zero, List.set_cons_succ, Option.some.injEq, exists_eq_left, exists_eq_left', V.int.injEq, V.bl.injEq, V.str.injEq, V.ref.injEq,
  uAdd_int, uAdd_str, uSub_int, uMul_int, uMul_str, uDiv_int, uMod_int, uPow_int, uLt_int, uLe_int, uGt_int, uGe_int, uIs_non, uNis_non, uIs_bl, uNis_bl, sp1, sp2, sp3, sp4, uEq_int, uEq_str, uNe_int, uNe_str, uSl_str, uLen_str, decide_eq_true_eq])
local macro_rules | `(tactic| walk_at "1") => `(tactic| try simp only [turnE, lcT, Snoc, tRet, tRetN, tAndV, tOrV, tNotV, tCB, tCons, tVar, tNil, tC, tOp, tAsg, gName, gSub, tIfS, tDrop, tFn, tTup, tLst, tNext, tB, tTest, tNot, tAnd, tOr, tIf, tChain, tUn, rU, tFld, tPart, tNoPart, L2.tSl, tBM, tPar, tPar3, tTruth, tDNewK,
  L2.start, List.map_cons, List.map_nil, List.length_cons, List.length_nil, List.replicate_succ, List.replicate_zero, List.append_nil, List.nil_append, List.cons_append, List.singleton_append, Nat.sub_self, Nat.zero_add, Nat.reduceAdd, Nat.reduceSub,
  List.getElem?_cons_zero, List.getElem?_cons_succ, List.set_cons_zero, List.set_cons_succ, Option.some.injEq, exists_eq_left, exists_eq_left', V.int.injEq, V.bl.injEq, V.str.injEq, V.ref.injEq,
  uAdd_int, uAdd_str, uSub_int, uMul_int, uMul_str, uDiv_int, uMod_int, uPow_int, uLt_int, uLe_int, uGt_int, uGe_int, uIs_non, uNis_non, uIs_bl, uNis_bl, sp1, sp2, sp3, sp4, uEq_int, uEq_str, uNe_int, uNe_str, uSl_str, uLen_str, decide_eq_true_eq])
local macro_rules | `(tactic| walk_at "s") => `(tactic| ((try dsimp only [turnE]); with_reducible refine seq_ ?_))

theorem tFor_seqT {t : TE} {g : TG} {tb : TS} {D : Ends} {σ : L2.St} (h : t σ H fun x H1 => ∃ a, x = .ref a ∧ (∃ xs, SqT K H1 a xs) ∧ tFor (fun _ H' R => R (Itt K a) H') g tb D σ H1) : tFor (iSeq K t) g tb D σ H := .inr h
theorem each_at {r : Addr} {D : Nat → Nat → Int} {i : Nat} (h : Each H r D) (hi : i < 3) : ∃ q, DGet H r (.str (wd [i])) (some (.ref q)) ∧ H q = some (.tup (iV (three (dd D i)))) := by
  obtain ⟨q0, q1, q2, h1, h2, h3, h4⟩ := h
  match i, hi with
  | 0, _ => exact ⟨q0, DGet.k (k := .inr "a") h1, h2⟩
  | 1, _ => exact ⟨q1, DGet.k (k := .inr "b") h1, h3⟩
  | 2, _ => exact ⟨q2, DGet.k (k := .inr "c") h1, h4⟩
theorem Each.same {H' : Hp} {r : Addr} {D : Nat → Nat → Int} (e : Same H H') (h : Each H r D) : Each H' r D := by
  obtain ⟨q0, q1, q2, h1, h2, h3, h4⟩ := h
  exact ⟨q0, q1, q2, e _ _ h1, e _ _ h2, e _ _ h3, e _ _ h4⟩
theorem line_one {f D : Nat → Nat → Int} {i j : Nat} (hi : i < 3) (hj : j < 3) (n : i ≠ j) : bl1 f (dd D i) (dd (fun a b => D b a) j) i j = lineS f D i j := by
  unfold bl1 lineS dd
  repeat rw [if_neg (by omega)]
theorem line_two {f D : Nat → Nat → Int} {i j : Nat} (hi : i < 3) (hj : j < 3) (n : i ≠ j) : bl2 f D (dd D i) (dd (fun a b => D b a) j) i j = lineT2 f D i j := by
  unfold bl2 lineT2 dd
  repeat rw [if_neg (by omega)]
include F in
theorem read__straight_ways (h : sp__straight_ways K vs H Q E) : t__straight_ways K E { nx := fun _ H' => Q .non H', rt := Q } (start ["prices", "towers", "bound", "to_towers", "from_towers", "ways", "way", "straight", "turning"] vs) H := by
  match vs, h with
  | [_, _, _], ⟨p, b, f, D, B, rfl, rfl, rfl, hp, hb, q⟩ =>
    unfold t__straight_ways
    walk_at "s"
    walk_at "1"
    refine ⟨b, D, rfl, hb, fun r1 H1 s1 n1 e1 => ?_⟩
    walk_at "s"
    walk_at "1"
    refine ⟨b, D, rfl, Same.sqT s1 hb, fun r0 H2 s2 n2 g2 => ?_⟩
    refine ⟨r0, fun a b => D b a, rfl, .inl (.inl g2), fun r2 H3 s3 n3 e3 => ?_⟩
    walk_at "s"
    walk_at "1"
    refine ⟨by decide, fun l nl => ?_⟩
    have s13 := s1.trans (s2.trans s3)
    have s4 : Same H3 (upd H3 l (.lst [])) := same_new nl
    have g4 : upd H3 l (.lst []) l = some (.lst []) := upd_same
    generalize upd H3 l (.lst []) = H4 at *
    walk_at "s"
    refine tFor_seqT ?_
    refine ⟨He.ga K "WAYS", rfl, ⟨_, F.ways H4⟩, ?_⟩
    have fT : Same H H4 := s13.trans s4
    have e14 : Each H4 r1 D := e1.same (s2.trans (s3.trans s4))
    have e34 : Each H4 r2 fun a b => D b a := e3.same s4
    refine for_plain (plain_T (K := K) (a := He.ga K "WAYS") (xs := waysN.map wayV)) (fun R r => r)
      (fun k τ H' => (∃ o6 o7 o8, τ = [some (.ref p), some (.ref b), some (.int B), some (.ref r1), some (.ref r2), some (.ref l), o6, o7, o8]) ∧ Same H3 H' ∧ H' l = some (.lst (((waysN.take k).filter (strN f D B)).map wayV)))
      ⟨⟨_, _, _, rfl⟩, s4, g4⟩ (fun k τ H' z => F.ways H') ?_ ?_
    · rintro k x τ H5 hx ⟨⟨o6, o7, o8, rfl⟩, s5, g5⟩
      rw [List.getElem?_map] at hx
      obtain ⟨w, hw, rfl⟩ := Option.map_eq_some_iff.mp hx
      obtain ⟨w1, w2, w3⟩ := waysN_ok w (List.mem_of_getElem? hw)
      have et : ((waysN.take (k + 1)).filter (strN f D B)) = ((waysN.take k).filter (strN f D B)) ++ [w].filter (strN f D B) := by
        rw [List.take_succ_eq_append_getElem (List.getElem?_eq_some_iff.mp hw).1, List.filter_append, (List.getElem?_eq_some_iff.mp hw).2]
      obtain ⟨i, j⟩ := w
      dsimp only at w1 w2 w3
      simp only [gName, List.set_cons_zero, List.set_cons_succ]
      walk_at "s"
      walk_at "1"
      obtain ⟨q1, d1, m1⟩ := each_at (e1.same (s2.trans (s3.trans s5))) w1
      obtain ⟨q2, d2, m2⟩ := each_at (e3.same s5) w2
      have ix0 : ∀ {Q2 : VK} {H6 : Hp}, Q2 (.str (wd [i])) H6 → uIx K (wayV (i, j)) (.int 0) H6 Q2 := fun z => ⟨by show (wd [i, j]).length ≤ sizeLine; rw [wd_length]; exact (by decide : (2 : Nat) ≤ sizeLine), _, rfl, z⟩
      have ix1 : ∀ {Q2 : VK} {H6 : Hp}, Q2 (.str (wd [j])) H6 → uIx K (wayV (i, j)) (.int 1) H6 Q2 := fun z => ⟨by show (wd [i, j]).length ≤ sizeLine; rw [wd_length]; exact (by decide : (2 : Nat) ≤ sizeLine), _, rfl, z⟩
      simp only [tDGet]
      walk_at "1"
      refine ix0 ?_
      refine ⟨r1, .ref q1, rfl, d1, ?_⟩
      walk_at "1"
      refine ix1 ?_
      refine ⟨r2, .ref q2, rfl, d2, ?_⟩
      refine ⟨i, j, p, b, q1, q2, f, D, dd D i, dd (fun a b => D b a) j, rfl, w1, w2, w3, rfl, rfl, rfl, rfl, Same.sqT (s13.trans s5) hp, Same.sqT (s13.trans s5) hb, .inl (.inl m1), .inl (.inl m2), fun r H6 s6 n6 g6 => ?_⟩
      rw [line_one w1 w2 w3, line_two w1 w2 w3] at g6
      refine pair_in g6 ?_
      simp only [List.set_cons_zero, List.set_cons_succ]
      walk_at "1"
      have g56 := s6 _ _ g5
      have nope : strN f D B (i, j) = false → (∃ o6 o7 o8, [some (V.ref p), some (V.ref b), some (V.int B), some (V.ref r1), some (V.ref r2), some (V.ref l), some (wayV (i, j)), some (V.int (lineS f D i j)), some (V.int (lineT2 f D i j))] = [some (V.ref p), some (V.ref b), some (V.int B), some (V.ref r1), some (V.ref r2), some (V.ref l), o6, o7, o8]) ∧ Same H3 H6 ∧ H6 l = some (.lst (((waysN.take (k + 1)).filter (strN f D B)).map wayV)) := fun z => by
        refine ⟨⟨_, _, _, rfl⟩, s5.trans s6, ?_⟩
        rw [et, List.filter_cons_of_neg (by rw [z]; decide), List.filter_nil, List.append_nil]
        exact g56
      by_cases c1 : lineS f D i j < B
      · rw [if_pos c1]
        by_cases c2 : lineS f D i j ≤ lineT2 f D i j
        · rw [if_pos c2]
          have z : strN f D B (i, j) = true := by
            unfold strN
            rw [decide_eq_true c1, decide_eq_true c2]
            rfl
          refine ⟨Or.inl ⟨rfl, _, .inl (.inl g56)⟩, l, _, _, rfl, rfl, g56, ?_, ⟨_, _, _, rfl⟩, ?_, ?_⟩
          · have := List.length_filter_le (strN f D B) (waysN.take k)
            rw [List.length_take] at this
            simp only [List.length_map, sizeLine_eq]
            have : waysN.length = 6 := rfl
            omega
          · exact (Off.trans (Same.off (s5.trans s6)) off_upd).same nl
          · rw [upd_same, et, List.filter_cons_of_pos z, List.filter_nil, List.map_append]
            rfl
        · rw [if_neg c2]
          exact nope (by unfold strN; rw [decide_eq_false c2, Bool.and_false])
      · rw [if_neg c1, if_neg (by decide)]
        exact nope (by unfold strN; rw [decide_eq_false c1, Bool.false_and])
    · rintro τ H5 ⟨⟨o6, o7, o8, rfl⟩, s5, g5⟩
      exact ⟨_, rfl, q l H5 (s13.trans s5) (s13.free nl) g5⟩
end
end U
namespace U
open PySem PySem.Spec PyProof.Rows L2

/-- new objects, one for each pair -/
theorem lc_freshZ {K : PySem.W.Frag} {J : It} {G : Hp → Prop} {xs ys : List V} (Z : Zipped J xs ys G) (f : Nat → HO) {te : TE} {u v : Nat} {σ : L2.St} (hw : ∀ x y, wipe (((wipe σ [u, v]).set u (some x)).set v (some y)) [u, v] = wipe σ [u, v]) {H : Hp} {D : Addr} {Qd : Hp → Prop} (hD : H D = none) (hl : min xs.length ys.length ≤ 1000) (hG : ∀ H', Same H H' → G H')
    (hs : ∀ i x y H2 (Q : VK), xs[i]? = some x → ys[i]? = some y → Same H H2 → (∀ l H3, H2 l = none → Same H2 H3 → H3 l = some (f i) → Q (.ref l) H3) → te (((wipe σ [u, v]).set u (some x)).set v (some y)) H2 Q)
    (hd : ∀ (H2 : Hp) (ls : List Addr), Same H H2 → ls.length = min xs.length ys.length → H2 D = some (.lst (ls.map V.ref)) → (∀ (i : Nat) (l : Addr), ls[i]? = some l → H2 l = some (f i)) → ls.Nodup → D ∉ ls → (∀ l ∈ ls, H l = none) → Qd H2) : LcB J (gTup K 2 (gCons (gName u) (gCons (gName v) gNil))) tYes te [u, v] σ H D Qd := by
  refine lc_zip Z (fun i H' => Same H H' ∧ ∃ ls : List Addr, H' D = some (.lst (ls.map V.ref)) ∧ ls.length = i ∧ D ∉ ls ∧ (∀ (j : Nat) (a : Addr), ls[j]? = some a → H' a = some (f j)) ∧ ls.Nodup ∧ ∀ l ∈ ls, H l = none)
    ⟨same_new hD, [], upd_same, rfl, (fun m => nomatch m), (fun j a z => nomatch z), .nil, fun l m => nomatch m⟩ (fun i H' z => hG _ z.1) ?_ (fun H2 ⟨s2, ls, gD, hl, nD, at_, nd, fr⟩ => hd H2 ls s2 hl gD at_ nd nD fr)
  rintro i x y T H2' hx hy ⟨s2', ls, gD', hll, nD, at_', nd, fr⟩ nT
  have hi : i < min xs.length ys.length := by
    have h1 := (List.getElem?_eq_some_iff.mp hx).1
    have h2 := (List.getElem?_eq_some_iff.mp hy).1
    omega
  have sT : Same H2' (upd H2' T (.tup [x, y])) := same_new nT
  refine pair_in upd_same ⟨hw x y, ?_⟩
  show te _ _ _
  have s2 := s2'.trans sT
  have gD := sT _ _ gD'
  have at_ := fun j a z => sT _ _ (at_' j a z)
  generalize upd H2' T (.tup [x, y]) = H2 at *
  refine hs i x y H2 _ hx hy s2 fun l H3 nl s3 gl => ?_
  have lD : l ≠ D := by rintro rfl; rw [gD] at nl; cases nl
  have lls : l ∉ ls := fun m => by
    obtain ⟨k, lt, e⟩ := List.mem_iff_getElem.mp m
    have := at_ k l (by rw [← e]; exact List.getElem?_eq_getElem lt)
    rw [this] at nl
    cases nl
  refine ⟨_, s3 _ _ gD, ?_, (Off.trans (Same.off (s2.trans s3)) off_upd).same hD, ls ++ [l], by rw [upd_same]; simp, by simp [hll], ?_, ?_, ?_, ?_⟩
  · rw [List.length_map, hll]
    exact Nat.lt_of_lt_of_le (show i < 1001 by omega) (by decide)
  · rintro m
    rcases List.mem_append.mp m with m | m
    · exact nD m
    · exact lD (List.mem_singleton.mp m).symm
  · rintro k y' z1
    have yD : y' ≠ D := by
      rintro rfl
      rcases List.mem_append.mp (List.mem_of_getElem? z1) with m | m
      · exact nD m
      · exact lD (List.mem_singleton.mp m).symm
    rw [upd_ne yD]
    by_cases e : k < ls.length
    · rw [List.getElem?_append_left e] at z1
      exact s3 _ _ (at_ k y' z1)
    · have e2 : k = ls.length := by
        have := (List.getElem?_eq_some_iff.mp z1).1
        simp at this
        omega
      subst e2
      rw [List.getElem?_append_right (Nat.le_refl _), Nat.sub_self] at z1
      cases z1
      rw [← hll] at gl
      exact gl
  · rw [List.nodup_append]
    refine ⟨nd, by simp, fun x hx y hy => ?_⟩
    rw [List.mem_singleton.mp hy]
    rintro rfl
    exact lls hx
  · intro y m
    rcases List.mem_append.mp m with m | m
    · exact fr y m
    · rw [List.mem_singleton.mp m]
      cases e : H l with
      | none => rfl
      | some o => rw [s2 _ _ e] at nl; cases nl
/-! ### straight_ways -/
/-- the straight line costs as little as any row -/
def strO (p D : Nat → Nat → Option Int) (w : Nat × Nat) : Bool := match oline1 p D w.1 w.2 with
  | some v => decide (stepO p D w.1 w.2 = some v)
  | none => false
theorem str_stands {B M G : Int} {p D : Nat → Nat → Option Int} {q E : Nat → Nat → Int} {w : Nat × Nat} (hB : 0 ≤ B) (h1 : Stands B M (oline1 p D w.1 w.2) (lineS q E w.1 w.2)) (h2 : Stands B G (oline2 p D w.1 w.2) (lineT2 q E w.1 w.2)) (hM : M < B) (hG : G < B) : strN q E B w = strO p D w := by
  unfold strN strO stepO
  cases e1 : oline1 p D w.1 w.2 with
  | none =>
    rw [e1] at h1
    have h1 : B ≤ lineS q E w.1 w.2 := h1
    rw [decide_eq_false (by omega), Bool.false_and]
  | some v =>
    rw [e1] at h1
    obtain ⟨a1, a2, a3⟩ := h1
    rw [decide_eq_true (by omega), Bool.true_and]
    cases e2 : oline2 p D w.1 w.2 with
    | none =>
      rw [e2] at h2
      have h2 : B ≤ lineT2 q E w.1 w.2 := h2
      simp only [decide_eq_true (show lineS q E w.1 w.2 ≤ lineT2 q E w.1 w.2 by omega)]
      exact (decide_eq_true rfl).symm
    | some u =>
      rw [e2] at h2
      obtain ⟨b1, b2, b3⟩ := h2
      show decide _ = decide (some (min v u) = some v)
      refine decide_eq_decide.mpr ⟨fun z => ?_, fun z => ?_⟩
      · rw [a1, b1] at z
        rw [show min v u = v by omega]
      · have z := Option.some.inj z
        rw [a1, b1]
        omega
/-- the straight ways of the crates, the largest first -/
def strW (rows : List (List (Option Int))) (k : Nat) : List (Nat × Nat) := waysN.filter (strO (prF ((rows.reverse[k]?).getD [])) (towO rows k))
def Ways (H0 H : Hp) (l : Addr) (rows : List (List (Option Int))) : Prop := ∃ ls : List Addr, H l = some (.lst (ls.map V.ref)) ∧ ls.length = rows.length ∧ (∀ (k : Nat) (d : Addr), ls[k]? = some d → H d = some (.lst ((strW rows (rows.length - 1 - k)).map wayV))) ∧ ls.Nodup ∧ l ∉ ls ∧ H0 l = none ∧ ∀ d ∈ ls, H0 d = none
def sp_straight_ways (K : PySem.W.Frag) : Sp := sp1 fun x H Q E => BadY K H x E ∨ ∃ y rows, x = .ref y ∧ YdK K H y rows ∧ ∀ l H1 H', Mild K y H H1 → YdK K H1 y rows → Same H1 H' → Ways H1 H' l rows → Q (.ref l) H'
def t_straight_ways (K : PySem.W.Frag) (E : XK) : TS := (tSeq (tDrop (tFn (sp_check_yard K) E (tCons (tVar 0) tNil))) (tSeq (tAsg (tMeth (He.ga K "Yard") "reckoning" (sp_Yard_reckoning K) [] E (tVar 0) tNil) (gName 1)) (tSeq (tAsg (tLc (iZipV K (tCons (tFld K (tVar 1) "prices") (tCons (tFld K (tVar 1) "towers") tNil))) (gTup K 2 (gCons (gName 3) (gCons (gName 4) gNil))) tYes (tFn (sp__straight_ways K) E0 (tCons (tVar 3) (tCons (tVar 4) (tCons (tFld K (tVar 1) "bound") tNil)))) [3, 4]) (gName 2)) (tRet (tRevL K (tVar 2))))))
theorem price_stands {rows : List (List (Option Int))} {g : Int} (hg : Great rows g) (h6 : ∀ r ∈ rows, r.length = 6) {r : List (Option Int)} (mr : r ∈ rows) {i j : Nat} (hi : i < 3) (hj : j < 3) (n : i ≠ j) : Stands (g * 4 ^ rows.length) g (prF r i j) (fnOf (rowI (g * 4 ^ rows.length) r) i j) := by
  have l6 := h6 r mr
  have c6 : colN i j < r.length := by
    rw [l6]
    unfold colN
    split <;> omega
  unfold prF fnOf rowI
  rw [List.getElem?_map, List.getElem?_eq_getElem c6]
  have mo : r[colN i j] ∈ r := List.getElem_mem c6
  generalize r[colN i j] = o at *
  cases o with
  | none => exact Int.le_refl _
  | some v =>
    have mp : v ∈ priced rows := List.mem_flatMap.mpr ⟨r, mr, List.mem_filterMap.mpr ⟨some v, mo, rfl⟩⟩
    have := hg.2.2 v mp
    exact ⟨rfl, Int.le_of_lt this.1, this.2⟩
section
variable {K : PySem.W.Frag} (F : KF K) (R : KR K) {vs : List V} {H : Hp} {Q : VK} {E : XK}
local macro_rules | `(tactic| walk_at "w") => `(tactic| try simp only [turnE, lcT, Snoc, tRet, tRetN, tAndV, tOrV, tNotV, tCB, tCons, tVar, tNil, tC, tOp, tSeq, tAsg, gName, gSub, tIfS, tDrop, tFn, tTup, tLst, tNext, tB, tTest, tNot, tAnd, tOr, tIf, tChain, tUn, rU, tFld, tPart, tNoPart, L2.tSl, tBM, tPar, tPar3, tTruth, tDNewK,
  L2.start, List.map_cons, List.map_nil, List.length_cons, List.length_nil, List.replicate_succ, List.replicate_zero, List.append_nil, List.nil_append, List.cons_append, List.singleton_append, Nat.sub_self, Nat.zero_add, Nat.reduceAdd, Nat.reduceSub,
  List.getElem?_cons_zero, List.getElem?_cons_succ, List.set_cons_zero, List.set_cons_succ, Option.some.injEq, exists_eq_left, exists_eq_left', V.int.injEq, V.bl.injEq, V.str.injEq, V.ref.injEq,
  uAdd_int, uAdd_str, uSub_int, uMul_int, uMul_str, uDiv_int, uMod_int, uPow_int, uLt_int, uLe_int, uGt_int, uGe_int, uIs_non, uNis_non, uIs_bl, uNis_bl, sp1, sp2, sp3, sp4, uEq_int, uEq_str, uNe_int, uNe_str, uSl_str, uLen_str, decide_eq_true_eq])
local macro_rules | `(tactic| walk_at "1") => `(tactic| try simp only [turnE, lcT, Snoc, tRet, tRetN, tAndV, tOrV, tNotV, tCB, tCons, tVar, tNil, tC, tOp, tAsg, gName, gSub, tIfS, tDrop, tFn, tTup, tLst, tNext, tB, tTest, tNot, tAnd, tOr, tIf, tChain, tUn, rU, tFld, tPart, tNoPart, L2.tSl, tBM, tPar, tPar3, tTruth, tDNewK,
  L2.start, List.map_cons, List.map_nil, List.length_cons, List.length_nil, List.replicate_succ, List.replicate_zero, List.append_nil, List.nil_append, List.cons_append, List.singleton_append, Nat.sub_self, Nat.zero_add, Nat.reduceAdd, Nat.reduceSub,
  List.getElem?_cons_zero, List.getElem?_cons_succ, List.set_cons_zero, List.set_cons_succ, Option.some.injEq, exists_eq_left, exists_eq_left', V.int.injEq, V.bl.injEq, V.str.injEq, V.ref.injEq,
  uAdd_int, uAdd_str, uSub_int, uMul_int, uMul_str, uDiv_int, uMod_int, uPow_int, uLt_int, uLe_int, uGt_int, uGe_int, uIs_non, uNis_non, uIs_bl, uNis_bl, sp1, sp2, sp3, sp4, uEq_int, uEq_str, uNe_int, uNe_str, uSl_str, uLen_str, decide_eq_true_eq])
local macro_rules | `(tactic| walk_at "s") => `(tactic| ((try dsimp only [turnE]); with_reducible refine seq_ ?_))

theorem tLc_zipA {ta : TA} {g : TG} {tt : TT} {te : TE} {vs : List Nat} {σ : L2.St} (h : RZ.iZipA K ta σ H fun J H1 => ∀ D, H1 D = none → LcB J g tt te vs σ H1 D (Q (.ref D))) : tLc (iZipV K ta) g tt te vs σ H Q := .inr h
theorem level_str {rows : List (List (Option Int))} {g : Int} (hg : Great rows g) (h6 : ∀ r ∈ rows, r.length = 6) {k : Nat} (hk : k < rows.length) : waysN.filter (strN (fnOf (rowI (g * 4 ^ rows.length) ((rows.reverse[k]?).getD []))) (levelQ (rows.reverse.map (rowI (g * 4 ^ rows.length))) k) (g * 4 ^ rows.length)) = strW rows k := by
  unfold strW
  refine List.filter_congr fun w mw => ?_
  obtain ⟨hi, hj, n⟩ := waysN_ok w mw
  have lt : k < rows.reverse.length := by rw [List.length_reverse]; exact hk
  rw [List.getElem?_eq_getElem lt]
  show strN (fnOf (rowI _ rows.reverse[k])) _ _ w = strO (prF rows.reverse[k]) _ w
  have mr : rows.reverse[k] ∈ rows := List.mem_reverse.mp (List.getElem_mem lt)
  generalize rows.reverse[k] = r at *
  have pos : (0 : Int) ≤ g * 4 ^ rows.length := Int.mul_nonneg (Int.le_of_lt hg.1) (Int.pow_nonneg (by decide))
  have st := levelQ_stands hg h6 k (Nat.le_of_lt hk)
  have top := mostN_bound (G := g) (k := k + 1) (n := rows.length) hg.1 hk
  have m0 := mostN_nonneg (G := g) (Int.le_of_lt hg.1) k
  have e : mostN g (k + 1) = 3 * mostN g k + 2 * g := rfl
  have g0 := hg.1
  have pr := fun i j (hi : i < 3) (hj : j < 3) (n : i ≠ j) => price_stands hg h6 mr hi hj n
  have ht : 3 - w.1 - w.2 < 3 ∧ w.1 ≠ 3 - w.1 - w.2 ∧ 3 - w.1 - w.2 ≠ w.2 := by omega
  refine str_stands pos (osum3 pos (st _ _ hi ht.1 ht.2.1) (pr _ _ hi hj n) (st _ _ ht.1 hj ht.2.2)) (osum5 pos (st _ _ hi hj n) (pr _ _ hi ht.1 ht.2.1) (st _ _ hj hi n.symm) (pr _ _ ht.1 hj ht.2.2) (st _ _ hi hj n)) (by omega) (by omega)
include F R in
theorem read_straight_ways (h : sp_straight_ways K vs H Q E) : t_straight_ways K E { nx := fun _ H' => Q .non H', rt := Q } (start ["yard", "reckoning", "ways", "prices", "towers"] vs) H := by
  match vs, h with
  | [_], .inl bad =>
    unfold t_straight_ways
    walk_at "s"
    walk_at "1"
    exact bad.chk
  | [_], .inr ⟨y, rows, rfl, hy, q⟩ =>
    obtain ⟨h1, ok, dx, t, rk, gy, hk⟩ := id hy
    have h6 := len6_of h1
    have h60 : rows.length ≤ 60 := by
      obtain ⟨_, _, _, _, _, _, y4, _⟩ := h1
      exact y4
    unfold t_straight_ways
    walk_at "s"
    walk_at "1"
    refine ⟨.yard, is_yard F gy, fun _ => ?_, fun z => (z rfl).elim⟩
    walk_at "s"
    walk_at "1"
    refine ⟨.ref y, rfl, y, dx, _, rfl, gy, rfl, y, rows, rfl, hy, fun a H1 o1 hy1 ra yr old sm => ?_⟩
    obtain ⟨g, lp, lt, hg, ⟨da, bk, ga, kb⟩, ⟨bs, b1, b2, b3⟩, cs, c1, c2, c3⟩ := id ra
    walk_at "s"
    have lb : bs.length = rows.length := by rw [b2, List.length_map, List.length_reverse]
    have lc : cs.length = rows.length + 1 := by
      rw [c2]
      unfold towersL
      rw [List.length_map, List.length_range, List.length_map, List.length_reverse]
    have mi : min (bs.map V.ref).length (cs.map V.ref).length = rows.length := by rw [List.length_map, List.length_map, lb, lc]; omega
    refine tLc_zipA ?_
    refine ⟨.ref a, rfl, a, _, da, _, .ref lp, rfl, ga, R.cl, R.prices, rfl, .ref a, rfl, a, _, da, _, .ref lt, rfl, ga, R.cl, R.towers, rfl, lp, lt, _, _, rfl, .inl ⟨.inl (.inl b1), .inl (.inl c1), fun D hD => ?_⟩⟩
    refine lc_freshZ (zipped_LL (K := K) (a := lp) (b := lt) (xs := bs.map V.ref) (ys := cs.map V.ref)) (fun k => .lst ((strW rows k).map wayV)) (fun x z => rfl) hD (by rw [mi]; omega) (fun H' s => ⟨.inl (.inl (s _ _ b1)), .inl (.inl (s _ _ c1))⟩) ?_ ?_
    · intro k x z H2 Q2 hx hz s2 go
      rw [List.getElem?_map] at hx hz
      obtain ⟨b, hb, rfl⟩ := Option.map_eq_some_iff.mp hx
      obtain ⟨c, hc, rfl⟩ := Option.map_eq_some_iff.mp hz
      have lk : k < rows.length := by rw [← lb]; exact (List.getElem?_eq_some_iff.mp hb).1
      have tb := Same.sqT s2 (b3 k b (rowI (g * 4 ^ rows.length) ((rows.reverse[k]?).getD [])) hb (by
        rw [List.getElem?_map, List.getElem?_eq_getElem (by rw [List.length_reverse]; exact lk)]
        rfl))
      have tc := Same.sqT s2 (c3 k c (six (levelQ (rows.reverse.map (rowI (g * 4 ^ rows.length))) k)) hc (by
        unfold towersL
        rw [List.getElem?_map, List.getElem?_range (by rw [List.length_map, List.length_reverse]; omega)]
        rfl))
      have m6 : (rowI (g * 4 ^ rows.length) ((rows.reverse[k]?).getD [])).length = 6 := by
        unfold rowI
        rw [List.length_map, List.getElem?_eq_getElem (by rw [List.length_reverse]; exact lk)]
        exact h6 _ (List.mem_reverse.mp (List.getElem_mem _))
      refine ⟨.ref b, rfl, .ref c, rfl, .ref a, rfl, a, _, da, _, .int (g * 4 ^ rows.length), rfl, s2 _ _ ga, R.cl, R.bound, rfl, ?_⟩
      refine ⟨b, c, fnOf (rowI (g * 4 ^ rows.length) ((rows.reverse[k]?).getD [])), levelQ (rows.reverse.map (rowI (g * 4 ^ rows.length))) k, _, rfl, rfl, rfl, by rw [six_fn m6]; exact tb, tc, fun l H3 s3 nl gl => ?_⟩
      rw [level_str hg h6 lk] at gl
      exact go l H3 nl s3 gl
    · intro H2 ls s2 hl gD at_ nd nD fr
      rw [mi] at hl
      refine ⟨.ref D, rfl, D, _, rfl, .inl (.inl gD), fun p hp => ?_⟩
      have sp : Same H2 (upd H2 p (.lst (ls.map V.ref).reverse)) := same_new hp
      have gp : upd H2 p (.lst (ls.map V.ref).reverse) p = some (.lst (ls.reverse.map V.ref)) := by rw [upd_same, List.map_reverse]
      generalize upd H2 p (.lst (ls.map V.ref).reverse) = H3 at *
      refine q p H1 H3 (mild_reck gy o1 yr old sm) hy1 (s2.trans sp) ⟨ls.reverse, gp, by rw [List.length_reverse, hl], fun k d e => ?_, List.pairwise_reverse.mpr (List.Pairwise.imp (fun h => Ne.symm h) nd), fun m => ?_, s2.free hp, fun d m => fr d (List.mem_reverse.mp m)⟩
      · have lk : k < ls.length := by
          have := (List.getElem?_eq_some_iff.mp e).1
          rw [List.length_reverse] at this
          exact this
        rw [List.getElem?_reverse lk, hl] at e
        exact sp _ _ (at_ _ d e)
      · have m2 := List.mem_reverse.mp m
        obtain ⟨k, lt2, e⟩ := List.mem_iff_getElem.mp m2
        have := at_ k p (by rw [← e]; exact List.getElem?_eq_getElem lt2)
        rw [this] at hp
        cases hp
end
end U
namespace U
open PySem PySem.Spec PyProof.Rows L2

/-! ### from an arrangement to the towers -/
section
variable {K : PySem.W.Frag} (F : KF K) (R : KR K) {vs : List V} {H : Hp} {Q : VK} {E : XK}
local macro_rules | `(tactic| walk_at "w") => `(tactic| try simp only [turnE, lcT, Snoc, tRet, tRetN, tAndV, tOrV, tNotV, tCB, tCons, tVar, tNil, tC, tOp, tSeq, tAsg, gName, gSub, tIfS, tDrop, tFn, tTup, tLst, tNext, tB, tTest, tNot, tAnd, tOr, tIf, tChain, tUn, rU, tFld, tPart, tNoPart, L2.tSl, tBM, tPar, tPar3, tTruth, tDNewK,
  L2.start, List.map_cons, List.map_nil, List.length_cons, List.length_nil, List.replicate_succ, List.replicate_zero, List.append_nil, List.nil_append, List.cons_append, List.singleton_append, Nat.sub_self, Nat.zero_add, Nat.reduceAdd, Nat.reduceSub,
  List.getElem?_cons_zero, List.getElem?_cons_succ, List.set_cons_zero, List.set_cons_succ, Option.some.injEq, exists_eq_left, exists_eq_left', V.int.injEq, V.bl.injEq, V.str.injEq, V.ref.injEq,
  uAdd_int, uAdd_str, uSub_int, uMul_int, uMul_str, uDiv_int, uMod_int, uPow_int, uLt_int, uLe_int, uGt_int, uGe_int, uIs_non, uNis_non, uIs_bl, uNis_bl, sp1, sp2, sp3, sp4, uEq_int, uEq_str, uNe_int, uNe_str, uSl_str, uLen_str, decide_eq_true_eq])
local macro_rules | `(tactic| walk_at "1") => `(tactic| try simp only [turnE, lcT, Snoc, tRet, tRetN, tAndV, tOrV, tNotV, tCB, tCons, tVar, tNil, tC, tOp, tAsg, gName, gSub, tIfS, tDrop, tFn, tTup, tLst, tNext, tB, tTest, tNot, tAnd, tOr, tIf, tChain, tUn, rU, tFld, tPart, tNoPart, L2.tSl, tBM, tPar, tPar3, tTruth, tDNewK,
  L2.start, List.map_cons, List.map_nil, List.length_cons, List.length_nil, List.replicate_succ, List.replicate_zero, List.append_nil, List.nil_append, List.cons_append, List.singleton_append, Nat.sub_self, Nat.zero_add, Nat.reduceAdd, Nat.reduceSub,
  List.getElem?_cons_zero, List.getElem?_cons_succ, List.set_cons_zero, List.set_cons_succ, Option.some.injEq, exists_eq_left, exists_eq_left', V.int.injEq, V.bl.injEq, V.str.injEq, V.ref.injEq,
  uAdd_int, uAdd_str, uSub_int, uMul_int, uMul_str, uDiv_int, uMod_int, uPow_int, uLt_int, uLe_int, uGt_int, uGe_int, uIs_non, uNis_non, uIs_bl, uNis_bl, sp1, sp2, sp3, sp4, uEq_int, uEq_str, uNe_int, uNe_str, uSl_str, uLen_str, decide_eq_true_eq])
local macro_rules | `(tactic| walk_at "s") => `(tactic| ((try dsimp only [turnE]); with_reducible refine seq_ ?_))

end
end U
namespace U
open PySem PySem.Spec PyProof.Rows L2

/-! ### the levels of the costs to the towers -/
/-- the numbers of a reckoning -/
def RkN (K : PySem.W.Frag) (H : Hp) (a : Addr) (B : Int) (qs : List (List Int)) : Prop := ∃ lp lt : Addr, RkAt K H a B (.ref lp) (.ref lt) ∧ PrB K H lp qs ∧ PrB K H lt (towersL qs) ∧ (∀ q ∈ qs, q.length = 6) ∧ qs.length ≤ 60
section
variable {K : PySem.W.Frag} (F : KF K) (R : KR K) {vs : List V} {H : Hp} {Q : VK} {E : XK}
local macro_rules | `(tactic| walk_at "w") => `(tactic| try simp only [turnE, lcT, Snoc, tRet, tRetN, tAndV, tOrV, tNotV, tCB, tCons, tVar, tNil, tC, tOp, tSeq, tAsg, gName, gSub, tIfS, tDrop, tFn, tTup, tLst, tNext, tB, tTest, tNot, tAnd, tOr, tIf, tChain, tUn, rU, tFld, tPart, tNoPart, L2.tSl, tBM, tPar, tPar3, tTruth, tDNewK,
  L2.start, List.map_cons, List.map_nil, List.length_cons, List.length_nil, List.replicate_succ, List.replicate_zero, List.append_nil, List.nil_append, List.cons_append, List.singleton_append, Nat.sub_self, Nat.zero_add, Nat.reduceAdd, Nat.reduceSub,
  List.getElem?_cons_zero, List.getElem?_cons_succ, List.set_cons_zero, List.set_cons_succ, Option.some.injEq, exists_eq_left, exists_eq_left', V.int.injEq, V.bl.injEq, V.str.injEq, V.ref.injEq,
  uAdd_int, uAdd_str, uSub_int, uMul_int, uMul_str, uDiv_int, uMod_int, uPow_int, uLt_int, uLe_int, uGt_int, uGe_int, uIs_non, uNis_non, uIs_bl, uNis_bl, sp1, sp2, sp3, sp4, uEq_int, uEq_str, uNe_int, uNe_str, uSl_str, uLen_str, decide_eq_true_eq])
local macro_rules | `(tactic| walk_at "1") => `(tactic| try simp only [turnE, lcT, Snoc, tRet, tRetN, tAndV, tOrV, tNotV, tCB, tCons, tVar, tNil, tC, tOp, tAsg, gName, gSub, tIfS, tDrop, tFn, tTup, tLst, tNext, tB, tTest, tNot, tAnd, tOr, tIf, tChain, tUn, rU, tFld, tPart, tNoPart, L2.tSl, tBM, tPar, tPar3, tTruth, tDNewK,
  L2.start, List.map_cons, List.map_nil, List.length_cons, List.length_nil, List.replicate_succ, List.replicate_zero, List.append_nil, List.nil_append, List.cons_append, List.singleton_append, Nat.sub_self, Nat.zero_add, Nat.reduceAdd, Nat.reduceSub,
  List.getElem?_cons_zero, List.getElem?_cons_succ, List.set_cons_zero, List.set_cons_succ, Option.some.injEq, exists_eq_left, exists_eq_left', V.int.injEq, V.bl.injEq, V.str.injEq, V.ref.injEq,
  uAdd_int, uAdd_str, uSub_int, uMul_int, uMul_str, uDiv_int, uMod_int, uPow_int, uLt_int, uLe_int, uGt_int, uGe_int, uIs_non, uNis_non, uIs_bl, uNis_bl, sp1, sp2, sp3, sp4, uEq_int, uEq_str, uNe_int, uNe_str, uSl_str, uLen_str, decide_eq_true_eq])
local macro_rules | `(tactic| walk_at "s") => `(tactic| ((try dsimp only [turnE]); with_reducible refine seq_ ?_))

end
end U
namespace U
open PySem PySem.Spec PyProof.Rows L2

/-! ### the ways back -/
section
variable {K : PySem.W.Frag} (F : KF K) (R : KR K) {vs : List V} {H : Hp} {Q : VK} {E : XK}
local macro_rules | `(tactic| walk_at "w") => `(tactic| try simp only [turnE, lcT, Snoc, tRet, tRetN, tAndV, tOrV, tNotV, tCB, tCons, tVar, tNil, tC, tOp, tSeq, tAsg, gName, gSub, tIfS, tDrop, tFn, tTup, tLst, tNext, tB, tTest, tNot, tAnd, tOr, tIf, tChain, tUn, rU, tFld, tPart, tNoPart, L2.tSl, tBM, tPar, tPar3, tTruth, tDNewK,
  L2.start, List.map_cons, List.map_nil, List.length_cons, List.length_nil, List.replicate_succ, List.replicate_zero, List.append_nil, List.nil_append, List.cons_append, List.singleton_append, Nat.sub_self, Nat.zero_add, Nat.reduceAdd, Nat.reduceSub,
  List.getElem?_cons_zero, List.getElem?_cons_succ, List.set_cons_zero, List.set_cons_succ, Option.some.injEq, exists_eq_left, exists_eq_left', V.int.injEq, V.bl.injEq, V.str.injEq, V.ref.injEq,
  uAdd_int, uAdd_str, uSub_int, uMul_int, uMul_str, uDiv_int, uMod_int, uPow_int, uLt_int, uLe_int, uGt_int, uGe_int, uIs_non, uNis_non, uIs_bl, uNis_bl, sp1, sp2, sp3, sp4, uEq_int, uEq_str, uNe_int, uNe_str, uSl_str, uLen_str, decide_eq_true_eq])
local macro_rules | `(tactic| walk_at "1") => `(tactic| try simp only [turnE, lcT, Snoc, tRet, tRetN, tAndV, tOrV, tNotV, tCB, tCons, tVar, tNil, tC, tOp, tAsg, gName, gSub, tIfS, tDrop, tFn, tTup, tLst, tNext, tB, tTest, tNot, tAnd, tOr, tIf, tChain, tUn, rU, tFld, tPart, tNoPart, L2.tSl, tBM, tPar, tPar3, tTruth, tDNewK,
  L2.start, List.map_cons, List.map_nil, List.length_cons, List.length_nil, List.replicate_succ, List.replicate_zero, List.append_nil, List.nil_append, List.cons_append, List.singleton_append, Nat.sub_self, Nat.zero_add, Nat.reduceAdd, Nat.reduceSub,
  List.getElem?_cons_zero, List.getElem?_cons_succ, List.set_cons_zero, List.set_cons_succ, Option.some.injEq, exists_eq_left, exists_eq_left', V.int.injEq, V.bl.injEq, V.str.injEq, V.ref.injEq,
  uAdd_int, uAdd_str, uSub_int, uMul_int, uMul_str, uDiv_int, uMod_int, uPow_int, uLt_int, uLe_int, uGt_int, uGe_int, uIs_non, uNis_non, uIs_bl, uNis_bl, sp1, sp2, sp3, sp4, uEq_int, uEq_str, uNe_int, uNe_str, uSl_str, uLen_str, decide_eq_true_eq])
local macro_rules | `(tactic| walk_at "s") => `(tactic| ((try dsimp only [turnE]); with_reducible refine seq_ ?_))

end
end U
namespace U
open PySem PySem.Spec PyProof.Rows L2

/-! ### a reckoning by its numbers, whatever it keeps -/
def RkM (K : PySem.W.Frag) (H : Hp) (a : Addr) (B : Int) (qs : List (List Int)) : Prop := ∃ lp lt : Addr, (∃ dx bk, H a = some (.ins (He.ga K "Reckoning") dx (rkF B (.ref lp) (.ref lt) bk)) ∧ Bk K H bk B qs) ∧ PrB K H lp qs ∧ PrB K H lt (towersL qs) ∧ qs.length ≤ 60 ∧ ∀ q ∈ qs, q.length = 6
section
variable {K : PySem.W.Frag} (F : KF K) (R : KR K) {vs : List V} {H : Hp} {Q : VK} {E : XK}
local macro_rules | `(tactic| walk_at "w") => `(tactic| try simp only [turnE, lcT, Snoc, tRet, tRetN, tAndV, tOrV, tNotV, tCB, tCons, tVar, tNil, tC, tOp, tSeq, tAsg, gName, gSub, tIfS, tDrop, tFn, tTup, tLst, tNext, tB, tTest, tNot, tAnd, tOr, tIf, tChain, tUn, rU, tFld, tPart, tNoPart, L2.tSl, tBM, tPar, tPar3, tTruth, tDNewK,
  L2.start, List.map_cons, List.map_nil, List.length_cons, List.length_nil, List.replicate_succ, List.replicate_zero, List.append_nil, List.nil_append, List.cons_append, List.singleton_append, Nat.sub_self, Nat.zero_add, Nat.reduceAdd, Nat.reduceSub,
  List.getElem?_cons_zero, List.getElem?_cons_succ, List.set_cons_zero, List.set_cons_succ, Option.some.injEq, exists_eq_left, exists_eq_left', V.int.injEq, V.bl.injEq, V.str.injEq, V.ref.injEq,
  uAdd_int, uAdd_str, uSub_int, uMul_int, uMul_str, uDiv_int, uMod_int, uPow_int, uLt_int, uLe_int, uGt_int, uGe_int, uIs_non, uNis_non, uIs_bl, uNis_bl, sp1, sp2, sp3, sp4, uEq_int, uEq_str, uNe_int, uNe_str, uSl_str, uLen_str, decide_eq_true_eq])
local macro_rules | `(tactic| walk_at "1") => `(tactic| try simp only [turnE, lcT, Snoc, tRet, tRetN, tAndV, tOrV, tNotV, tCB, tCons, tVar, tNil, tC, tOp, tAsg, gName, gSub, tIfS, tDrop, tFn, tTup, tLst, tNext, tB, tTest, tNot, tAnd, tOr, tIf, tChain, tUn, rU, tFld, tPart, tNoPart, L2.tSl, tBM, tPar, tPar3, tTruth, tDNewK,
  L2.start, List.map_cons, List.map_nil, List.length_cons, List.length_nil, List.replicate_succ, List.replicate_zero, List.append_nil, List.nil_append, List.cons_append, List.singleton_append, Nat.sub_self, Nat.zero_add, Nat.reduceAdd, Nat.reduceSub,
  List.getElem?_cons_zero, List.getElem?_cons_succ, List.set_cons_zero, List.set_cons_succ, Option.some.injEq, exists_eq_left, exists_eq_left', V.int.injEq, V.bl.injEq, V.str.injEq, V.ref.injEq,
  uAdd_int, uAdd_str, uSub_int, uMul_int, uMul_str, uDiv_int, uMod_int, uPow_int, uLt_int, uLe_int, uGt_int, uGe_int, uIs_non, uNis_non, uIs_bl, uNis_bl, sp1, sp2, sp3, sp4, uEq_int, uEq_str, uNe_int, uNe_str, uSl_str, uLen_str, decide_eq_true_eq])
local macro_rules | `(tactic| walk_at "s") => `(tactic| ((try dsimp only [turnE]); with_reducible refine seq_ ?_))

theorem RkM.same {H' : Hp} {a : Addr} {B : Int} {qs : List (List Int)} (e : Same H H') (h : RkM K H a B qs) : RkM K H' a B qs := by
  obtain ⟨lp, lt, ⟨dx, bk, ga, kb⟩, p1, p2, l1, l2⟩ := h
  exact ⟨lp, lt, ⟨dx, bk, e _ _ ga, kb.same e⟩, p1.same e, p2.same e, l1, l2⟩
theorem RkM.n {a : Addr} {B : Int} {qs : List (List Int)} (h : RkM K H a B qs) : RkN K H a B qs := by
  obtain ⟨lp, lt, ⟨dx, bk, ga, kb⟩, p1, p2, l1, l2⟩ := h
  exact ⟨lp, lt, ⟨dx, bk, ga⟩, p1, p2, l2, l1⟩
end
end U
namespace U
open PySem PySem.Spec PyProof.Rows L2

/-! ### the largest crate that moves -/
theorem at_natN {xs : List Nat} {k : Nat} {v : Nat} (h : xs[k]? = some v) : atI xs (k : Int) = some v := by
  have lt := (List.getElem?_eq_some_iff.mp h).1
  unfold atI ixN
  rw [if_pos (Int.natCast_nonneg k), if_pos (Int.ofNat_lt.mpr lt)]
  exact h
section
variable {K : PySem.W.Frag} (F : KF K) (R : KR K) {vs : List V} {H : Hp} {Q : VK} {E : XK}
local macro_rules | `(tactic| walk_at "w") => `(tactic| try simp only [turnE, lcT, Snoc, tRet, tRetN, tAndV, tOrV, tNotV, tCB, tCons, tVar, tNil, tC, tOp, tSeq, tAsg, gName, gSub, tIfS, tDrop, tFn, tTup, tLst, tNext, tB, tTest, tNot, tAnd, tOr, tIf, tChain, tUn, rU, tFld, tPart, tNoPart, L2.tSl, tBM, tPar, tPar3, tTruth, tDNewK,
  L2.start, List.map_cons, List.map_nil, List.length_cons, List.length_nil, List.replicate_succ, List.replicate_zero, List.append_nil, List.nil_append, List.cons_append, List.singleton_append, Nat.sub_self, Nat.zero_add, Nat.reduceAdd, Nat.reduceSub,
  List.getElem?_cons_zero, List.getElem?_cons_succ, List.set_cons_zero, List.set_cons_succ, Option.some.injEq, exists_eq_left, exists_eq_left', V.int.injEq, V.bl.injEq, V.str.injEq, V.ref.injEq,
  uAdd_int, uAdd_str, uSub_int, uMul_int, uMul_str, uDiv_int, uMod_int, uPow_int, uLt_int, uLe_int, uGt_int, uGe_int, uIs_non, uNis_non, uIs_bl, uNis_bl, sp1, sp2, sp3, sp4, uEq_int, uEq_str, uNe_int, uNe_str, uSl_str, uLen_str, decide_eq_true_eq])
local macro_rules | `(tactic| walk_at "1") => `(tactic| try simp only [turnE, lcT, Snoc, tRet, tRetN, tAndV, tOrV, tNotV, tCB, tCons, tVar, tNil, tC, tOp, tAsg, gName, gSub, tIfS, tDrop, tFn, tTup, tLst, tNext, tB, tTest, tNot, tAnd, tOr, tIf, tChain, tUn, rU, tFld, tPart, tNoPart, L2.tSl, tBM, tPar, tPar3, tTruth, tDNewK,
  L2.start, List.map_cons, List.map_nil, List.length_cons, List.length_nil, List.replicate_succ, List.replicate_zero, List.append_nil, List.nil_append, List.cons_append, List.singleton_append, Nat.sub_self, Nat.zero_add, Nat.reduceAdd, Nat.reduceSub,
  List.getElem?_cons_zero, List.getElem?_cons_succ, List.set_cons_zero, List.set_cons_succ, Option.some.injEq, exists_eq_left, exists_eq_left', V.int.injEq, V.bl.injEq, V.str.injEq, V.ref.injEq,
  uAdd_int, uAdd_str, uSub_int, uMul_int, uMul_str, uDiv_int, uMod_int, uPow_int, uLt_int, uLe_int, uGt_int, uGe_int, uIs_non, uNis_non, uIs_bl, uNis_bl, sp1, sp2, sp3, sp4, uEq_int, uEq_str, uNe_int, uNe_str, uSl_str, uLen_str, decide_eq_true_eq])
local macro_rules | `(tactic| walk_at "s") => `(tactic| ((try dsimp only [turnE]); with_reducible refine seq_ ?_))

end
end U
namespace U
open PySem PySem.Spec PyProof.Rows L2

/-! ### min of a tuple of numbers -/
/-! ### != of two dicts that hold the same -/
end U
namespace U
open PySem PySem.Spec PyProof.Rows L2

/-! ### the least cost between two arrangements -/
section
variable {K : PySem.W.Frag} (F : KF K) (R : KR K) {vs : List V} {H : Hp} {Q : VK} {E : XK}
local macro_rules | `(tactic| walk_at "w") => `(tactic| try simp only [turnE, lcT, Snoc, tRet, tRetN, tAndV, tOrV, tNotV, tCB, tCons, tVar, tNil, tC, tOp, tSeq, tAsg, gName, gSub, tIfS, tDrop, tFn, tTup, tLst, tNext, tB, tTest, tNot, tAnd, tOr, tIf, tChain, tUn, rU, tFld, tPart, tNoPart, L2.tSl, tBM, tPar, tPar3, tTruth, tDNewK,
  L2.start, List.map_cons, List.map_nil, List.length_cons, List.length_nil, List.replicate_succ, List.replicate_zero, List.append_nil, List.nil_append, List.cons_append, List.singleton_append, Nat.sub_self, Nat.zero_add, Nat.reduceAdd, Nat.reduceSub,
  List.getElem?_cons_zero, List.getElem?_cons_succ, List.set_cons_zero, List.set_cons_succ, Option.some.injEq, exists_eq_left, exists_eq_left', V.int.injEq, V.bl.injEq, V.str.injEq, V.ref.injEq,
  uAdd_int, uAdd_str, uSub_int, uMul_int, uMul_str, uDiv_int, uMod_int, uPow_int, uLt_int, uLe_int, uGt_int, uGe_int, uIs_non, uNis_non, uIs_bl, uNis_bl, sp1, sp2, sp3, sp4, uEq_int, uEq_str, uNe_int, uNe_str, uSl_str, uLen_str, decide_eq_true_eq])
local macro_rules | `(tactic| walk_at "1") => `(tactic| try simp only [turnE, lcT, Snoc, tRet, tRetN, tAndV, tOrV, tNotV, tCB, tCons, tVar, tNil, tC, tOp, tAsg, gName, gSub, tIfS, tDrop, tFn, tTup, tLst, tNext, tB, tTest, tNot, tAnd, tOr, tIf, tChain, tUn, rU, tFld, tPart, tNoPart, L2.tSl, tBM, tPar, tPar3, tTruth, tDNewK,
  L2.start, List.map_cons, List.map_nil, List.length_cons, List.length_nil, List.replicate_succ, List.replicate_zero, List.append_nil, List.nil_append, List.cons_append, List.singleton_append, Nat.sub_self, Nat.zero_add, Nat.reduceAdd, Nat.reduceSub,
  List.getElem?_cons_zero, List.getElem?_cons_succ, List.set_cons_zero, List.set_cons_succ, Option.some.injEq, exists_eq_left, exists_eq_left', V.int.injEq, V.bl.injEq, V.str.injEq, V.ref.injEq,
  uAdd_int, uAdd_str, uSub_int, uMul_int, uMul_str, uDiv_int, uMod_int, uPow_int, uLt_int, uLe_int, uGt_int, uGe_int, uIs_non, uNis_non, uIs_bl, uNis_bl, sp1, sp2, sp3, sp4, uEq_int, uEq_str, uNe_int, uNe_str, uSl_str, uLen_str, decide_eq_true_eq])
local macro_rules | `(tactic| walk_at "s") => `(tactic| ((try dsimp only [turnE]); with_reducible refine seq_ ?_))

theorem str_one {ds : List Nat} {k d : Nat} (h : ds.length ≤ 60) (hk : ds[k]? = some d) (q : Q (.str (wd [d])) H) : uIx K (.str (wd ds)) (.int (k : Nat)) H Q := by
  have e : ds[k]? = some d := hk
  refine uIx_str (c := 97 + d) (Nat.le_trans (by rw [wd_length]; exact h) (by decide)) ?_ q
  have lt := (List.getElem?_eq_some_iff.mp hk).1
  refine at_natN' ?_
  show (wd ds).cps.toList[k]? = _
  simp [wd, hk]
where
  at_natN' {xs : List Nat} {k : Nat} {v : Nat} (h : xs[k]? = some v) : atI xs (k : Int) = some v := at_natN h
end
end U
namespace U
open PySem PySem.Spec PyProof.Rows L2

/-- refused: no yard, or no arrangement -/
def RefA (K : PySem.W.Frag) (H : Hp) (y x : V) (E : XK) : Prop := YardOr K H y E fun rows => NoArr K H rows.length x E
def RefB (K : PySem.W.Frag) (H : Hp) (y x z : V) (E : XK) : Prop := YardOr K H y E fun rows => NoArr K H rows.length x E ∨ ∃ ds, Arr rows.length x ds ∧ NoArr K H rows.length z E
def sp_check_both (K : PySem.W.Frag) : Sp := sp3 fun y x z H Q E => YardOr K H y E fun rows => NoArr K H rows.length x E ∨ ∃ ds, Arr rows.length x ds ∧ (NoArr K H rows.length z E ∨ ∃ es, Arr rows.length z es ∧ ∀ H', Same H H' → Q .non H')
section
variable {K : PySem.W.Frag} (F : KF K) (R : KR K) {vs : List V} {H : Hp} {Q : VK} {E : XK}
local macro_rules | `(tactic| walk_at "w") => `(tactic| try simp only [turnE, lcT, Snoc, tRet, tRetN, tAndV, tOrV, tNotV, tCB, tCons, tVar, tNil, tC, tOp, tSeq, tAsg, gName, gSub, tIfS, tDrop, tFn, tTup, tLst, tNext, tB, tTest, tNot, tAnd, tOr, tIf, tChain, tUn, rU, tFld, tPart, tNoPart, L2.tSl, tBM, tPar, tPar3, tTruth, tDNewK,
  L2.start, List.map_cons, List.map_nil, List.length_cons, List.length_nil, List.replicate_succ, List.replicate_zero, List.append_nil, List.nil_append, List.cons_append, List.singleton_append, Nat.sub_self, Nat.zero_add, Nat.reduceAdd, Nat.reduceSub,
  List.getElem?_cons_zero, List.getElem?_cons_succ, List.set_cons_zero, List.set_cons_succ, Option.some.injEq, exists_eq_left, exists_eq_left', V.int.injEq, V.bl.injEq, V.str.injEq, V.ref.injEq,
  uAdd_int, uAdd_str, uSub_int, uMul_int, uMul_str, uDiv_int, uMod_int, uPow_int, uLt_int, uLe_int, uGt_int, uGe_int, uIs_non, uNis_non, uIs_bl, uNis_bl, sp1, sp2, sp3, sp4, uEq_int, uEq_str, uNe_int, uNe_str, uSl_str, uLen_str, decide_eq_true_eq])
local macro_rules | `(tactic| walk_at "1") => `(tactic| try simp only [turnE, lcT, Snoc, tRet, tRetN, tAndV, tOrV, tNotV, tCB, tCons, tVar, tNil, tC, tOp, tAsg, gName, gSub, tIfS, tDrop, tFn, tTup, tLst, tNext, tB, tTest, tNot, tAnd, tOr, tIf, tChain, tUn, rU, tFld, tPart, tNoPart, L2.tSl, tBM, tPar, tPar3, tTruth, tDNewK,
  L2.start, List.map_cons, List.map_nil, List.length_cons, List.length_nil, List.replicate_succ, List.replicate_zero, List.append_nil, List.nil_append, List.cons_append, List.singleton_append, Nat.sub_self, Nat.zero_add, Nat.reduceAdd, Nat.reduceSub,
  List.getElem?_cons_zero, List.getElem?_cons_succ, List.set_cons_zero, List.set_cons_succ, Option.some.injEq, exists_eq_left, exists_eq_left', V.int.injEq, V.bl.injEq, V.str.injEq, V.ref.injEq,
  uAdd_int, uAdd_str, uSub_int, uMul_int, uMul_str, uDiv_int, uMod_int, uPow_int, uLt_int, uLe_int, uGt_int, uGe_int, uIs_non, uNis_non, uIs_bl, uNis_bl, sp1, sp2, sp3, sp4, uEq_int, uEq_str, uNe_int, uNe_str, uSl_str, uLen_str, decide_eq_true_eq])
local macro_rules | `(tactic| walk_at "s") => `(tactic| ((try dsimp only [turnE]); with_reducible refine seq_ ?_))

theorem NoArr.same {H H' : Hp} {n : Nat} {x : V} (e : Same H H') (h : NoArr K H n x E) : NoArr K H' n x E := by
  obtain ⟨b, h1, h2, h3, h4⟩ := h
  exact ⟨b, h1.same e, h2, h3, Rz.same e h4⟩
theorem RefA.chk {y x : V} (h : RefA K H y x E) : sp_check_arrangement K [y, x] H Q E :=
  chk_arr (k := fun _ _ => False) (YardOr.to h id fun _ _ _ _ g => .inr g) fun _ _ _ _ _ _ z => z.elim
theorem RefB.chk {y x z : V} (h : RefB K H y x z E) : sp_check_both K [y, x, z] H Q E :=
  YardOr.to h id fun _ _ _ _ g => g.elim .inl fun ⟨ds, a, b⟩ => .inr ⟨ds, a, .inl b⟩
end
end U
namespace U
open PySem PySem.Spec PyProof.Rows L2

/-! ### list comprehensions of three clauses: one rule for a clause's loop, taken three times -/
/-- what stands between a clause's store and its next turn -/
def CTurn (e : Expr) (i : Nat) (it acc : Value) (env : Env) (p : Pos) (t : Expr) (ifs : List Expr) (k : Bool → Sem Fin) : Prop :=
  compTurn e i it acc env = (standAt p >>= fun _ => pyNext it >>= fun r => match r with
    | none => pure (.done .next)
    | some v => letOwnedTupleGo t it v >>= fun _ => assign t env v >>= fun _ => (forIn ifs true fun c r => if r = true then do let ok ← isTrue c env (eval c env); pure (ForInStep.yield ok) else pure (ForInStep.yield r)) >>= k)
def TurnsTo (c : Code) (P : Shared → Prop) (fin : Fin) (s : Shared) : Prop := match fin with
  | .done _ => False
  | .again c' => c' = c ∧ P s
/-- the reading of a clause: rd behind its tests -/
def CLap (J : It) (g : TG) (tt : TT) (vs : List Nat) (rd : L2.St → Hp → (Hp → Prop) → Prop) (σ : L2.St) (H : Hp) (N : Hp → Prop) : Prop :=
  ∃ W : Nat → Nat → Hp → Prop, (∃ m, W 0 m H) ∧ ∀ j k H, W j k H → (J.stop j H ∧ N H) ∨ (J.go j H ∧ ∃ Nx : Hp → Prop, (∀ H', Nx H' → ∃ k', k' < k ∧ W (j + 1) k' H') ∧
    ∀ x H', J.yld j H x H' → g x (wipe σ vs) H' fun τ H5 => wipe τ vs = wipe σ vs ∧ tt τ H5 fun b H6 => if b = true then rd τ H6 Nx else Nx H6)
/-- the slots of a clause's turn, as far as the next turn wants them -/
def Keeps (vs : List Nat) (τ τ' : L2.St) : Prop := τ'.length = τ.length ∧ ∀ (j : Nat) v, (wipe τ vs)[j]? = some (some v) → τ'[j]? = some (some v)
theorem Keeps.refl (vs : List Nat) (τ : L2.St) : Keeps vs τ τ := ⟨rfl, fun _ _ e => (wipe_some e).1⟩
section
variable {B : Cx} {elt t : Expr} {gens : List Comprehension} {scope : Scope} {pos p : Pos} {i : Nat} {ifs : List Expr} {k : Bool → Sem Fin} {it : Addr} {acc : Value} {fp : List Addr} {tn : Nat → Heap → Prop} {J : It} {g : TG} {tt : TT} {vs : List Nat}
  {rd : L2.St → Hp → (Hp → Prop) → Prop} {pins : List (Addr × Obj)} {σ : L2.St} {H : Hp} {s : Shared} {N : Hp → Prop} {R : Result → Shared → Prop}
theorem loop_walk (hc : B.calm = true) (hT : CTurn (.ListComp elt gens scope pos) i (.ref it) acc B.env p t ifs k) (hk : k false = again (.compLoop (.ListComp elt gens scope pos) i (.ref it) acc B.env))
    (pg : PG B t g) (pt : PTs B ifs tt) (T : Turn B.prog B.w B.K t J fp it tn) (hxe : B.xe = fun _ _ => False) (I : Inv B pins σ H s) (st : tn 0 s.heap) (nf : ∀ b ∈ fp, FpOk B pins H b) (L : CLap J g tt vs rd σ H N)
    (body : ∀ (h0 : Heap) (τ : L2.St) (H' : Hp) (s' : Shared) (Nx : Hp → Prop) (P : Shared → Prop), Inv B (pins ++ pinsAt fp h0) τ H' s' → rd τ H' Nx →
      (∀ τ' H2 s2, Inv B (pins ++ pinsAt fp h0) τ' H2 s2 → Keeps vs τ τ' → Nx H2 → P s2) → wpAny (model B.prog B.w) B.A (k true) (TurnsTo (.compLoop (.ListComp elt gens scope pos) i (.ref it) acc B.env) P) (fun _ _ => False) s')
    (hR : ∀ H' s', Inv B pins (wipe σ vs) H' s' → N H' → R (.ok .next) s') : codeAny (model B.prog B.w) B.A (.compLoop (.ListComp elt gens scope pos) i (.ref it) acc B.env) R s := by
  obtain ⟨W, ⟨m0, w0⟩, lap⟩ := L
  have fine : ∀ {H' : Hp}, (∀ b ∈ fp, H' b = none) → ∀ b ∈ fp, FpOk B pins H' b := fun n b hb => ⟨n b hb, (nf b hb).2⟩
  refine codeAny_loop rfl (fun n s' => ∃ j H', (Inv B pins (wipe σ vs) H' s' ∧ tn j s'.heap) ∧ ((∀ b ∈ fp, H' b = none) ∧ W j n H')) ?_ m0 ⟨0, H, ⟨I.weak (wipe_length _ _) (fun _ _ e => (wipe_some e).1), st⟩, fun b hb => (nf b hb).1, w0⟩
  rintro n s1 ⟨j, H1, ⟨I1, st1⟩, n1, w1⟩
  show wpAny _ B.A ((compTurn (.ListComp elt gens scope pos) i (.ref it) acc B.env).onRaise (fun x => do noteFrame x B.env; theTreesLotGoes x)) _ _ s1
  refine wpAny_noted (wpAny_mono (Q := fun fin s' => match fin with | .done f => R (.ok f) s' | .again c' => c' = .compLoop (.ListComp elt gens scope pos) i (.ref it) acc B.env ∧ ∃ m, m < n ∧ ∃ j H', (Inv B pins (wipe σ vs) H' s' ∧ tn j s'.heap) ∧ ((∀ b ∈ fp, H' b = none) ∧ W j m H')) (E := fun _ _ => False) ?_ (fun _ _ z => z) fun _ _ z => False.elim z)
  rw [hT]
  (refine wpAny_bind (wpAny_standAt (wpAny_bind ?_)))
  rcases lap j n H1 w1 with ⟨stop, nH⟩ | ⟨go, Nx, hNx, step⟩
  · refine thnF (T.done B rfl rfl rfl hc j pins s1 _ H1 _ I1 (fine n1) st1 stop) fun r s2 ⟨hr, I2⟩ => ?_
    subst hr
    exact wpAny_pure (hR H1 s2 I2 nH)
  · refine thnF (T.item B rfl rfl rfl hc j pins s1 _ H1 _ I1 (fine n1) st1 go) fun r s2 ⟨u, hr, h2⟩ => ?_
    subst hr
    refine wpAny_bind (thnF h2 fun _ s3 ⟨x, H3, I3, r3, y3, st3, n3⟩ => ?_)
    have pin3 := I3.pinned (fine n3) (T.obj _ _ st3)
    have h4 := pg.run _ s3 _ H3 x u _ pin3 r3 (step x H3 y3)
    rw [hxe] at h4
    refine wpAny_bind (thnF h4 fun _ s4 ⟨τ, H4, I4, hw, q4⟩ => ?_)
    have h5 := pt.run _ s4 τ H4 _ I4 q4
    rw [hxe] at h5
    refine wpAny_bind (thnF h5 fun ok s5 ⟨H5, I5, q5⟩ => ?_)
    have next : ∀ τ' H' s', Inv B (pins ++ pinsAt fp s3.heap) τ' H' s' → Keeps vs τ τ' → Nx H' → ∃ m, m < n ∧ ∃ j H', (Inv B pins (wipe σ vs) H' s' ∧ tn j s'.heap) ∧ ((∀ b ∈ fp, H' b = none) ∧ W j m H') := fun τ' H' s' I' kp nx => by
      obtain ⟨m', lt, w'⟩ := hNx H' nx
      have held : ∀ b ∈ fp, ∀ o, s3.heap.get? b = some o → s'.heap.get? b = some o ∧ H' b = none := fun b hb o e =>
        And.imp id And.left (I'.pin (b, o) (List.mem_append_right _ (List.mem_append_right _ (mem_pinsAt hb e))))
      refine ⟨m', lt, j + 1, H', ⟨(I'.unpinned (pins := pins)).weak ?_ fun a v e => ?_, T.keep _ _ _ st3 fun b hb o e => (held b hb o e).1⟩, fun b hb => ?_, w'⟩
      · rw [kp.1, ← wipe_length τ vs, hw]
      · exact kp.2 a v (hw ▸ e)
      · obtain ⟨o, e, _⟩ := T.obj _ _ st3 b hb
        exact (held b hb o e).2
    cases ok with
    | false =>
      rw [hk]
      exact wpAny_pure ⟨rfl, next τ H5 s5 I5 (Keeps.refl _ _) q5⟩
    | true =>
      refine wpAny_mono (body s3.heap τ H5 s5 Nx _ I5 q5 next) (fun fin s6 q6 => ?_) fun _ _ z => z
      cases fin with
      | done f => exact q6.elim
      | again c' => exact q6
/-- the last clause hands its item over -/
theorem emit_body {D : Addr} {te : TE} (hxe : B.xe = fun _ _ => False) (pe : PE B elt te)
    (hK : k true = ((do let _ ← call (.builtin "list.append") [.ref D, ← eval elt B.env]) >>= fun _ => again (.compLoop (.ListComp elt gens scope pos) i (.ref it) (.ref D) B.env)))
    (pl : List (Addr × Obj)) (τ : L2.St) (H' : Hp) (s' : Shared) (Nx : Hp → Prop) (P : Shared → Prop) (I : Inv B pl τ H' s') (q : te τ H' fun y H7 => ∃ acc, H7 D = some (.lst acc) ∧ acc.length < sizeLine ∧ Nx (upd H7 D (.lst (acc ++ [y]))))
    (nx : ∀ τ' H2 s2, Inv B pl τ' H2 s2 → Keeps vs τ τ' → Nx H2 → P s2) : wpAny (model B.prog B.w) B.A (k true) (TurnsTo (.compLoop (.ListComp elt gens scope pos) i (.ref it) (.ref D) B.env) P) (fun _ _ => False) s' := by
  rw [hK]
  have h := pe.run pl s' τ H' _ I q
  rw [hxe] at h
  refine wpAny_bind (wpAny_bind (thnF h fun z s1 ⟨y, H1, I1, r1, acc, hD, few, n1⟩ => ?_))
  exact wpAny_bind (app_ok I1 hD few r1 fun s2 I2 => wpAny_pure (wpAny_pure ⟨rfl, nx τ _ s2 I2 (Keeps.refl _ _) n1⟩))
/-- a clause behind another one begins -/
theorem clause_start {e1 : Expr} {t1 : Expr} {ifs1 : List Expr} {A : Around} {prog : Program} {w : World} {it1 : Value} {env : Env} (hg : gens[i]? = some ⟨t1, e1, ifs1, 0⟩)
    (h0 : codeAny (model prog w) A (.compLoop (.ListComp elt gens scope pos) i it1 acc env) R s)
    (h : wpAny (model prog w) A (pyIter it1) (fun it' s' => codeAny (model prog w) A (.compLoop (.ListComp elt gens scope pos) i it' acc env) R s') (notedBy (model prog w) A env fun x s' => R (.error x) s') s) :
    codeAny (model prog w) A (.compStart (.ListComp elt gens scope pos) i it1 acc env) R s := by
  refine codeAny_of_tree ?_
  show wpAny _ _ ((compStart (.ListComp elt gens scope pos) i it1 acc env).onRaise (fun x => do noteFrame x env; standAt theWindowsPlace)) _ _ s
  refine wpAny_notedAt ?_
  unfold compStart
  have hc : (clausesOf (.ListComp elt gens scope pos))[i]? = some ⟨t1, e1, ifs1, 0⟩ := hg
  rw [hc]
  (show wpAny _ _ (ask >>= _) _ _ s)
  (refine wpAny_bind (wpAny_askSetting (wpAny_ite ?_)))
  split
  · first
      | exact wpAny_bind (wpAny_pure (wpAny_pure ⟨rfl, h0⟩))
      | exact wpAny_pure ⟨rfl, h0⟩
  · (refine wpAny_bind (wpAny_rule ?_))
    refine wpAny_bind (wpAny_standAt (wpAny_bind (wpAny_mono h (fun it' s' h' => wpAny_pure ⟨rfl, h'⟩) fun _ _ x => x)))
theorem wipe_keeps {vs vs1 : List Nat} (h : ∀ v ∈ vs1, v ∈ vs) (τ : L2.St) : Keeps vs τ (wipe τ vs1) := ⟨wipe_length _ _, fun j v e => by
  (obtain ⟨e1, e2⟩ := wipe_some e)
  rw [wipe_out fun z => e2 (h j z)]
  exact e1⟩
/-- a clause ahead of another one walks it -/
theorem mid_body {D : Addr} {t1 e1 : Expr} {ifs1 : List Expr} {wi1 : TI} {g1 : TG} {tt1 : TT} {vs1 : List Nat} {rd1 : L2.St → Hp → (Hp → Prop) → Prop} (hxe : B.xe = fun _ _ => False) (hvs : ∀ v ∈ vs1, v ∈ vs) (hg : gens[i + 1]? = some ⟨t1, e1, ifs1, 0⟩) (pi : PI B t1 e1 wi1) (hs : ∀ x, foldedSetIterable e1 B.env x = pure x)
    (hK : k true = (eval e1 B.env >>= fun x => standAt e1.pos >>= fun _ => foldedSetIterable e1 B.env x >>= fun x => holding [x] (pyIter x) >>= fun it1 => runOwn (.compStart (.ListComp elt gens scope pos) (i + 1) it1 (.ref D) B.env) B.env >>= fun _ => again (.compLoop (.ListComp elt gens scope pos) i (.ref it) (.ref D) B.env)))
    (inner : ∀ (pl : List (Addr × Obj)) (τ : L2.St) (H1 : Hp) (s1 : Shared) (it1 : Addr) (fp1 : List Addr) (tn1 : Nat → Heap → Prop) (J1 : It) (N1 : Hp → Prop) (R1 : Result → Shared → Prop), Inv B pl τ H1 s1 → Turn B.prog B.w B.K t1 J1 fp1 it1 tn1 → tn1 0 s1.heap → (∀ b ∈ fp1, FpOk B pl H1 b) → CLap J1 g1 tt1 vs1 rd1 τ H1 N1 →
      (∀ H2 s2, Inv B pl (wipe τ vs1) H2 s2 → N1 H2 → R1 (.ok .next) s2) → codeAny (model B.prog B.w) B.A (.compLoop (.ListComp elt gens scope pos) (i + 1) (.ref it1) (.ref D) B.env) R1 s1)
    (pl : List (Addr × Obj)) (τ : L2.St) (H' : Hp) (s' : Shared) (Nx : Hp → Prop) (P : Shared → Prop) (I : Inv B pl τ H' s') (q : wi1 τ H' fun J1 H4 => CLap J1 g1 tt1 vs1 rd1 τ H4 Nx)
    (nx : ∀ τ' H2 s2, Inv B pl τ' H2 s2 → Keeps vs τ τ' → Nx H2 → P s2) : wpAny (model B.prog B.w) B.A (k true) (TurnsTo (.compLoop (.ListComp elt gens scope pos) i (.ref it) (.ref D) B.env) P) (fun _ _ => False) s' := by
  rw [hK]
  have h := pi.run pl s' τ H' _ I q
  rw [hxe] at h
  refine wpAny_bind (thnF h fun x s1 hx => wpAny_bind (wpAny_standAt (wpAny_bind (wpAny_of_eq (hs x) (wpAny_bind (wpAny_holding (thnF hx fun itv s2 h2 => ?_)))))))
  obtain ⟨it1, fp1, tn1, J1, H2, rfl, I2, T1, st2, f2, L1⟩ := h2
  have loop : codeAny (model B.prog B.w) B.A (.compLoop (.ListComp elt gens scope pos) (i + 1) (.ref it1) (.ref D) B.env) (fun r s3 => match r with | .ok _ => P s3 | .error _ => False) s2 :=
    inner pl τ H2 s2 it1 fp1 tn1 J1 Nx _ I2 T1 st2 f2 L1 fun H3 s3 I3 n3 => nx _ H3 s3 I3 (wipe_keeps hvs τ) n3
  (refine wpAny_bind (wpAny_runOwn ?_))
  rw [Around.mark_none]
  refine codeAny_mono (clause_start hg loop (T1.self B.A 0 _ _ _ st2 loop)) fun r s3 hr => ?_
  cases r with
  | ok f => exact wpAny_pure ⟨rfl, hr⟩
  | error e => exact hr.elim
end
/-- behind the tests of a clause ahead of another one -/
def kMid (e : Expr) (i : Nat) (it acc : Value) (env : Env) (e1 : Expr) (ok : Bool) : Sem Fin :=
  if ok = true then (eval e1 env >>= fun x => standAt e1.pos >>= fun _ => foldedSetIterable e1 env x >>= fun x => holding [x] (pyIter x) >>= fun it1 => runOwn (.compStart e (i + 1) it1 acc env) env >>= fun _ => again (.compLoop e i it acc env)) else again (.compLoop e i it acc env)
def kEnd (e : Expr) (i : Nat) (it acc : Value) (env : Env) (elt : Expr) (ok : Bool) : Sem Fin :=
  if ok = true then ((do let _ ← call (.builtin "list.append") [acc, ← eval elt env]) >>= fun _ => again (.compLoop e i it acc env)) else again (.compLoop e i it acc env)
section
variable {elt t0 i0 t1 i1 t2 i2 : Expr} {f0 f1 f2 : List Expr} {scope : Scope} {pos : Pos} {it acc : Value} {env : Env}
theorem turn3_0 : CTurn (.ListComp elt [⟨t0, i0, f0, 0⟩, ⟨t1, i1, f1, 0⟩, ⟨t2, i2, f2, 0⟩] scope pos) 0 it acc env i0.pos t0 f0 (kMid (.ListComp elt [⟨t0, i0, f0, 0⟩, ⟨t1, i1, f1, 0⟩, ⟨t2, i2, f2, 0⟩] scope pos) 0 it acc env i1) := by
  unfold CTurn kMid
  rfl
theorem turn3_1 : CTurn (.ListComp elt [⟨t0, i0, f0, 0⟩, ⟨t1, i1, f1, 0⟩, ⟨t2, i2, f2, 0⟩] scope pos) 1 it acc env i1.pos t1 f1 (kMid (.ListComp elt [⟨t0, i0, f0, 0⟩, ⟨t1, i1, f1, 0⟩, ⟨t2, i2, f2, 0⟩] scope pos) 1 it acc env i2) := by
  unfold CTurn kMid
  rfl
theorem turn3_2 : CTurn (.ListComp elt [⟨t0, i0, f0, 0⟩, ⟨t1, i1, f1, 0⟩, ⟨t2, i2, f2, 0⟩] scope pos) 2 it acc env i2.pos t2 f2 (kEnd (.ListComp elt [⟨t0, i0, f0, 0⟩, ⟨t1, i1, f1, 0⟩, ⟨t2, i2, f2, 0⟩] scope pos) 2 it acc env elt) := by
  unfold CTurn kEnd
  rfl
end
section
variable {X : Cx} {pins : List (Addr × Obj)} {σ : L2.St} {H : Hp} {s : Shared} -- both
/-- the block of a list comprehension round its first clause's loop -/
theorem block_core {Q : VK} {elt tg iter : Expr} {ifs : List Expr} {rest : List Comprehension} {scope : Scope} {own : List (Str × Nat)} {pos pos' : Pos} {wi : TI} {Rd : It → Addr → Hp → Prop} {use : Option (Value → Sem Unit)} {Qf : Value → Shared → Prop}
    (hN : X.N.Nodup) (I : Inv X pins σ H s) (hi : PI X tg iter wi) (ok : BlkOk X.N X.env.scope scope own) (hs : ∀ x, foldedSetIterable iter X.env x = pure x)
    (h : wi σ H fun J H1 => ∀ D, H1 D = none → Rd J D (upd H1 D (.lst [])))
    (loop : ∀ (J : It) (D : Addr) (s3 s4 : Shared) (H3 : Hp) (C it : Addr) (cl : List (Str × Addr)) (fp : List Addr) (tn : Nat → Heap → Prop) (R : Result → Shared → Prop), Inv (X.blk s3 H3 scope (compEnvC scope cl C X.env) fp) [] (wipe σ (own.map (·.2))) H3 s4 → Turn X.prog X.w X.K tg J fp it tn → tn 0 s4.heap →
      (∀ b ∈ fp, FpOk (X.blk s3 H3 scope (compEnvC scope cl C X.env) fp) [] H3 b) → Rd J D H3 → (∀ σ' H' s', Inv (X.blk s3 H3 scope (compEnvC scope cl C X.env) fp) [] σ' H' s' → Q (.ref D) H' → R (.ok .next) s') →
      codeAny (model X.prog X.w) X.A (.compLoop (.ListComp elt (⟨tg, iter, ifs, 0⟩ :: rest) scope pos) 0 (.ref it) (.ref D) (compEnvC scope cl C X.env)) R s4)
    (hRR : ∀ D C s' m H', Inv X pins σ H' s' → Q (.ref D) H' → s'.heap.Ns C m → FpOk X pins H' C → compPost (model X.prog X.w) X.A X.xe use Qf (.ref D) C (.ok .next) s') -- reached
    :
    wpAny (model X.prog X.w) X.A (comprehension (.ListComp elt (⟨tg, iter, ifs, 0⟩ :: rest) scope pos) scope X.env pos' (newList []) false (eval iter X.env) use) Qf X.xe s := by
  have free : ∀ y ∈ scope.names, y.2 = .free → ∃ c, X.env.cells.lookup y.1 = some c := fun y hy e => (ok.free y hy e).elim (fun z => I.ok.has _ (.inl z)) fun z => I.ok.has _ (.inr z)
  refine wpAny_comprehension_free (use := use) rfl hs (closure_ok free) ok.kind (fun y hy e => (ok.uniq y hy).trans (congrArg some e)) ?_
  refine thn (hi.run pins s σ H _ I h) fun xv s1 hx => thn hx fun itv s2 ⟨it, fp, tn, J, H2, ei, I2, T, st2, f2, q⟩ => ?_
  subst ei
  (refine wpAny_newObj_type (newEnv_comp ?_) (by show 0 ≤ sizeLine; decide))
  have rd := q s2.heap.objs.size (I2.hok.fresh (Nat.le_refl _))
  generalize es3 : ({ s2 with heap := s2.heap.push { cls := .type "list", data := .seq ([] : List Value).toArray } } : Shared) = s3
  have hp3 : s3.heap = s2.heap.push { cls := .type "list", data := .seq ([] : List Value).toArray } := congrArg (·.heap) es3.symm
  have I3 : Inv X pins σ (upd H2 s2.heap.objs.size (.lst [])) s3 := by
    subst es3
    exact I2.laid (t' := s2.toks) (fun b o e => Heap.get?_push_of_some _ e) (Nat.le_refl _) ⟨Nat.zero_le _, [], 0, .nil, Heap.get?_push_size _ rfl⟩
  have small : ∀ b ∈ fp, b < s2.heap.objs.size := fun b hb => let ⟨_, e, _⟩ := T.obj _ _ st2 b hb; Heap.lt_size e
  have f3 : ∀ b ∈ fp, FpOk X pins (upd H2 s2.heap.objs.size (.lst [])) b ∧ b < s3.heap.objs.size := fun b hb =>
    ⟨⟨(upd_ne (Nat.ne_of_lt (small b hb))).trans (f2 b hb).1, (f2 b hb).2⟩, by rw [hp3, Heap.size_push]; exact Nat.lt_succ_of_lt (small b hb)⟩
  have st3 : tn 0 s3.heap := T.keep _ _ _ st2 fun b _ o e => hp3 ▸ Heap.get?_push_of_some _ e
  (have I4 := block_start I3 ok hN f3)
  generalize upd H2 s2.heap.objs.size (.lst []) = H3 at I3 I4 rd f3
  generalize s2.heap.objs.size = D at rd
  have run := loop J D s3 { s3 with heap := pushCells (s3.heap.push { cls := .type "dict", data := .dict #[] }) scope.names } H3 s3.heap.objs.size it (cellsFrom (s3.heap.objs.size + 1) scope.names (cloFrom X.env.cells scope.names [])) fp tn
    (compPost (model X.prog X.w) X.A X.xe use Qf (.ref D) s3.heap.objs.size) I4 T (T.keep _ _ _ st3 fun b _ o e => pushCells_keeps _ _ _ _ (Heap.get?_push_of_some _ e))
    (fun b hb => ⟨(f3 b hb).1.1, (I4.ok.exf b hb).1, I4.ok.exfs b hb, .inl hb, fun x c e => (I4.ok.exf b hb).2 x c e, fun p hp => absurd (show p ∈ ([] : List (Addr × Obj)) ++ [] from hp) (by simp)⟩) rd
    fun σ5 H5 s5 I5 q5 => by
      have back : Inv X pins σ H5 s5 := I3.call' (ch := fp) I5.os I5.base I5.hok I5.bare fun b hb => ⟨(f3 b hb).1.2.2.2.1, (f3 b hb).1.2.1, (f3 b hb).1.2.2.2.2.1, (f3 b hb).1.2.2.2.2.2⟩
      have hole : H5 s3.heap.objs.size = none := I5.free
      obtain ⟨m, hn, _⟩ := I5.loc
      exact hRR D s3.heap.objs.size s5 m H5 back q5 hn (I3.fpOk (Nat.le_refl _) hole)
  exact codeAny_compStart_list run (T.self X.A 0 _ _ _ (T.keep _ _ _ st3 fun b _ o e => pushCells_keeps _ _ _ _ (Heap.get?_push_of_some _ e)) run)
/-- a block's reading from its first clause on; vs: the block's names, vs1, vs2: those of the second and third targets -/
def rd3 (g : TG) (tt : TT) (wi1 : TI) (g1 : TG) (tt1 : TT) (wi2 : TI) (g2 : TG) (tt2 : TT) (te : TE) (vs vs1 vs2 : List Nat) (σ : L2.St) (Q : VK) : It → Addr → Hp → Prop := fun J D H =>
  CLap J g tt vs (fun τ H4 Nx => wi1 τ H4 fun J1 H5 => CLap J1 g1 tt1 vs1 (fun τ1 H6 Nx1 => wi2 τ1 H6 fun J2 H7 => CLap J2 g2 tt2 vs2 (fun τ2 H8 Nx2 => te τ2 H8 fun y H9 => ∃ acc, H9 D = some (.lst acc) ∧ acc.length < sizeLine ∧ Nx2 (upd H9 D (.lst (acc ++ [y])))) τ1 H7 Nx1) τ H5 Nx) (wipe σ vs) H (Q (.ref D))
/-- [elt for tg in iter if .. for tg1 in iter1 if .. for tg2 in iter2 if ..] -/
def tLc3 (wi : TI) (g : TG) (tt : TT) (wi1 : TI) (g1 : TG) (tt1 : TT) (wi2 : TI) (g2 : TG) (tt2 : TT) (te : TE) (vs vs1 vs2 : List Nat) : TE := fun σ H Q => wi σ H fun J H1 => ∀ D, H1 D = none → rd3 g tt wi1 g1 tt1 wi2 g2 tt2 te vs vs1 vs2 σ Q J D (upd H1 D (.lst []))
section
variable {elt tg iter tg1 iter1 tg2 iter2 : Expr} {ifs ifs1 ifs2 : List Expr} {scope : Scope} {own : List (Str × Nat)} {vs1 vs2 : List Nat} {pos pos' spos py : Pos} {wi wi1 wi2 : TI} {g g1 g2 : TG} {tt tt1 tt2 : TT} {te : TE} {use : Option (Value → Sem Unit)} {Qf : Value → Shared → Prop} {Q : VK} {i : Nat} {y : Str}
/-- the contexts of a block -/
abbrev InBlk (X : Cx) (scope : Scope) (P : Cx → Prop) : Prop := ∀ (s : Shared) (H : Hp) (C : Addr) (cl : List (Str × Addr)) (fp : List Addr), P (X.blk s H scope (compEnvC scope cl C X.env) fp)
theorem lc3_core (hc : X.calm = true) (hN : X.N.Nodup) (I : Inv X pins σ H s) (hi : PI X tg iter wi) (ok : BlkOk X.N X.env.scope scope own) (hv1 : ∀ i ∈ vs1, i ∈ own.map (·.2)) (hv2 : ∀ i ∈ vs2, i ∈ vs1)
    (hg : InBlk X scope fun B => PG B tg g) (ht : InBlk X scope fun B => PTs B ifs tt) (hi1 : InBlk X scope fun B => PI B tg1 iter1 wi1) (hg1 : InBlk X scope fun B => PG B tg1 g1) (ht1 : InBlk X scope fun B => PTs B ifs1 tt1)
    (hi2 : InBlk X scope fun B => PI B tg2 iter2 wi2) (hg2 : InBlk X scope fun B => PG B tg2 g2) (ht2 : InBlk X scope fun B => PTs B ifs2 tt2) (he : InBlk X scope fun B => PE B elt te)
    (hs : ∀ x, foldedSetIterable iter X.env x = pure x) (hs1 : ∀ env x, foldedSetIterable iter1 env x = pure x) (hs2 : ∀ env x, foldedSetIterable iter2 env x = pure x)
    (h : tLc3 wi g tt wi1 g1 tt1 wi2 g2 tt2 te (own.map (·.2)) vs1 vs2 σ H Q)
    (hRR : ∀ D C s' m H', Inv X pins σ H' s' → Q (.ref D) H' → s'.heap.Ns C m → FpOk X pins H' C → compPost (model X.prog X.w) X.A X.xe use Qf (.ref D) C (.ok .next) s') -- reached
    :
    wpAny (model X.prog X.w) X.A (comprehension (.ListComp elt [⟨tg, iter, ifs, 0⟩, ⟨tg1, iter1, ifs1, 0⟩, ⟨tg2, iter2, ifs2, 0⟩] scope pos) scope X.env pos' (newList []) false (eval iter X.env) use) Qf X.xe s := by
  refine block_core (Rd := rd3 g tt wi1 g1 tt1 wi2 g2 tt2 te (own.map fun x : Str × Nat => x.2) vs1 vs2 σ Q) hN I hi ok hs h ?_ hRR
  intro J D s3 s4 H3 C it cl fp tn R I4 T st4 nf rd hR
  have pg := hg s3 H3 C cl fp
  have pt := ht s3 H3 C cl fp
  have pi1 := hi1 s3 H3 C cl fp
  have pg1 := hg1 s3 H3 C cl fp
  have pt1 := ht1 s3 H3 C cl fp
  have pi2 := hi2 s3 H3 C cl fp
  have pg2 := hg2 s3 H3 C cl fp
  have pt2 := ht2 s3 H3 C cl fp
  have pe := he s3 H3 C cl fp
  have es1 := hs1 (compEnvC scope cl C X.env)
  have es2 := hs2 (compEnvC scope cl C X.env)
  generalize hB : X.blk s3 H3 scope (compEnvC scope cl C X.env) fp = B at *
  have xe : B.xe = fun _ _ => False := by subst hB; rfl
  have cB : B.calm = true := by subst hB; exact hc
  have eE : compEnvC scope cl C X.env = B.env := by subst hB; rfl
  have eP : X.prog = B.prog := by subst hB; rfl
  have eW : X.w = B.w := by subst hB; rfl
  have eK : X.K = B.K := by subst hB; rfl
  have eA : X.A = B.A := by subst hB; rfl
  rw [eP, eW, eK] at T
  rw [eE] at es1 es2
  rw [eP, eW, eA, eE]
  refine loop_walk (k := kMid _ 0 _ _ _ iter1) cB turn3_0 rfl pg pt T xe I4 st4 nf rd ?_ (fun H' s' I' q => hR _ H' s' I' q)
  intro h0
  refine mid_body (t1 := tg1) (ifs1 := ifs1) (e1 := iter1) xe hv1 rfl pi1 es1 rfl ?_ _
  intro pl τ H1 s1 it1 fp1 tn1 J1 N1 R1 I1 T1 st1 f1 L1 hR1
  refine loop_walk (k := kMid _ 1 _ _ _ iter2) cB turn3_1 rfl pg1 pt1 T1 xe I1 st1 f1 L1 ?_ hR1
  intro h1
  refine mid_body (t1 := tg2) (ifs1 := ifs2) (e1 := iter2) xe hv2 rfl pi2 es2 rfl ?_ _
  intro pl2 τ2 H2 s2 it2 fp2 tn2 J2 N2 R2 I2 T2 st2 f2 L2 hR2
  refine loop_walk (k := kEnd _ 2 _ _ _ elt) cB turn3_2 rfl pg2 pt2 T2 xe I2 st2 f2 L2 ?_ hR2
  intro h2
  exact emit_body xe pe rfl _
theorem ps_setLc3 (hc : X.calm = true) (hN : X.N.Nodup) (hy : X.N[i]? = some y) (hyl : X.env.scope.names.lookup y = some .local)
    (hsw : swapsWith (.ListComp elt [⟨tg, iter, ifs, 0⟩, ⟨tg1, iter1, ifs1, 0⟩, ⟨tg2, iter2, ifs2, 0⟩] scope pos) (some (.Name y py)) spos.line X.env = pure true) (hi : PI X tg iter wi) (ok : BlkOk X.N X.env.scope scope own) (hv1 : ∀ i ∈ vs1, i ∈ own.map (·.2)) (hv2 : ∀ i ∈ vs2, i ∈ vs1)
    (hg : InBlk X scope fun B => PG B tg g) (ht : InBlk X scope fun B => PTs B ifs tt) (hi1 : InBlk X scope fun B => PI B tg1 iter1 wi1) (hg1 : InBlk X scope fun B => PG B tg1 g1) (ht1 : InBlk X scope fun B => PTs B ifs1 tt1)
    (hi2 : InBlk X scope fun B => PI B tg2 iter2 wi2) (hg2 : InBlk X scope fun B => PG B tg2 g2) (ht2 : InBlk X scope fun B => PTs B ifs2 tt2) (he : InBlk X scope fun B => PE B elt te)
    (hs : ∀ x, foldedSetIterable iter X.env x = pure x := by intro _; rfl) (hs1 : ∀ env x, foldedSetIterable iter1 env x = pure x := by intro _ _; rfl) (hs2 : ∀ env x, foldedSetIterable iter2 env x = pure x := by intro _ _; rfl) :
    PS X (.Assign [.Name y py] (.ListComp elt [⟨tg, iter, ifs, 0⟩, ⟨tg1, iter1, ifs1, 0⟩, ⟨tg2, iter2, ifs2, 0⟩] scope pos) spos) (tAsg (tLc3 wi g tt wi1 g1 tt1 wi2 g2 tt2 te (own.map (·.2)) vs1 vs2) (gName i)) := by
  refine ⟨fun pins s σ H D I h => ?_⟩
  (rw [exec_Assign_Name_used _ _ _ _ hsw])
  (refine wpAny_bind (wpAny_standAt (wpAny_bind ?_)))
  show wpAny _ X.A (do let _ ← comprehension (.ListComp elt [⟨tg, iter, ifs, 0⟩, ⟨tg1, iter1, ifs1, 0⟩, ⟨tg2, iter2, ifs2, 0⟩] scope pos) scope X.env (firstIterPos [⟨tg, iter, ifs, 0⟩, ⟨tg1, iter1, ifs1, 0⟩, ⟨tg2, iter2, ifs2, 0⟩] pos) (newList []) false (eval iter X.env) (some (assign (.Name y py) X.env))) _ _ s
  have h : tLc3 wi g tt wi1 g1 tt1 wi2 g2 tt2 te (own.map (·.2)) vs1 vs2 σ H (fun x H1 => gName i x σ H1 D.nx) := h
  refine wpAny_bind (thn (lc3_core (Qf := fun _ s' => SP X pins D .next s') hc hN I hi ok hv1 hv2 hg ht hi1 hg1 ht1 hi2 hg2 ht2 he hs hs1 hs2 h fun L C s' m H' I' q hn f => ?_) fun _ s' hq => wpAny_pure (wpAny_pure hq))
  (show wpAny _ _ (assign (.Name y py) X.env (.ref L)) _ _ _)
  (refine wpAny_assign_Name (store_ok2 (v := V.ref L) I' hN hy (.inl hyl) rfl (fun s2 I2 ⟨a, sb, ha⟩ => ?_) (.inr hyl)))
  have off : C ≠ a := ha.elim (fun z => z ▸ f.2.1) fun z e => f.2.2.2.2.1 y a z e.symm
  refine ⟨m, hn.sameBut sb off, fun h3 sb3 => ⟨_, H', I2.turned (t' := s2.toks) (fun b o hb e => (sb3.2 b hb).trans e) f.1 f.2.1 f.2.2.2.1 f.2.2.2.2.1 f.2.2.2.2.2, q⟩⟩
end
end
end U
namespace U
open PySem PySem.Spec PyProof.Rows L2

/-! ### several dicts locked at once -/
def tLockN (t : TS) : Nat → TS
  | 0 => t
  | n + 1 => tLock (tLockN t n)
def tLockS (t : TS) : TS := fun D σ H => ∃ n, tLockN t n D σ H
theorem ps_lockN {X : Cx} {st : Stmt} {t : TS} (h : PS X st t) : ∀ n, PS X st (tLockN t n)
  | 0 => h
  | n + 1 => ps_lock (ps_lockN h n)
theorem ps_lockS {X : Cx} {st : Stmt} {t : TS} (h : PS X st t) : PS X st (tLockS t) := ⟨fun pins s σ H D I hw => by
  obtain ⟨n, hw⟩ := hw
  exact (ps_lockN h n).run pins s σ H D I hw⟩
/-- a statement that goes on, while these dicts are locked -/
theorem locks {t : TS} {σ : L2.St} : ∀ (ds : List Addr) {D : Ends} {H : Hp}, ds.Nodup → (∀ d ∈ ds, ∃ kvs, H d = some (.dK kvs)) →
    (∀ (D1 : Ends) (H1 : Hp), (∀ b, b ∉ ds → H1 b = H b) → (∀ d ∈ ds, ∃ kvs od, H d = some (.dK kvs) ∧ H1 d = some (.frz od (.dK kvs))) →
      (∀ σ' H2, (∀ d ∈ ds, H2 d = H1 d) → (∀ Hu, (∀ b, b ∉ ds → Hu b = H2 b) → (∀ d ∈ ds, Hu d = H d) → D.nx σ' Hu) → D1.nx σ' H2) → t D1 σ H1) → tLockN t ds.length D σ H
  | [], D, H, _, _, key => key D H (fun _ _ => rfl) (fun _ m => nomatch m) fun σ' H2 _ q => q H2 (fun _ _ => rfl) fun _ m => nomatch m
  | d :: r, D, H, nd, hk, key => by
    obtain ⟨nm, nr⟩ := List.nodup_cons.mp nd
    obtain ⟨kvs, hd⟩ := hk d List.mem_cons_self
    have rd : ∀ {x : Addr}, x ∈ r → x ≠ d := fun m z => nm (z ▸ m)
    refine ⟨d, .dK kvs, hd, trivial, fun od => ?_⟩
    refine locks r nr (fun x m => ?_) fun D1 H1 o1 l1 q1 => ?_
    · obtain ⟨k2, h2⟩ := hk x (List.mem_cons_of_mem _ m)
      exact ⟨k2, by rw [upd_ne (rd m)]; exact h2⟩
    · have hd1 : H1 d = some (.frz od (.dK kvs)) := by rw [o1 d nm, upd_same]
      refine key D1 H1 (fun b nb => ?_) (fun x m => ?_) fun σ' H2 same q => ?_
      · rw [List.mem_cons, not_or] at nb
        rw [o1 b nb.2, upd_ne nb.1]
      · rcases List.mem_cons.mp m with rfl | m
        · exact ⟨kvs, od, hd, hd1⟩
        · obtain ⟨k2, o2, e1, e2⟩ := l1 x m
          rw [upd_ne (rd m)] at e1
          exact ⟨k2, o2, e1, e2⟩
      · refine q1 σ' H2 (fun x m => same x (List.mem_cons_of_mem _ m)) fun Hu a1 a2 => ?_
        have hud : Hu d = some (.frz od (.dK kvs)) := by rw [a1 d nm, same d List.mem_cons_self, hd1]
        refine ⟨hud, q _ (fun b nb => ?_) fun x m => ?_⟩
        · rw [List.mem_cons, not_or] at nb
          rw [upd_ne nb.1, a1 b nb.2]
        · rcases List.mem_cons.mp m with rfl | m
          · rw [upd_same, hd]
          · rw [upd_ne (rd m), a2 x m, upd_ne (rd m)]
theorem plain_Vd {d : Addr} {o : Obj} {kvs : List (Key × V)} : Plain (Itd d o kvs) (kvs.map fun p => p.2) fun H => H d = some (.frz o (.dK kvs)) where
  go := fun i H h lt => ⟨h, by simpa using lt⟩
  yld := fun i H x H' h ⟨e, k, h1⟩ => ⟨e, fun _ => by rw [List.getElem?_map, h1]; rfl⟩
  stop := fun i H h e => ⟨h, by simp at e; omega⟩
/-- a clause over what does not change -/
theorem clap_plain {J : It} {xs : List V} {G : Hp → Prop} (P : Plain J xs G) {g : TG} {tt : TT} {vs : List Nat} {rd : L2.St → Hp → (Hp → Prop) → Prop} {σ : L2.St} {H : Hp} {N : Hp → Prop} (Pv : Nat → Hp → Prop) (h0 : Pv 0 H) (hG : ∀ i H, Pv i H → G H)
    (hs : ∀ i x H, xs[i]? = some x → Pv i H → g x (wipe σ vs) H fun τ H5 => wipe τ vs = wipe σ vs ∧ tt τ H5 fun b H6 => if b = true then rd τ H6 (Pv (i + 1)) else Pv (i + 1) H6) (hd : ∀ H, Pv xs.length H → N H) : CLap J g tt vs rd σ H N := by
  refine ⟨fun i m H => m = xs.length - i ∧ (i ≤ xs.length ∧ Pv i H), ⟨_, rfl, Nat.zero_le _, h0⟩, ?_⟩
  rintro i m H1 ⟨rfl, le, p⟩
  by_cases lt : i < xs.length
  · refine .inr ⟨P.go i H1 (hG i H1 p) lt, Pv (i + 1), fun H' p' => ⟨xs.length - (i + 1), by omega, rfl, lt, p'⟩, fun x H' y => ?_⟩
    obtain ⟨rfl, hx⟩ := P.yld i H1 x H' (hG i H1 p) y
    exact hs i x H' (hx lt) p
  · have e : i = xs.length := Nat.le_antisymm le (Nat.le_of_not_lt lt)
    exact .inl ⟨P.stop i H1 (hG i H1 p) e, hd H1 (e ▸ p)⟩
end U
namespace U
open PySem PySem.Spec PyProof.Rows L2

/-! ### papers -/
abbrev Lvl := Nat → Nat → Option Int
/-- a list of dicts of costs -/
def LvT (H : Hp) (l : Addr) (fs : List Lvl) : Prop := ∃ ls : List Addr, H l = some (.lst (ls.map V.ref)) ∧ (ls.length = fs.length ∧ ((∀ (k : Nat) (d : Addr) (f : Lvl), ls[k]? = some d → fs[k]? = some f → H d = some (.dK (wayD f))) ∧ ls.Nodup))
theorem LvT.same {H H' : Hp} {l : Addr} {fs : List Lvl} (h : LvT H l fs) (e : Same H H') : LvT H' l fs := by
  obtain ⟨ls, h1, h2, h3, h4⟩ := h
  exact ⟨ls, e _ _ h1, h2, fun k d f a b => e _ _ (h3 k d f a b), h4⟩
theorem val_wayD (f : Lvl) {i j : Nat} (hi : i < 3) (hj : j < 3) (n : i ≠ j) : valV (wayD f) (.inr (wd [i, j])) = some (pV (f i j)) := by
  rcases (show i = 0 ∧ j = 1 ∨ i = 0 ∧ j = 2 ∨ i = 1 ∧ j = 0 ∨ i = 1 ∧ j = 2 ∨ i = 2 ∧ j = 0 ∨ i = 2 ∧ j = 1 by omega) with ⟨rfl, rfl⟩ | ⟨rfl, rfl⟩ | ⟨rfl, rfl⟩ | ⟨rfl, rfl⟩ | ⟨rfl, rfl⟩ | ⟨rfl, rfl⟩ <;> rfl
theorem dget_wayD {H : Hp} {c : Addr} {f : Lvl} {i j : Nat} (h : H c = some (.dK (wayD f))) (hi : i < 3) (hj : j < 3) (n : i ≠ j) : DGet H c (.str (wd [i, j])) (some (pV (f i j))) := by
  rw [← val_wayD f hi hj n]
  exact DGet.k (k := .inr (wd [i, j])) h
/-- may it stand in a table -/
def okC : V → Bool
  | .non => true
  | .int v => decide (0 ≤ v)
  | _ => false
def gotV (kvs : List (Key × V)) (w : Nat × Nat) : V := (valV kvs (.inr (wd [w.1, w.2]))).getD (.bl false)
/-- is a dict a table -/
def levB (kvs : List (Key × V)) : Bool := decide (kvs.length = 6) && waysN.all fun w => okC (gotV kvs w)
/-- what a value of a dict may be -/
def OkV (K : PySem.W.Frag) (H : Hp) : V → Prop
  | .ref p => ∃ xs, H p = some (.lst xs)
  | .non => True
  | .bl _ => True
  | .int _ => True
  | .str _ => True
  | _ => False
theorem OkV.same {K : PySem.W.Frag} {H H' : Hp} {v : V} (h : OkV K H v) (e : Same H H') : OkV K H' v := by
  cases v with
  | ref p =>
    obtain ⟨xs, h1⟩ := h
    exact ⟨xs, e _ _ h1⟩
  | _ => exact h
def DcV (K : PySem.W.Frag) (H : Hp) (d : Addr) (kvs : List (Key × V)) : Prop := H d = some (.dK kvs) ∧ ((∀ p ∈ kvs, OkV K H p.2) ∧ (kvs.map (·.1)).Nodup)
theorem DcV.same {K : PySem.W.Frag} {H H' : Hp} {d : Addr} {kvs : List (Key × V)} (h : DcV K H d kvs) (e : Same H H') : DcV K H' d kvs := ⟨e _ _ h.1, fun p m => (h.2.1 p m).same e, h.2.2⟩
theorem DcV.got {K : PySem.W.Frag} {H : Hp} {d : Addr} {kvs : List (Key × V)} (h : DcV K H d kvs) (w : Nat × Nat) : OkV K H (gotV kvs w) := by
  unfold gotV valV
  cases e : kvs.find? fun kv => decide (kv.1 = .inr (wd [w.1, w.2])) with
  | none => trivial
  | some p => exact h.2.1 p (List.mem_of_find?_eq_some e)
/-- an item of what may be a paper, and whether it is a table -/
def ItB (K : PySem.W.Frag) (H : Hp) (v : V) (b : Bool) : Prop := (∃ a, Is K H v a ∧ a ≠ .dct ∧ b = false) ∨ ∃ d kvs, v = .ref d ∧ DcV K H d kvs ∧ b = levB kvs
theorem ItB.same {K : PySem.W.Frag} {H H' : Hp} {v : V} {b : Bool} (h : ItB K H v b) (e : Same H H') : ItB K H' v b := by
  rcases h with ⟨a, h1, h2⟩ | ⟨d, kvs, h1, h2, h3⟩
  · exact .inl ⟨a, h1.same e, h2⟩
  · exact .inr ⟨d, kvs, h1, h2.same e, h3⟩
def zeroB : V → Bool
  | .int v => decide (v = 0)
  | _ => false
def sp__is_level (K : PySem.W.Frag) : Sp := sp2 fun x nm H Q _ => nm = .ref (He.ga K "WAYS") ∧ ∃ b, ItB K H x b ∧ ∀ H', Same H H' → Q (.bl b) H'
/-- is a list or tuple of items such that the first one has zeros only -/
def levsB (n : Int) (bs : List Bool) (k0 : List (Key × V)) : Bool := decide ((bs.length : Int) = n) && (bs.all id && waysN.all fun w => zeroB (gotV k0 w))
def sp_are_levels (K : PySem.W.Frag) : Sp := sp3 fun x n nm H Q _ => nm = .ref (He.ga K "WAYS") ∧ ∃ k : Int, n = .int k ∧ ((∃ a, Is K H x a ∧ a ≠ .lst ∧ a ≠ .tup ∧ ∀ H', Same H H' → Q (.bl false) H') ∨
  ∃ p xs bs k0, x = .ref p ∧ SqA K H p xs ∧ xs.length ≤ 1000 ∧ bs.length = xs.length ∧ (∀ (i : Nat) v b, xs[i]? = some v → bs[i]? = some b → ItB K H v b) ∧ (∀ v, xs[0]? = some v → bs.all id = true → (bs.length : Int) = k → ∃ d, v = .ref d ∧ DcV K H d k0) ∧ 1 ≤ k ∧ ∀ H', Same H H' → Q (.bl (levsB k bs k0)) H')
def t__is_level (K : PySem.W.Frag) (E : XK) : TS := (tSeq (tIfS (tOr (tNot (tB (tCB (uIsi K) (tCons (tVar 0) (tCons (tC (.ty "dict")) tNil))))) (tTest (tOp (uNe K) (tCB rLenD (tCons (tVar 0) tNil)) (tCB (uLen K) (tCons (tVar 1) tNil))))) (tRet (tC (.bl false))) tNext) (tSeq (tAsg (tLc (iSeq K (tVar 1)) (gName 3) tYes (tDGet2 (tVar 0) (tVar 3) (tC (.bl false))) [3]) (gName 2)) (tRet (tCB (rAll K) (tCons (tLc (iSeq K (tVar 2)) (gName 4) tYes (tOrV (tOp uIs (tVar 4) (tC .non)) (tAndV (tCB (uIsi K) (tCons (tVar 4) (tCons (tC (.ty "int")) tNil))) (tAndV (tNotV (tCB (uIsi K) (tCons (tVar 4) (tCons (tC (.ty "bool")) tNil)))) (tOp uGe (tVar 4) (tC (.int 0)))))) [4]) tNil)))))
def t_are_levels (K : PySem.W.Frag) (E : XK) : TS := (tRet (tAndV (tCB (uIsi K) (tCons (tVar 0) (tCons (tTup (tCons (tC (.ty "list")) (tCons (tC (.ty "tuple")) tNil))) tNil))) (tAndV (tOp (uEq K) (tCB (uLen K) (tCons (tVar 0) tNil)) (tVar 1)) (tAndV (tCB (rAll K) (tCons (tLc (iSeq K (tVar 0)) (gName 3) tYes (tFn (sp__is_level K) E0 (tCons (tVar 3) (tCons (tVar 2) tNil))) [3]) tNil)) (tCB (rAll K) (tCons (tLc (iSeq K (tVar 2)) (gName 4) tYes (tOp (uEq K) (tDGet (tOp (uIx K) (tVar 0) (tC (.int 0))) (tVar 4)) (tC (.int 0))) [4]) tNil))))))
section
variable {K : PySem.W.Frag} (F : KF K) (R : KR K) {vs : List V} {H : Hp} {Q : VK} {E : XK}
local macro_rules | `(tactic| walk_at "w") => `(tactic| try simp only [turnE, lcT, Snoc, tRet, tRetN, tAndV, tOrV, tNotV, tCB, tCons, tVar, tNil, tC, tOp, tSeq, tAsg, gName, gSub, tIfS, tDrop, tFn, tTup, tLst, tNext, tB, tTest, tNot, tAnd, tOr, tIf, tChain, tUn, rU, tFld, tPart, tNoPart, L2.tSl, tBM, tPar, tPar3, tTruth, tDNewK,
  L2.start, List.map_cons, List.map_nil, List.length_cons, List.length_nil, List.replicate_succ, List.replicate_zero, List.append_nil, List.nil_append, List.cons_append, List.singleton_append, Nat.sub_self, Nat.zero_add, Nat.reduceAdd, Nat.reduceSub,
  List.getElem?_cons_zero, List.getElem?_cons_succ, List.set_cons_zero, List.set_cons_succ, Option.some.injEq, exists_eq_left, exists_eq_left', V.int.injEq, V.bl.injEq, V.str.injEq, V.ref.injEq,
  uAdd_int, uAdd_str, uSub_int, uMul_int, uMul_str, uDiv_int, uMod_int, uPow_int, uLt_int, uLe_int, uGt_int, uGe_int, uIs_non, uNis_non, uIs_bl, uNis_bl, sp1, sp2, sp3, sp4, uEq_int, uEq_str, uNe_int, uNe_str, uSl_str, uLen_str, decide_eq_true_eq])
local macro_rules | `(tactic| walk_at "1") => `(tactic| try simp only [turnE, lcT, Snoc, tRet, tRetN, tAndV, tOrV, tNotV, tCB, tCons, tVar, tNil, tC, tOp, tAsg, gName, gSub, tIfS, tDrop, tFn, tTup, tLst, tNext, tB, tTest, tNot, tAnd, tOr, tIf, tChain, tUn, rU, tFld, tPart, tNoPart, L2.tSl, tBM, tPar, tPar3, tTruth, tDNewK,
  L2.start, List.map_cons, List.map_nil, List.length_cons, List.length_nil, List.replicate_succ, List.replicate_zero, List.append_nil, List.nil_append, List.cons_append, List.singleton_append, Nat.sub_self, Nat.zero_add, Nat.reduceAdd, Nat.reduceSub,
  List.getElem?_cons_zero, List.getElem?_cons_succ, List.set_cons_zero, List.set_cons_succ, Option.some.injEq, exists_eq_left, exists_eq_left', V.int.injEq, V.bl.injEq, V.str.injEq, V.ref.injEq,
  uAdd_int, uAdd_str, uSub_int, uMul_int, uMul_str, uDiv_int, uMod_int, uPow_int, uLt_int, uLe_int, uGt_int, uGe_int, uIs_non, uNis_non, uIs_bl, uNis_bl, sp1, sp2, sp3, sp4, uEq_int, uEq_str, uNe_int, uNe_str, uSl_str, uLen_str, decide_eq_true_eq])
local macro_rules | `(tactic| walk_at "s") => `(tactic| ((try dsimp only [turnE]); with_reducible refine seq_ ?_))

include F in
theorem over_ways {g : TG} {tt : TT} {te : TE} {ws : List Nat} {σ : L2.St} {t : TE} (ht : ∀ Q, t σ H Q = Q (.ref (He.ga K "WAYS")) H) (hc : ∀ (J : It) (G : Hp → Prop), Plain J (waysN.map fun w => V.str (wd [w.1, w.2])) G → (∀ H', Same H H' → G H') → ∀ D, H D = none → LcB J g tt te ws σ H D (Q (.ref D))) : tLc (iSeq K t) g tt te ws σ H Q :=
  tLc_seq (p := He.ga K "WAYS") (xs := waysN.map fun w => V.str (wd [w.1, w.2])) (.inr (ways6V ▸ F.ways H)) ht hc
/-- [te for ..] whose items are truths -/
theorem all_bools {J : It} {G : Hp → Prop} {xs : List V} (P : Plain J xs G) {te : TE} {j : Nat} {σ : L2.St} {D : Addr} {Qd : Hp → Prop} (bs : List Bool) (hb : bs.length = xs.length) (hD : H D = none) (hl : xs.length ≤ 1000) (hG : ∀ H', Same H H' → G H')
    (hs : ∀ (i : Nat) (x : V) (b : Bool) (H2 : Hp) (Q : VK), xs[i]? = some x → bs[i]? = some b → Same H H2 → (∀ H4, Same H2 H4 → Q (.bl b) H4) → te (σ.set j (some x)) H2 Q)
    (hd : ∀ H2, Same H H2 → H2 D = some (.lst (bs.map V.bl)) → Qd H2) : LcB J (gName j) tYes te [j] σ H D Qd := by
  refine lc_grow P (fun acc _ => acc = (bs.take acc.length).map V.bl) hD (Nat.le_trans hl (by decide)) hG (fun _ _ => rfl) (fun _ _ _ _ _ _ z => z) ?_ ?_
  · intro i x acc H2 Q2 hx s2 la r go
    have lt : i < bs.length := by have := (List.getElem?_eq_some_iff.mp hx).1; omega
    refine hs i x bs[i] H2 Q2 hx (List.getElem?_eq_getElem lt) s2 fun H4 s4 => go _ H4 s4 ?_
    have r' : acc = (bs.take i).map V.bl := by rw [← la]; exact r
    rw [List.length_append, List.length_singleton, la, List.take_succ, List.getElem?_eq_getElem lt, List.map_append, ← r']
    rfl
  · intro acc H2 la s2 gD r
    refine hd H2 s2 ?_
    rw [gD, r, la, ← hb, List.take_length]
include F in
theorem read__is_level (h : sp__is_level K vs H Q E) : t__is_level K E { nx := fun _ H' => Q .non H', rt := Q } (start ["value", "names", "costs", "name", "cost"] vs) H := by
  match vs, h with
  | [_, _], ⟨rfl, b, hb, q⟩ =>
    unfold t__is_level
    walk_at "s"
    walk_at "1"
    rcases hb with ⟨a, ka, na, rfl⟩ | ⟨d, kvs, rfl, hd, rfl⟩
    · refine isi_ty F (b := .dct) rfl ka ⟨_, rfl, ?_⟩
      have e : a.sub .dct = false := by cases a <;> first | rfl | exact absurd rfl na
      rw [e]
      exact q H (Same.refl _)
    · have gd := hd.1
      refine isi_ty F (b := .dct) rfl (is_dct gd) ⟨_, rfl, ?_⟩
      rw [if_neg (by decide)]
      refine ⟨d, _, rfl, gd, ?_⟩
      refine uLen_seq (.inr (F.ways H)) ?_
      walk_at "1"
      by_cases h6 : kvs.length = 6
      · rw [if_neg (by simp [h6])]
        walk_at "s"
        refine over_ways F (tVar_eq rfl) fun J G P hG C nC => ?_
        refine lc_grow P (fun acc _ => acc = (waysN.take acc.length).map fun w => gotV kvs w) nC (by decide) hG (fun _ _ => rfl) (fun _ _ _ _ _ _ z => z) ?_ ?_
        · intro i x acc H2 Q2 hx s2 la r go
          rw [List.getElem?_map] at hx
          obtain ⟨w, hw, rfl⟩ := Option.map_eq_some_iff.mp hx
          have g2 := s2 _ _ gd
          simp only [tDGet2, List.set_cons_zero, List.set_cons_succ]
          walk_at "1"
          refine ⟨.inl ⟨_, .inl g2⟩, _, DGet.k (k := .inr (wd [w.1, w.2])) g2, go _ H2 (Same.refl _) ?_⟩
          have r' : acc = (waysN.take i).map fun w => gotV kvs w := by rw [← la]; exact r
          rw [List.length_append, List.length_singleton, la, List.take_succ, hw, List.map_append, ← r']
          rfl
        · intro acc H2 la s2 gC r
          rw [la, List.length_map, List.take_of_length_le (Nat.le_refl _)] at r
          subst r
          simp only [List.set_cons_zero, List.set_cons_succ]
          walk_at "1"
          refine tLc_seq (p := C) (xs := waysN.map fun w => gotV kvs w) (.inl (.inl (.inl gC))) (tVar_eq rfl) fun J2 G2 P2 hG2 D nD => ?_
          refine all_bools P2 (waysN.map fun w => okC (gotV kvs w)) (by rw [List.length_map, List.length_map]) nD (by rw [List.length_map]; decide) hG2 ?_ fun H3 s3 gD => ?_
          · intro i x b H3 Q3 hx hb s3 go
            rw [List.getElem?_map] at hx hb
            obtain ⟨w, hw, rfl⟩ := Option.map_eq_some_iff.mp hx
            rw [hw] at hb
            injection hb with hb
            subst hb
            have ok : OkV K H3 (gotV kvs w) := (hd.got w).same (s2.trans s3)
            have go : Q3 (.bl (okC (gotV kvs w))) H3 := go H3 (Same.refl _)
            generalize gotV kvs w = v at *
            walk_at "1"
            cases v with
            | non =>
              rw [if_pos rfl]
              exact go
            | bl c =>
              rw [if_neg (by intro z; cases z)]
              refine isi_ty F (b := .int) rfl (is_bl c) ⟨true, rfl, ?_⟩
              rw [if_pos rfl]
              refine isi_ty F (b := .bl) rfl (is_bl c) ⟨true, rfl, ?_⟩
              exact go
            | int c =>
              rw [if_neg (by intro z; cases z)]
              refine isi_ty F (b := .int) rfl (is_int c) ⟨true, rfl, ?_⟩
              rw [if_pos rfl]
              refine isi_ty F (b := .bl) rfl (is_int c) ⟨false, rfl, ?_⟩
              exact go
            | str c =>
              rw [if_neg (by intro z; cases z)]
              refine isi_ty F (b := .int) rfl (is_str c) ⟨false, rfl, ?_⟩
              exact go
            | ref p =>
              rw [if_neg (by intro z; cases z)]
              obtain ⟨xs, hx⟩ := ok
              exact isi_ty F (b := .int) rfl (is_lst hx) ⟨false, rfl, go⟩
            | _ => exact ok.elim
          · refine ⟨D, _, rfl, .inl (.inl gD), ?_⟩
            have e : (waysN.map fun w => okC (gotV kvs w)).all id = levB kvs := by
              unfold levB
              rw [h6, decide_eq_true rfl, Bool.true_and, List.all_map]
              rfl
            rw [e]
            exact q H3 (s2.trans s3)
      · rw [if_pos (by simp; omega)]
        have e : levB kvs = false := by unfold levB; rw [decide_eq_false h6, Bool.false_and]
        rw [e] at q
        exact q H (Same.refl _)
include F in
theorem read_are_levels (h : sp_are_levels K vs H Q E) : t_are_levels K E { nx := fun _ H' => Q .non H', rt := Q } (start ["value", "count", "names", "level", "name"] vs) H := by
  match vs, h with
  | [_, _, _], ⟨rfl, k, rfl, h⟩ =>
    unfold t_are_levels
    walk_at "1"
    refine ⟨by decide, fun T nT => ?_⟩
    have s1 : Same H (upd H T (.tup [.ty "list", .ty "tuple"])) := same_new nT
    have gT : upd H T (.tup [.ty "list", .ty "tuple"]) T = some (.tup [.ty "list", .ty "tuple"]) := upd_same
    generalize upd H T (.tup [.ty "list", .ty "tuple"]) = H1 at *
    rcases h with ⟨a, ka, n1, n2, q⟩ | ⟨p, xs, bs, k0, rfl, hp, few, lb, items, first, k1, q⟩
    · refine isi_seq F gT (ka.same s1) ⟨false, ?_, ?_⟩
      · congr 1
        cases a <;> first | rfl | exact absurd rfl n1 | exact absurd rfl n2
      · exact q H1 s1
    · have hp1 := hp.same s1
      have kp : ∃ a, Is K H1 (.ref p) a ∧ (a.sub .lst || a.sub .tup) = true := by
        rcases hp1 with z | z
        · exact ⟨_, is_sqL z, rfl⟩
        · exact ⟨_, is_sqT z, rfl⟩
      obtain ⟨a, ka, sa⟩ := kp
      refine isi_seq F gT ka ⟨true, by rw [sa], ?_⟩
      rw [if_pos rfl]
      refine uLen_seq hp1 ?_
      walk_at "1"
      by_cases e : (xs.length : Int) = k
      · rw [if_pos e]
        refine tLc_seq (p := p) (xs := xs) hp1 (tVar_eq rfl) fun J G P hG C nC => ?_
        refine all_bools P bs lb nC few hG ?_ fun H2 s2 gC => ?_
        · intro i x b H2 Q2 hx hb s2 go
          walk_at "1"
          exact ⟨rfl, b, ((items i x b hx hb).same s1).same s2, go⟩
        · refine ⟨C, bs, rfl, .inl (.inl gC), ⟨_, rfl, ?_⟩⟩
          have s12 := s1.trans s2
          by_cases ea : bs.all id = true
          · rw [if_pos ea]
            have lt : 0 < xs.length := by omega
            have hx0 : xs[0]? = some xs[0] := List.getElem?_eq_getElem lt
            have hb0 : bs[0]? = some (bs[0]'(by omega)) := List.getElem?_eq_getElem _
            have tb : bs[0]'(by omega) = true := List.all_eq_true.mp ea _ (List.getElem_mem _)
            obtain ⟨d, ed, hd⟩ := first _ hx0 ea (by rw [lb]; exact e)
            have lev : levB k0 = true := by
              rcases items 0 _ _ hx0 hb0 with ⟨_, _, _, z⟩ | ⟨d', kvs, e1, h1, h2⟩
              · rw [tb] at z; cases z
              · rw [ed] at e1
                injection e1 with e1
                subst e1
                have := h1.1.symm.trans hd.1
                injection this with this
                injection this with this
                rw [← this, ← h2, tb]
            have okw : ∀ w ∈ waysN, okC (gotV k0 w) = true := by
              unfold levB at lev
              exact List.all_eq_true.mp (Bool.and_eq_true _ _ ▸ lev).2
            refine over_ways F (tVar_eq rfl) fun J2 G2 P2 hG2 D nD => ?_
            refine all_bools P2 (waysN.map fun w => zeroB (gotV k0 w)) (by rw [List.length_map, List.length_map]) nD (by decide) hG2 ?_ fun H3 s3 gD => ?_
            · intro i x b H3 Q3 hx hb s3 go
              rw [List.getElem?_map] at hx hb
              obtain ⟨w, hw, rfl⟩ := Option.map_eq_some_iff.mp hx
              rw [hw] at hb
              injection hb with hb
              subst hb
              have ok := okw w (List.mem_of_getElem? hw)
              have go : Q3 (.bl (zeroB (gotV k0 w))) H3 := go H3 (Same.refl _)
              have s13 := s12.trans s3
              have hvl : valV k0 (.inr (wd [w.1, w.2])) = some (gotV k0 w) := by
                unfold gotV at ok ⊢
                cases ev : valV k0 (.inr (wd [w.1, w.2])) with
                | none => rw [ev] at ok; cases ok
                | some v => rfl
              walk_at "1"
              simp only [tDGet]
              walk_at "1"
              refine ⟨xs, xs[0], hp.same s13, at_nat (k := 0) hx0, ?_⟩
              rw [ed]
              refine ⟨d, _, rfl, hvl ▸ DGet.k (k := .inr (wd [w.1, w.2])) (s13 _ _ hd.1), ?_⟩
              generalize gotV k0 w = v at *
              cases v with
              | non => exact ⟨rfl, go⟩
              | int c => exact go
              | _ => cases ok
            · refine ⟨D, _, rfl, .inl (.inl gD), ?_⟩
              have : (waysN.map fun w => zeroB (gotV k0 w)).all id = levsB k bs k0 := by
                unfold levsB
                rw [lb, decide_eq_true e, ea, Bool.true_and, Bool.true_and, List.all_map]
                rfl
              rw [this]
              exact q H3 (s12.trans s3)
          · rw [if_neg ea]
            have : levsB k bs k0 = false := by
              unfold levsB
              rw [Bool.not_eq_true] at ea
              rw [ea, Bool.false_and, Bool.and_false]
            rw [this] at q
            exact q H2 s12
      · rw [if_neg e]
        have : levsB k bs k0 = false := by unfold levsB; rw [lb, decide_eq_false e, Bool.false_and]
        rw [this] at q
        exact q H1 s1
end
end U
namespace U
open PySem PySem.Spec PyProof.Rows L2

abbrev LL := List (List (Option Int))
/-! ### moves and walks -/
/-- one move with its price: the largest crate, or one of the rest -/
inductive Stp : LL → List Nat → List Nat → Int → Prop
  | big {r rs d p es c} (hd : d < 3) (hp : p < 3) (ne : p ≠ d) (h1 : d ∉ es) (h2 : p ∉ es) (hc : prF r d p = some c) : Stp (r :: rs) (d :: es) (p :: es) c
  | small {r rs d es fs c} (h : Stp rs es fs c) : Stp (r :: rs) (d :: es) (d :: fs) c
inductive Wlk (rows : LL) : List Nat → List Nat → Int → Prop
  | nil {s} : Wlk rows s s 0
  | cons {s t u a b} (h : Stp rows s t a) (w : Wlk rows t u b) : Wlk rows s u (a + b)
theorem Wlk.trans {rows : LL} {s t u : List Nat} {a b : Int} (h : Wlk rows s t a) (g : Wlk rows t u b) : Wlk rows s u (a + b) := by
  induction h with
  | nil => rw [Int.zero_add]; exact g
  | cons h w ih => rw [Int.add_assoc]; exact .cons h (ih g)
theorem Wlk.one {rows : LL} {s t : List Nat} {a : Int} (h : Stp rows s t a) : Wlk rows s t a := by
  have := Wlk.cons h (.nil (s := t))
  rwa [Int.add_zero] at this
theorem Stp.d3 {rows : LL} {s t : List Nat} {c : Int} (h : Stp rows s t c) (g : D3 s) : D3 t := by
  induction h with
  | big hd hp ne h1 h2 hc =>
    intro x m
    rcases List.mem_cons.mp m with rfl | m
    · exact hp
    · exact g x (List.mem_cons_of_mem _ m)
  | small h ih =>
    intro x m
    rcases List.mem_cons.mp m with rfl | m
    · exact g _ List.mem_cons_self
    · exact ih (fun y my => g y (List.mem_cons_of_mem _ my)) x m
theorem Stp.len {rows : LL} {s t : List Nat} {c : Int} (h : Stp rows s t c) : t.length = s.length := by
  induction h with
  | big => rfl
  | small h ih => simp [ih]
theorem Wlk.len {rows : LL} {s t : List Nat} {c : Int} (h : Wlk rows s t c) : t.length = s.length := by
  induction h with
  | nil => rfl
  | cons h w ih => rw [ih, h.len]
theorem Wlk.d3 {rows : LL} {s t : List Nat} {c : Int} (h : Wlk rows s t c) (g : D3 s) : D3 t := by
  induction h with
  | nil => exact g
  | cons h w ih => exact ih (h.d3 g)
/-- prices are not negative -/
def PosR (rows : LL) : Prop := ∀ r ∈ rows, ∀ v, some v ∈ r → 0 < v
theorem PosR.tail {r : List (Option Int)} {rs : LL} (h : PosR (r :: rs)) : PosR rs := fun x m => h x (List.mem_cons_of_mem _ m)
theorem prF_mem {r : List (Option Int)} {i j : Nat} {v : Int} (h : prF r i j = some v) : some v ∈ r := by
  unfold prF at h
  cases e : r[colN i j]? with
  | none => (rw [e] at h; cases h)
  | some o =>
    rw [e] at h
    have : o = some v := h
    exact this ▸ List.mem_of_getElem? e
theorem Stp.pos {rows : LL} {s t : List Nat} {c : Int} (h : Stp rows s t c) (g : PosR rows) : 0 < c := by
  induction h with
  | big hd hp ne h1 h2 hc => exact g _ List.mem_cons_self _ (prF_mem hc)
  | small h ih => exact ih g.tail
theorem Wlk.nonneg {rows : LL} {s t : List Nat} {c : Int} (h : Wlk rows s t c) (g : PosR rows) : 0 ≤ c := by
  induction h with
  | nil => exact Int.le_refl _
  | cons h w ih => have := h.pos g; omega
/-! ### the least cost -/
def Least (rows : LL) (s t : List Nat) : Option Int → Prop
  | none => ∀ C, ¬ Wlk rows s t C
  | some v => Wlk rows s t v ∧ ∀ C, Wlk rows s t C → v ≤ C
theorem Least.uniq {rows : LL} {s t : List Nat} {o p : Option Int} (h : Least rows s t o) (g : Least rows s t p) : o = p := by
  cases o with
  | none =>
    cases p with
    | none => rfl
    | some v => exact absurd g.1 (h v)
  | some u =>
    cases p with
    | none => exact absurd h.1 (g u)
    | some v => exact congrArg some (Int.le_antisymm (h.2 _ g.1) (g.2 _ h.1))
theorem Least.some_of {rows : LL} {s t : List Nat} {o : Option Int} {a : Int} (h : Least rows s t o) (w : Wlk rows s t a) : ∃ v, o = some v ∧ Wlk rows s t v ∧ v ≤ a := by
  cases o with
  | none => exact absurd w (h a)
  | some v => exact ⟨v, rfl, h.1, h.2 a w⟩
end U
namespace U
open PySem PySem.Spec PyProof.Rows L2

/-! ### tables of costs by arrangements -/
abbrev Cst := List (List Nat × Int)
def getC (cs : Cst) (w : List Nat) : Option Int := (cs.find? fun p => decide (p.1 = w)).map (·.2)
theorem getC_pos {p : List Nat × Int} {r : Cst} {w : List Nat} (e : p.1 = w) : getC (p :: r) w = some p.2 := by simp [getC, List.find?_cons, e]
theorem getC_neg {p : List Nat × Int} {r : Cst} {w : List Nat} (e : ¬ p.1 = w) : getC (p :: r) w = getC r w := by simp [getC, List.find?_cons, e]
theorem getC_any (w : List Nat) : ∀ cs : Cst, (cs.any fun p => decide (p.1 = w)) = (getC cs w).isSome
  | [] => rfl
  | p :: r => by
    rw [List.any_cons]
    by_cases e : p.1 = w
    · simp only [getC_pos e, decide_eq_true e, Bool.true_or, Option.isSome_some]
    · rw [getC_neg e, decide_eq_false e, Bool.false_or]; exact getC_any w r
theorem getC_key {cs : Cst} {w : List Nat} : (getC cs w).isSome = true ↔ w ∈ cs.map (·.1) := by
  rw [← getC_any, List.any_eq_true]
  constructor
  · rintro ⟨p, m, e⟩
    exact List.mem_map.mpr ⟨p, m, of_decide_eq_true e⟩
  · intro m
    obtain ⟨p, mp, e⟩ := List.mem_map.mp m
    exact ⟨p, mp, decide_eq_true e⟩
/-! ### lists without doubles -/
theorem nodup_le {α : Type} [DecidableEq α] : ∀ {l m : List α}, l.Nodup → (∀ x ∈ l, x ∈ m) → l.length ≤ m.length
  | [], _, _, _ => (Nat.zero_le _)
  | x :: l, m, h, s => by
    rw [List.nodup_cons] at h
    have hx := s x List.mem_cons_self
    have i := nodup_le (l := l) (m := m.erase x) h.2 fun y my => (List.mem_erase_of_ne (by rintro rfl; exact h.1 my)).mpr (s y (List.mem_cons_of_mem _ my))
    rw [List.length_erase_of_mem hx] at i
    have := List.length_pos_of_mem hx
    rw [List.length_cons]
    omega
theorem nodup_eq {α : Type} [DecidableEq α] {l m : List α} (h : l.Nodup) (s : ∀ x ∈ l, x ∈ m) (le : m.length ≤ l.length) {x : α} (hx : x ∈ m) : x ∈ l := by
  by_cases e : x ∈ l
  · exact e
  · have := nodup_le (l := x :: l) (m := m) (List.nodup_cons.mpr ⟨e, h⟩) fun y my => by
      rcases List.mem_cons.mp my with rfl | my
      · exact hx
      · exact s y my
    rw [List.length_cons] at this
    omega
/-- all arrangements of n crates, in order -/
def allW : Nat → List (List Nat)
  | 0 => [[]]
  | n + 1 => [0, 1, 2].flatMap fun d => (allW n).map (d :: ·)
theorem allW_len : ∀ n, (allW n).length = 3 ^ n
  | 0 => rfl
  | n + 1 => by
    have := allW_len n
    simp [allW, this, Nat.pow_succ]
    omega
theorem mem_allW : ∀ {n : Nat} {w : List Nat}, w.length = n → D3 w → w ∈ allW n
  | 0, w, h, _ => by
    rw [List.eq_nil_of_length_eq_zero h]
    exact List.mem_singleton.mpr rfl
  | n + 1, [], h, _ => by cases h
  | n + 1, d :: w, h, g => by
    have hd := g d List.mem_cons_self
    have hw := mem_allW (n := n) (w := w) (Nat.succ.inj h) fun x m => g x (List.mem_cons_of_mem _ m)
    refine List.mem_flatMap.mpr ⟨d, ?_, List.mem_map.mpr ⟨w, hw, rfl⟩⟩
    have : d = 0 ∨ d = 1 ∨ d = 2 := by omega
    rcases this with rfl | rfl | rfl <;> simp
/-! ### going through all arrangements, the nearest first -/
structure Dij (rows : LL) (s : List Nat) (cs ds : Cst) : Prop where
  kn : (cs.map (·.1)).Nodup
  dn : (ds.map (·.1)).Nodup
  wl : ∀ w c, getC cs w = some c → Wlk rows s w c
  st : getC cs s = some 0
  sub : ∀ w c, getC ds w = some c → getC cs w = some c
  ord : ∀ w c x e, getC ds w = some c → getC cs x = some e → getC ds x = none → c ≤ e
  out : ∀ w c, getC ds w = some c → ∀ x p, Stp rows w x p → ∃ e, getC cs x = some e ∧ e ≤ c + p
theorem Dij.start {rows : LL} {s : List Nat} : Dij rows s [(s, 0)] [] where
  kn := by simp
  dn := by simp
  wl := fun w c h => by
    by_cases e : s = w
    · subst e
      rw [getC_pos rfl] at h
      injection h with h
      rw [← h]
      exact .nil
    · rw [getC_neg e] at h
      cases h
  st := getC_pos rfl
  sub := fun w c h => by cases h
  ord := fun w c x e h => by cases h
  out := fun w c h => by cases h
/-- within: the moves behind u, seen so far -/
structure DijI (rows : LL) (s : List Nat) (u : List Nat) (k : Int) (seen : List (List Nat × Int)) (cs ds : Cst) : Prop where
  kn : (cs.map (·.1)).Nodup
  dn : (ds.map (·.1)).Nodup
  wl : ∀ w c, getC cs w = some c → Wlk rows s w c
  st : getC cs s = some 0
  sub : ∀ w c, getC ds w = some c → getC cs w = some c
  ord : ∀ x e, getC cs x = some e → getC ds x = none → k ≤ e
  top : ∀ w c, getC ds w = some c → c ≤ k
  at_ : getC ds u = some k
  out : ∀ w c, getC ds w = some c → ∀ x p, Stp rows w x p → (w = u → (x, p) ∈ seen) → ∃ e, getC cs x = some e ∧ e ≤ c + p
theorem Dij.few {rows : LL} {s : List Nat} {cs ds : Cst} (h : Dij rows s cs ds) (h3 : D3 s) : cs.length ≤ 3 ^ s.length := by
  rw [← allW_len, ← List.length_map (f := fun p : List Nat × Int => p.1) (as := cs)]
  refine nodup_le h.kn fun w m => ?_
  obtain ⟨c, hc⟩ := Option.isSome_iff_exists.mp (getC_key.mpr m)
  have := h.wl w c hc
  exact mem_allW this.len (this.d3 h3)
theorem DijI.few {rows : LL} {s u : List Nat} {k : Int} {ms : List (List Nat × Int)} {cs ds : Cst} (h : DijI rows s u k ms cs ds) (h3 : D3 s) : cs.length ≤ 3 ^ s.length := by
  rw [← allW_len, ← List.length_map (f := fun p : List Nat × Int => p.1) (as := cs)]
  refine nodup_le h.kn fun w m => ?_
  obtain ⟨c, hc⟩ := Option.isSome_iff_exists.mp (getC_key.mpr m)
  have := h.wl w c hc
  exact mem_allW this.len (this.d3 h3)
theorem sub_keys {cs ds : Cst} (sub : ∀ w c, getC ds w = some c → getC cs w = some c) : ∀ w ∈ ds.map (·.1), w ∈ cs.map (·.1) := fun w m => by
  obtain ⟨c, hc⟩ := Option.isSome_iff_exists.mp (getC_key.mpr m)
  exact getC_key.mp (by rw [sub w c hc]; rfl)
theorem Dij.le {rows : LL} {s : List Nat} {cs ds : Cst} (h : Dij rows s cs ds) : ds.length ≤ cs.length := by
  have := nodup_le h.dn (sub_keys h.sub)
  simpa using this
/-- some is left -/
theorem Dij.left {rows : LL} {s : List Nat} {cs ds : Cst} (h : Dij rows s cs ds) (lt : ds.length < cs.length) : ∃ w c, (w, c) ∈ cs ∧ getC ds w = none := by
  refine Classical.byContradiction fun no => ?_
  have := nodup_le h.kn (m := ds.map (·.1)) fun w m => by
    obtain ⟨p, mp, e⟩ := List.mem_map.mp m
    cases q : getC ds w with
    | none => exact absurd ⟨w, p.2, by rw [← e]; exact mp, q⟩ no
    | some c => exact getC_key.mp (by rw [q]; rfl)
  simp at this
  omega
theorem Dij.done {rows : LL} {s : List Nat} {cs ds : Cst} (h : Dij rows s cs ds) (ge : cs.length ≤ ds.length) (hP : PosR rows) : ∀ x, Least rows s x (getC ds x) := by
  have same : ∀ w c, getC cs w = some c → getC ds w = some c := fun w c hc => by
    have m := nodup_eq h.dn (sub_keys h.sub) (by simpa using ge) (x := w) (getC_key.mp (by rw [hc]; rfl))
    obtain ⟨d, hd⟩ := Option.isSome_iff_exists.mp (getC_key.mpr m)
    have := h.sub w d hd
    rw [hc] at this
    rw [hd, ← this]
  have key : ∀ {w x : List Nat} {C : Int}, Wlk rows w x C → ∀ c, getC ds w = some c → ∃ e, getC ds x = some e ∧ e ≤ c + C := by
    intro w x C k
    induction k with
    | nil => exact fun c hc => ⟨c, hc, by omega⟩
    | cons g _ ih =>
      intro c hc
      obtain ⟨e, he, le⟩ := h.out _ c hc _ _ g
      obtain ⟨f, hf, le2⟩ := ih e (same _ _ he)
      exact ⟨f, hf, by omega⟩
  have s0 := same s 0 h.st
  intro x
  cases q : getC ds x with
  | none =>
    intro C w
    obtain ⟨e, he, _⟩ := key w 0 s0
    rw [q] at he
    cases he
  | some v =>
    refine ⟨h.wl x v (h.sub x v q), fun C w => ?_⟩
    obtain ⟨e, he, le⟩ := key w 0 s0
    rw [q] at he
    injection he with he
    omega
/-! ### the list of the moves -/
end U
namespace U
open PySem PySem.Spec PyProof.Rows L2

/-! ### papers judged with a bound -/
def sixB (B : Int) (f : Lvl) : List Int := six fun i j => (f i j).getD B
theorem stands_getD {B M : Int} {c : Option Int} (h : ∀ v, c = some v → 0 ≤ v ∧ v ≤ M) : Stands B M c (c.getD B) := by
  cases c with
  | none => exact Int.le_refl _
  | some v => exact ⟨rfl, h v rfl⟩
theorem towO_succ {rows : List (List (Option Int))} {k : Nat} {r : List (Option Int)} (h : rows.reverse[k]? = some r) : towO rows (k + 1) = stepO (prF r) (towO rows k) := by
  have lt := (List.getElem?_eq_some_iff.mp h).1
  unfold towO
  rw [List.take_succ_eq_append_getElem lt, List.map_append, List.reverse_append, (List.getElem?_eq_some_iff.mp h).2]
  rfl
/-- a yard's own levels -/
def ownL (rows : List (List (Option Int))) : List Lvl := (List.range (rows.length + 1)).map (towO rows)
theorem ownL_at {rows : List (List (Option Int))} {k : Nat} (h : k ≤ rows.length) : (ownL rows)[k]? = some (towO rows k) := by
  unfold ownL
  rw [List.getElem?_map, List.getElem?_range (by omega)]
  rfl
theorem ownL_len (rows : List (List (Option Int))) : (ownL rows).length = rows.length + 1 := by simp [ownL]
/-- the costs that a table has for the ways -/
def lvlK (kvs : List (Key × V)) : Lvl := fun i j => match gotV kvs (i, j) with
  | .int v => some v
  | _ => none
theorem gotV_ok {kvs : List (Key × V)} (h : levB kvs = true) {i j : Nat} (hi : i < 3) (hj : j < 3) (n : i ≠ j) : gotV kvs (i, j) = pV (lvlK kvs i j) ∧ valV kvs (.inr (wd [i, j])) = some (pV (lvlK kvs i j)) ∧ ∀ v, lvlK kvs i j = some v → 0 ≤ v := by
  have mw : (i, j) ∈ waysN := by
    rcases (show i = 0 ∧ j = 1 ∨ i = 0 ∧ j = 2 ∨ i = 1 ∧ j = 0 ∨ i = 1 ∧ j = 2 ∨ i = 2 ∧ j = 0 ∨ i = 2 ∧ j = 1 by omega) with ⟨rfl, rfl⟩ | ⟨rfl, rfl⟩ | ⟨rfl, rfl⟩ | ⟨rfl, rfl⟩ | ⟨rfl, rfl⟩ | ⟨rfl, rfl⟩ <;> decide
  have ok : okC (gotV kvs (i, j)) = true := by
    unfold levB at h
    rw [Bool.and_eq_true] at h
    exact List.all_eq_true.mp h.2 _ mw
  have e : gotV kvs (i, j) = pV (lvlK kvs i j) := by
    unfold lvlK
    cases q : gotV kvs (i, j) with
    | non => rfl
    | int v => rfl
    | _ => rw [q] at ok; cases ok
  refine ⟨e, ?_, fun v ev => ?_⟩
  · rw [← e]
    unfold gotV at ok ⊢
    show valV kvs (.inr (wd [i, j])) = some ((valV kvs (.inr (wd [i, j]))).getD (.bl false))
    have ok : okC ((valV kvs (.inr (wd [i, j]))).getD (.bl false)) = true := ok
    cases ev : valV kvs (.inr (wd [i, j])) with
    | none => rw [ev] at ok; cases ok
    | some v => rfl
  · rw [e, ev] at ok
    exact of_decide_eq_true ok
theorem key_inj : ∀ {kvs : List (Key × V)}, (kvs.map (·.1)).Nodup → ∀ p ∈ kvs, ∀ q ∈ kvs, p.1 = q.1 → p = q
  | [], _, _, m, _, _, _ => nomatch m
  | a :: r, nd, p, mp, q, mq, e => by
    rw [List.map_cons, List.nodup_cons] at nd
    rcases List.mem_cons.mp mp with e1 | m1
    · rcases List.mem_cons.mp mq with e2 | m2
      · rw [e1, e2]
      · have mm : a.1 ∈ r.map (·.1) := List.mem_map.mpr ⟨q, m2, by rw [← e, e1]⟩
        exact absurd mm nd.1
    · rcases List.mem_cons.mp mq with e2 | m2
      · have mm : a.1 ∈ r.map (·.1) := List.mem_map.mpr ⟨p, m1, by rw [e, e2]⟩
        exact absurd mm nd.1
      · exact key_inj nd.2 p m1 q m2 e
theorem lev_all {kvs : List (Key × V)} (h : levB kvs = true) (nd : (kvs.map (·.1)).Nodup) : ∀ p ∈ kvs, okC p.2 = true := by
  intro p mp
  unfold levB at h
  rw [Bool.and_eq_true] at h
  have h6 : kvs.length = 6 := of_decide_eq_true h.1
  have okw : ∀ w ∈ waysN, okC (gotV kvs w) = true := List.all_eq_true.mp h.2
  have sub : ∀ x ∈ waysN.map (fun w => (Sum.inr (wd [w.1, w.2]) : Key)), x ∈ kvs.map (·.1) := by
    intro x mx
    obtain ⟨w, mw, rfl⟩ := List.mem_map.mp mx
    have ok := okw w mw
    unfold gotV valV at ok
    cases e : kvs.find? fun kv => decide (kv.1 = .inr (wd [w.1, w.2])) with
    | none => rw [e] at ok; cases ok
    | some q =>
      have this : decide (q.1 = (Sum.inr (wd [w.1, w.2]) : Key)) = true := List.find?_some (p := fun kv : Key × V => decide (kv.1 = .inr (wd [w.1, w.2]))) e
      exact List.mem_map.mpr ⟨q, List.mem_of_find?_eq_some e, of_decide_eq_true this⟩
  have nw : (waysN.map fun w => (Sum.inr (wd [w.1, w.2]) : Key)).Nodup := by decide +kernel
  have mk := nodup_eq nw sub (by rw [List.length_map, List.length_map, h6]; decide) (x := p.1) (List.mem_map.mpr ⟨p, mp, rfl⟩)
  obtain ⟨w, mw, ew⟩ := List.mem_map.mp mk
  have ok := okw w mw
  unfold gotV valV at ok
  cases e : kvs.find? fun kv => decide (kv.1 = .inr (wd [w.1, w.2])) with
  | none => rw [e] at ok; cases ok
  | some q =>
    rw [e] at ok
    have this : decide (q.1 = (Sum.inr (wd [w.1, w.2]) : Key)) = true := List.find?_some (p := fun kv : Key × V => decide (kv.1 = .inr (wd [w.1, w.2]))) e
    have e1 : q.1 = p.1 := (of_decide_eq_true this).trans ew
    have : q = p := by
      have mq := List.mem_of_find?_eq_some e
      exact key_inj nd q mq p mp e1
    rw [← this]
    exact ok
/-- tables, in a list or a tuple -/
def LvG (K : PySem.W.Frag) (H : Hp) (l : Addr) (kss : List (List (Key × V))) : Prop := ∃ ls : List Addr, SqA K H l (ls.map V.ref) ∧ (ls.length = kss.length ∧ ((∀ (k : Nat) (d : Addr) ks, ls[k]? = some d → kss[k]? = some ks → DcV K H d ks ∧ levB ks = true) ∧ ls.Nodup))
theorem LvG.same {K : PySem.W.Frag} {H H' : Hp} {l : Addr} {kss : List (List (Key × V))} (h : LvG K H l kss) (e : Same H H') : LvG K H' l kss := by
  obtain ⟨ls, h1, h2, h3, h4⟩ := h
  exact ⟨ls, h1.same e, h2, fun k d ks a b => ⟨(h3 k d ks a b).1.same e, (h3 k d ks a b).2⟩, h4⟩
def sp_numbers_of (K : PySem.W.Frag) : Sp := sp3 fun x nm b H Q _ => ∃ l kss B, x = .ref l ∧ nm = .ref (He.ga K "WAYS") ∧ b = .int B ∧ LvG K H l kss ∧ kss.length ≤ 61 ∧ ∀ r H', Same H H' → H r = none → PrB K H' r (kss.map fun ks => sixB B (lvlK ks)) → Q (.ref r) H'
def sp_bounded_prices (K : PySem.W.Frag) : Sp := sp2 fun y b H Q _ => ∃ p rows B, y = .ref p ∧ Yd K H p rows ∧ b = .int B ∧ ∀ l H', Same H H' → H l = none → PrB K H' l (rows.reverse.map (rowI B)) → Q (.ref l) H'
def withinB (qs ls : List (List Int)) : Bool := ((qs.drop 1).zip ls).all fun p => (p.1.zip p.2).all fun z => decide (z.1 ≤ z.2)
def sp_are_within (K : PySem.W.Frag) : Sp := sp2 fun x y H Q _ => ∃ a b qs ls, x = .ref a ∧ y = .ref b ∧ PrB K H a qs ∧ PrB K H b ls ∧ qs.length ≤ 61 ∧ ls.length ≤ 61 ∧ (∀ q ∈ qs, q.length = 6) ∧ (∀ q ∈ ls, q.length = 6) ∧ ∀ H', Same H H' → Q (.bl (withinB qs ls)) H'
def sp_bound_beyond (K : PySem.W.Frag) : Sp := sp2 fun y x H Q _ => ∃ p rows L l kss, y = .ref p ∧ x = .ref L ∧ YdK K H p rows ∧ H L = some (.lst [.ref l]) ∧ LvG K H l kss ∧ kss.length ≤ 61 ∧ (∃ k0, kss[0]? = some k0 ∧ lvlK k0 0 1 = some 0) ∧
  ∀ g M H', Great rows g → (∀ ks ∈ kss, ∀ i j v, i < 3 → j < 3 → i ≠ j → lvlK ks i j = some v → v ≤ M) → 0 ≤ M → Mild K p H H' → YdK K H' p rows → Q (.int (g * 4 ^ rows.length + 3 * M)) H'
def t_numbers_of (K : PySem.W.Frag) (E : XK) : TS := (tRet (tLc (iSeq K (tVar 0)) (gName 3) tYes (tCB (uTup K) (tCons (tLc (iSeq K (tVar 1)) (gName 4) tYes (tIf (tTest (tOp uIs (tDGet (tVar 3) (tVar 4)) (tC .non))) (tVar 2) (tDGet (tVar 3) (tVar 4))) [4]) tNil)) [3]))
def t_bounded_prices (K : PySem.W.Frag) (E : XK) : TS := (tRet (tFn (sp_without_bars K) E (tCons (tMeth (He.ga K "Yard") "price_rows" (sp_Yard_price_rows K) [] E (tVar 0) tNil) (tCons (tVar 1) tNil))))
def t_are_within (K : PySem.W.Frag) (E : XK) : TS := (tRet (tCB (rAll K) (tCons (tLc (iZipV K (tCons (tSl (uSl K) (tVar 0) (tPart (tC (.int 1))) tNoPart) (tCons (tVar 1) tNil))) (gTup K 2 (gCons (gName 2) (gCons (gName 3) gNil))) tYes (tCB (rAll K) (tCons (tLc (iZipV K (tCons (tVar 2) (tCons (tVar 3) tNil))) (gTup K 2 (gCons (gName 4) (gCons (gName 5) gNil))) tYes (tOp uLe (tVar 4) (tVar 5)) [4, 5]) tNil)) [2, 3]) tNil)))
def t_bound_beyond (K : PySem.W.Frag) (E : XK) : TS := (tSeq (tLockS (tAsg (tLc3 (iSeq K (tVar 1)) (gName 3) tYes (iSeq K (tVar 3)) (gName 4) tYes (iVals (tVar 4)) (gName 5) (tTest (tOp uNis (tVar 5) (tC .non))) (tVar 5) [3, 4, 5] [4, 5] [5]) (gName 2))) (tRet (tOp uAdd (tFld K (tMeth (He.ga K "Yard") "reckoning" (sp_Yard_reckoning K) [] E (tVar 0) tNil) "bound") (tOp uMul (tC (.int 3)) (tCB (rMax K) (tCons (tVar 2) tNil))))))
section
variable {K : PySem.W.Frag} (F : KF K) (R : KR K) {vs : List V} {H : Hp} {Q : VK} {E : XK}
local macro_rules | `(tactic| walk_at "w") => `(tactic| try simp only [turnE, lcT, Snoc, tRet, tRetN, tAndV, tOrV, tNotV, tCB, tCons, tVar, tNil, tC, tOp, tSeq, tAsg, gName, gSub, tIfS, tDrop, tFn, tTup, tLst, tNext, tB, tTest, tNot, tAnd, tOr, tIf, tChain, tUn, rU, tFld, tPart, tNoPart, L2.tSl, tBM, tPar, tPar3, tTruth, tDNewK,
  L2.start, List.map_cons, List.map_nil, List.length_cons, List.length_nil, List.replicate_succ, List.replicate_zero, List.append_nil, List.nil_append, List.cons_append, List.singleton_append, Nat.sub_self, Nat.zero_add, Nat.reduceAdd, Nat.reduceSub,
  List.getElem?_cons_zero, List.getElem?_cons_succ, List.set_cons_zero, List.set_cons_succ, Option.some.injEq, exists_eq_left, exists_eq_left', V.int.injEq, V.bl.injEq, V.str.injEq, V.ref.injEq,
  uAdd_int, uAdd_str, uSub_int, uMul_int, uMul_str, uDiv_int, uMod_int, uPow_int, uLt_int, uLe_int, uGt_int, uGe_int, uIs_non, uNis_non, uIs_bl, uNis_bl, sp1, sp2, sp3, sp4, uEq_int, uEq_str, uNe_int, uNe_str, uSl_str, uLen_str, decide_eq_true_eq])
local macro_rules | `(tactic| walk_at "1") => `(tactic| try simp only [turnE, lcT, Snoc, tRet, tRetN, tAndV, tOrV, tNotV, tCB, tCons, tVar, tNil, tC, tOp, tAsg, gName, gSub, tIfS, tDrop, tFn, tTup, tLst, tNext, tB, tTest, tNot, tAnd, tOr, tIf, tChain, tUn, rU, tFld, tPart, tNoPart, L2.tSl, tBM, tPar, tPar3, tTruth, tDNewK,
  L2.start, List.map_cons, List.map_nil, List.length_cons, List.length_nil, List.replicate_succ, List.replicate_zero, List.append_nil, List.nil_append, List.cons_append, List.singleton_append, Nat.sub_self, Nat.zero_add, Nat.reduceAdd, Nat.reduceSub,
  List.getElem?_cons_zero, List.getElem?_cons_succ, List.set_cons_zero, List.set_cons_succ, Option.some.injEq, exists_eq_left, exists_eq_left', V.int.injEq, V.bl.injEq, V.str.injEq, V.ref.injEq,
  uAdd_int, uAdd_str, uSub_int, uMul_int, uMul_str, uDiv_int, uMod_int, uPow_int, uLt_int, uLe_int, uGt_int, uGe_int, uIs_non, uNis_non, uIs_bl, uNis_bl, sp1, sp2, sp3, sp4, uEq_int, uEq_str, uNe_int, uNe_str, uSl_str, uLen_str, decide_eq_true_eq])
local macro_rules | `(tactic| walk_at "s") => `(tactic| ((try dsimp only [turnE]); with_reducible refine seq_ ?_))

include F in
theorem read_numbers_of (h : sp_numbers_of K vs H Q E) : t_numbers_of K E { nx := fun _ H' => Q .non H', rt := Q } (start ["levels", "names", "bound", "level", "name"] vs) H := by
  match vs, h with
  | [_, _, _], ⟨l, kss, B, rfl, rfl, rfl, hl, h61, q⟩ =>
    obtain ⟨ls, l1, l2, l3, _⟩ := hl
    unfold t_numbers_of
    walk_at "1"
    refine tLc_seq (p := l) (xs := ls.map V.ref) l1 (tVar_eq rfl) fun J G P hG C nC => ?_
    refine lc_freshO P (fun k => .tup (iV (sixB B (lvlK ((kss[k]?).getD []))))) nC (by rw [List.length_map, l2]; omega) hG ?_ ?_
    · intro i x H2 Q2 hx s2 go
      rw [List.getElem?_map] at hx
      (obtain ⟨d, hd, rfl⟩ := Option.map_eq_some_iff.mp hx)
      have li : i < kss.length := l2 ▸ (List.getElem?_eq_some_iff.mp hd).1
      have ef : kss[i]? = some kss[i] := List.getElem?_eq_getElem li
      obtain ⟨dc, lev⟩ := l3 i d _ hd ef
      have gd := s2 _ _ dc.1
      rw [ef] at go
      generalize kss[i] = ks at gd go dc lev
      have gok := fun i j hi hj n => gotV_ok lev (i := i) (j := j) hi hj n
      have go : ∀ (l : Addr) (H3 : Hp), H2 l = none → Same H2 H3 → H3 l = some (.tup (iV (sixB B (lvlK ks)))) → Q2 (.ref l) H3 := go
      generalize hf : lvlK ks = f at *
      walk_at "1"
      refine over_ways F (tVar_eq rfl) fun J2 G2 P2 hG2 D nD => ?_
      refine lc_grow P2 (fun acc _ => acc = (waysN.take acc.length).map fun w => V.int ((f w.1 w.2).getD B)) nD (by decide) hG2 (fun _ _ => rfl) (fun _ _ _ _ _ _ z => z) ?_ ?_
      · intro j x acc H3 Q3 hx s3 la r go
        rw [List.getElem?_map] at hx
        obtain ⟨w, hw, rfl⟩ := Option.map_eq_some_iff.mp hx
        obtain ⟨w1, w2, w3⟩ := waysN_ok w (List.mem_of_getElem? hw)
        have fin : Q3 (.int ((f w.1 w.2).getD B)) H3 := go _ H3 (Same.refl _) (by
          rw [List.length_append, List.length_singleton, la, List.take_succ, hw, List.map_append, ← la, ← r]
          rfl)
        have dg : DGet H3 d (.str (wd [w.1, w.2])) (some (pV (f w.1 w.2))) := (gok w.1 w.2 w1 w2 w3).2.1 ▸ DGet.k (k := .inr (wd [w.1, w.2])) (s3 _ _ gd)
        walk_at "1"
        simp only [tDGet]
        walk_at "1"
        refine ⟨d, _, rfl, dg, ?_⟩
        cases e : f w.1 w.2 with
        | none =>
          rw [e] at fin
          rw [if_pos (show pV none = V.non from rfl)]
          exact fin
        | some v =>
          rw [e] at fin dg
          rw [if_neg (by intro z; cases z)]
          exact ⟨d, _, rfl, dg, fin⟩
      · intro acc H3 la s3 gD r
        rw [la, List.length_map, List.take_of_length_le (Nat.le_refl _)] at r
        subst r
        exact ⟨_, .inl ⟨.inl (.inl gD), fun t nt => go t _ (s3.free nt) (s3.trans (same_new nt)) (by
          rw [upd_same]
          unfold sixB six iV
          rw [List.map_map]
          rfl)⟩⟩
    · intro H2 bs s2 hb gC at_ nd nC2 fr
      rw [List.length_map, l2] at hb
      refine q C H2 s2 nC ⟨bs, gC, by rw [List.length_map, hb], fun i b z e1 e2 => .inl (.inl ?_)⟩
      rw [List.getElem?_map] at e2
      obtain ⟨f, ef, rfl⟩ := Option.map_eq_some_iff.mp e2
      rw [at_ i b e1, ef]
      rfl
theorem ys_rows {y : Addr} {rows : List (List (Option Int))} (hy : Yd K H y rows) {t : Addr} (h : Ys K H t rows) : RowsT K H t rows := by
  obtain ⟨as, h1, h2, h3⟩ := h
  obtain ⟨_, _, _, _, _, _, y4, _, _, y7⟩ := id hy
  exact ⟨as, h1, h2, y4, h3, fun r m => (y7 r m).1⟩
include F in
theorem read_bounded_prices (h : sp_bounded_prices K vs H Q E) : t_bounded_prices K E { nx := fun _ H' => Q .non H', rt := Q } (start ["yard", "bound"] vs) H := by
  match vs, h with
  | [_, _], ⟨p, rows, B, rfl, hy, rfl, q⟩ =>
    obtain ⟨dx, t, as, ⟨rk, gy⟩, _⟩ := id hy
    unfold t_bounded_prices
    walk_at "1"
    simp only [tMeth]
    walk_at "1"
    refine ⟨p, dx, _, rfl, gy, rfl, p, rows, rfl, hy, fun t ht => ?_⟩
    exact ⟨t, rows, B, rfl, rfl, ys_rows hy ht, q⟩
/-- [te for u, v in zip(..)] whose items are truths -/
theorem all_boolsZ {J : It} {G : Hp → Prop} {xs ys : List V} (Z : Zipped J xs ys G) {te : TE} {u v : Nat} {σ : L2.St} (bs : List Bool) (hb : bs.length = min xs.length ys.length) (hw : ∀ x y, wipe (((wipe σ [u, v]).set u (some x)).set v (some y)) [u, v] = wipe σ [u, v]) {D : Addr} {Qd : Hp → Prop} (hD : H D = none) (hl : min xs.length ys.length ≤ 1000) (hG : ∀ H', Same H H' → G H')
    (hs : ∀ (i : Nat) (x y : V) (b : Bool) (H2 : Hp) (Q : VK), xs[i]? = some x → ys[i]? = some y → bs[i]? = some b → Same H H2 → (∀ H4, Same H2 H4 → Q (.bl b) H4) → te (((wipe σ [u, v]).set u (some x)).set v (some y)) H2 Q)
    (hd : ∀ H2, Same H H2 → H2 D = some (.lst (bs.map V.bl)) → Qd H2) : LcB J (gTup K 2 (gCons (gName u) (gCons (gName v) gNil))) tYes te [u, v] σ H D Qd := by
  refine lc_zip Z (fun i H' => Same H H' ∧ H' D = some (.lst ((bs.take i).map V.bl))) ⟨same_new hD, upd_same⟩ (fun i H' z => hG _ z.1) ?_ (fun H2 z => hd H2 z.1 (by have := z.2; rwa [← hb, List.take_length] at this))
  rintro i x y T H2' hx hy ⟨s2', gD'⟩ nT
  have hi : i < min xs.length ys.length := by
    have h1 := (List.getElem?_eq_some_iff.mp hx).1
    have h2 := (List.getElem?_eq_some_iff.mp hy).1
    omega
  have eb : bs[i]? = some (bs[i]'(by omega)) := List.getElem?_eq_getElem _
  have sT : Same H2' (upd H2' T (.tup [x, y])) := same_new nT
  refine pair_in upd_same ⟨hw x y, ?_⟩
  show te _ _ _
  have s2 := s2'.trans sT
  have gD := sT _ _ gD'
  generalize upd H2' T (.tup [x, y]) = H2 at *
  refine hs i x y _ H2 _ hx hy eb s2 fun H4 s4 => ?_
  refine ⟨_, s4 _ _ gD, ?_, (Off.trans (Same.off (s2.trans s4)) off_upd).same hD, ?_⟩
  · rw [List.length_map]
    exact Nat.lt_of_le_of_lt (List.length_take_le _ _) (Nat.lt_of_lt_of_le (show i < 1001 by omega) (by decide))
  · rw [upd_same, List.take_succ, eb, List.map_append]
    rfl
include F in
theorem read_are_within (h : sp_are_within K vs H Q E) : t_are_within K E { nx := fun _ H' => Q .non H', rt := Q } (start ["levels", "limits", "level", "line", "number", "limit"] vs) H := by
  match vs, h with
  | [_, _], ⟨a, b, qs, ls, rfl, rfl, ⟨as, a1, a2, a3⟩, ⟨bs, b1, b2, b3⟩, hq, hl, q6, l6, q⟩ =>
    unfold t_are_within
    walk_at "1"
    refine (show tLc _ _ _ _ _ _ H (fun x H1 => rAll K [x] H1 Q) from ?_)
    refine tLc_zipA ?_
    unfold RZ.iZipA
    walk_at "1"
    refine .inl ⟨a, _, rfl, .inl (.inl a1), fun c nc => ?_⟩
    have s1 : Same H (upd H c (.lst (cutV (as.map V.ref) (some 1) none))) := same_new nc
    have gc : upd H c (.lst (cutV (as.map V.ref) (some 1) none)) c = some (.lst ((as.drop 1).map V.ref)) := by
      rw [upd_same]
      congr 2
      unfold cutV
      rw [HT.sIx_none, show (1 : Int) = ((1 : Nat) : Int) from rfl, HT.sIx_nat, List.map_drop, List.take_of_length_le (by simp)]
      rcases Nat.lt_or_ge as.length 1 with z | z
      · rw [show as = [] from List.length_eq_zero_iff.mp (by omega)]
        rfl
      · rw [show min 1 (as.map V.ref).length = 1 by rw [List.length_map]; omega]
    generalize upd H c (.lst (cutV (as.map V.ref) (some 1) none)) = H1 at *
    refine ⟨c, b, _, _, rfl, .inl ⟨.inl (.inl gc), .inl (.inl (s1 _ _ b1)), fun D nD => ?_⟩⟩
    refine all_boolsZ (zipped_LL (K := K) (a := c) (b := b) (xs := (as.drop 1).map V.ref) (ys := bs.map V.ref)) (((qs.drop 1).zip ls).map fun p => (p.1.zip p.2).all fun z => decide (z.1 ≤ z.2)) (by rw [List.length_map, List.length_zip, List.length_map, List.length_map, List.length_drop, List.length_drop, a2, b2]) (fun x y => rfl) nD (by rw [List.length_map, List.length_map, b2]; omega) (fun H' s => ⟨.inl (.inl (s _ _ gc)), .inl (.inl (s _ _ (s1 _ _ b1)))⟩) ?_ fun H2 s2 gD => ⟨D, _, rfl, .inl (.inl gD), by rw [List.all_map]; exact q H2 (s1.trans s2)⟩
    intro k x y bb H2 Q2 hx hy hbb s2 go
    rw [List.getElem?_map] at hx hy
    (obtain ⟨d, hd, rfl⟩ := Option.map_eq_some_iff.mp hx)
    obtain ⟨e, he, rfl⟩ := Option.map_eq_some_iff.mp hy
    rw [List.getElem?_drop, Nat.add_comm] at hd
    have lk : k + 1 < qs.length := a2 ▸ (List.getElem?_eq_some_iff.mp hd).1
    have lb : k < ls.length := b2 ▸ (List.getElem?_eq_some_iff.mp he).1
    have eq_ : qs[k + 1]? = some qs[k + 1] := List.getElem?_eq_getElem lk
    have el : ls[k]? = some ls[k] := List.getElem?_eq_getElem lb
    have td := Same.sqT (s1.trans s2) (a3 _ d _ hd eq_)
    have te := Same.sqT (s1.trans s2) (b3 _ e _ he el)
    have q6' := q6 _ (List.getElem_mem lk)
    have l6' := l6 _ (List.getElem_mem lb)
    have ebb : bb = ((qs[k + 1].zip ls[k]).all fun z => decide (z.1 ≤ z.2)) := by
      have hz : ((qs.drop 1).zip ls)[k]? = some (qs[k + 1], ls[k]) := by
        rw [List.getElem?_zip_eq_some]
        exact ⟨by rw [List.getElem?_drop, Nat.add_comm]; exact eq_, el⟩
      rw [List.getElem?_map, hz] at hbb
      exact (Option.some.inj hbb).symm
    generalize qs[k + 1] = u at *
    generalize ls[k] = v at *
    subst ebb
    walk_at "1"
    refine (show tLc _ _ _ _ _ _ H2 (fun x H1 => rAll K [x] H1 Q2) from ?_)
    refine tLc_zipA ?_
    unfold RZ.iZipA
    simp only [wipe, List.set_cons_zero, List.set_cons_succ]
    walk_at "1"
    refine ⟨d, e, _, _, rfl, .inr ⟨td, te, fun C nC => ?_⟩⟩
    refine all_boolsZ (zipped_TT (K := K) (a := d) (b := e) (xs := iV u) (ys := iV v)) ((u.zip v).map fun z => decide (z.1 ≤ z.2)) (by unfold iV; rw [List.length_map, List.length_zip, List.length_map, List.length_map]) (fun x y => rfl) nC (by unfold iV; rw [List.length_map, List.length_map, q6', l6']; decide) (fun H' s => ⟨Same.sqT s td, Same.sqT s te⟩) ?_ fun H3 s3 gC => ⟨C, _, rfl, .inl (.inl gC), by rw [List.all_map]; exact go H3 s3⟩
    intro i x y bb H3 Q3 hx hy hbb s3 go
    unfold iV at hx hy
    rw [List.getElem?_map] at hx hy
    obtain ⟨m, hm, rfl⟩ := Option.map_eq_some_iff.mp hx
    obtain ⟨n, hn, rfl⟩ := Option.map_eq_some_iff.mp hy
    simp only [wipe, List.set_cons_zero, List.set_cons_succ]
    walk_at "1"
    show Q3 (.bl (decide (m ≤ n))) H3
    have ebb : bb = decide (m ≤ n) := by
      have hz : (u.zip v)[i]? = some (m, n) := by rw [List.getElem?_zip_eq_some]; exact ⟨hm, hn⟩
      rw [List.getElem?_map, hz] at hbb
      exact (Option.some.inj hbb).symm
    rw [← ebb]
    exact go H3 (Same.refl _)
/-- the costs in a dict -/
def knownV (vs : List V) : List Int := vs.filterMap fun v => match v with
  | .int i => some i
  | _ => none
def allG (kss : List (List (Key × V))) : List Int := kss.flatMap fun ks => knownV (ks.map (·.2))
theorem allG_len : ∀ kss : List (List (Key × V)), (∀ ks ∈ kss, ks.length ≤ 6) → (allG kss).length ≤ 6 * kss.length
  | [], _ => Nat.le_refl _
  | f :: r, h => by
    have ih := allG_len r fun ks m => h ks (List.mem_cons_of_mem _ m)
    have h1 : (knownV (f.map (·.2))).length ≤ 6 := Nat.le_trans (List.length_filterMap_le _ _) (by rw [List.length_map]; exact h f List.mem_cons_self)
    have e : allG (f :: r) = knownV (f.map (·.2)) ++ allG r := rfl
    (rw [e, List.length_append, List.length_cons])
    omega
theorem allG_snoc {kss : List (List (Key × V))} {k : Nat} {f : List (Key × V)} (h : kss[k]? = some f) : allG (kss.take (k + 1)) = allG (kss.take k) ++ knownV (f.map (·.2)) := by
  unfold allG
  rw [List.take_succ, h, List.flatMap_append]
  simp
theorem mem_allG {kss : List (List (Key × V))} {ks : List (Key × V)} {i j : Nat} {v : Int} (m : ks ∈ kss) (e : lvlK ks i j = some v) : v ∈ allG kss := by
  refine List.mem_flatMap.mpr ⟨ks, m, List.mem_filterMap.mpr ⟨.int v, ?_, rfl⟩⟩
  unfold lvlK gotV valV at e
  cases q : ks.find? fun kv => decide (kv.1 = .inr (wd [(i, j).1, (i, j).2])) with
  | none => (rw [q] at e; cases e)
  | some p =>
    rw [q] at e
    have e2 : p.2 = .int v := by
      show p.2 = _
      cases w : p.2 with
      | int c =>
        simp only [Option.map_some, Option.getD_some, w] at e
        rw [Option.some.inj e]
      | _ => simp [w] at e
    exact List.mem_map.mpr ⟨p, List.mem_of_find?_eq_some q, e2⟩
theorem sqA_keep {K : PySem.W.Frag} {H H1 : Hp} {l : Addr} {xs : List V} (h : ∀ b o, (∀ kv, o ≠ .dK kv) → H b = some o → H1 b = some o) (q : SqA K H l xs) : SqA K H1 l xs := by
  rcases q with ((q | ⟨o, q⟩) | q) | ((q | ⟨o, q⟩) | q)
  · exact .inl (.inl (.inl (h _ _ (fun _ z => nomatch z) q)))
  · exact .inl (.inl (.inr ⟨o, h _ _ (fun _ z => nomatch z) q⟩))
  · exact .inl (.inr q)
  · exact .inr (.inl (.inl (h _ _ (fun _ z => nomatch z) q)))
  · exact .inr (.inl (.inr ⟨o, h _ _ (fun _ z => nomatch z) q⟩))
  · exact .inr (.inr q)
include F R in
theorem read_bound_beyond (h : sp_bound_beyond K vs H Q E) : t_bound_beyond K E { nx := fun _ H' => Q .non H', rt := Q } (start ["yard", "lists", "costs", "levels", "level", "cost"] vs) H := by
  match vs, h with
  | [_, _], ⟨p, rows, L, l, kss, rfl, rfl, hy, gL, hl, h61, ⟨f0, e0, z0⟩, q⟩ =>
    obtain ⟨ds, l1, l2, l3, nd⟩ := hl
    have at_ : ∀ d ∈ ds, ∃ f, H d = some (.dK f) := fun d m => by
      obtain ⟨k, lt, rfl⟩ := List.mem_iff_getElem.mp m
      have lf : k < kss.length := l2 ▸ lt
      exact ⟨_, (l3 k _ _ (List.getElem?_eq_getElem lt) (List.getElem?_eq_getElem lf)).1.1⟩
    have six_ : ∀ ks ∈ kss, ks.length ≤ 6 := fun ks m => by
      obtain ⟨k, lt, rfl⟩ := List.mem_iff_getElem.mp m
      have lev := (l3 k _ _ (List.getElem?_eq_getElem (show k < ds.length by omega)) (List.getElem?_eq_getElem lt)).2
      unfold levB at lev
      rw [Bool.and_eq_true] at lev
      exact Nat.le_of_eq (of_decide_eq_true lev.1)
    unfold t_bound_beyond
    walk_at "s"
    refine ⟨ds.length, locks ds nd (fun d m => (at_ d m).imp' _ fun f e => e) fun D1 H1 o1 k1 q1 => ?_⟩
    have nL : L ∉ ds := fun m => by
      obtain ⟨f, e⟩ := at_ L m
      rw [gL] at e
      cases e
    have gL1 : H1 L = some (.lst [.ref l]) := (o1 L nL).trans gL
    have gl1 : SqA K H1 l (ds.map V.ref) := sqA_keep (fun b o n e => by
      have nb : b ∉ ds := fun m => by
        obtain ⟨f, e'⟩ := at_ b m
        rw [e] at e'
        injection e' with e'
        exact n _ e'
      exact (o1 b nb).trans e) l1
    walk_at "1"
    refine .inl ?_
    walk_at "1"
    refine ⟨.ref L, rfl, L, rfl, ⟨_, .inl (.inl gL1)⟩, fun C nC => ?_⟩
    refine clap_plain (plain_L (K := K) (a := L) (xs := [.ref l])) (fun i H' => Same H1 H' ∧ H' C = some (.lst ((if i = 0 then [] else allG kss).map V.int))) ⟨same_new nC, upd_same⟩ (fun i H' z => .inl (.inl (z.1 _ _ gL1))) ?_ ?_
    · rintro i x H2 hx ⟨s2, gC⟩
      match i, hx with
      | 0, hx =>
        cases hx
        simp only [wipe, List.set_cons_zero, List.set_cons_succ]
        walk_at "1"
        refine ⟨trivial, ?_⟩
        simp only [tYes, if_true]
        have few : ∀ k, (allG (kss.take k)).length ≤ 366 := fun k => by
          have h1 := allG_len (kss.take k) fun ks m => six_ ks (List.mem_of_mem_take m)
          have h2 : (kss.take k).length ≤ kss.length := List.length_take_le' _ _
          omega
        refine Or.elim gl1 (fun hh => .inl ?_) (fun hh => .inr ?_)
        all_goals
          walk_at "1"
          first
            | refine ⟨.ref l, rfl, l, rfl, ⟨_, Same.seq s2 hh⟩, ?_⟩
            | refine ⟨.ref l, rfl, l, rfl, ⟨_, Same.sqT s2 hh⟩, ?_⟩
          first
            | refine clap_plain (plain_L (K := K) (a := l) (xs := ds.map V.ref)) (fun k H' => Same H1 H' ∧ H' C = some (.lst ((allG (kss.take k)).map V.int))) ⟨s2, gC⟩ (fun k H' z => Same.seq z.1 hh) ?_ ?_
            | refine clap_plain (plain_T (K := K) (a := l) (xs := ds.map V.ref)) (fun k H' => Same H1 H' ∧ H' C = some (.lst ((allG (kss.take k)).map V.int))) ⟨s2, gC⟩ (fun k H' z => Same.sqT z.1 hh) ?_ ?_
          · rintro k x H3 hx ⟨s3, gC3⟩
            rw [List.getElem?_map] at hx
            (obtain ⟨d, hd, rfl⟩ := Option.map_eq_some_iff.mp hx)
            have lk : k < kss.length := l2 ▸ (List.getElem?_eq_some_iff.mp hd).1
            have ef : kss[k]? = some kss[k] := List.getElem?_eq_getElem lk
            obtain ⟨kv, od, hk1, hk2⟩ := k1 d (List.mem_of_getElem? hd)
            obtain ⟨dc, lev⟩ := l3 k d _ hd ef
            rw [dc.1] at hk1
            cases hk1
            have few := few k
            have snoc := allG_snoc ef
            have f6 := six_ _ (List.getElem_mem lk)
            have okp := lev_all lev dc.2.2
            generalize kss[k] = f at *
            simp only [wipe, List.set_cons_zero, List.set_cons_succ]
            walk_at "1"
            refine ⟨trivial, ?_⟩
            simp only [tYes, if_true]
            refine ⟨.ref d, rfl, d, od, _, rfl, s3 _ _ hk2, ?_⟩
            refine clap_plain (plain_Vd (d := d) (o := od) (kvs := f)) (fun j H' => Same H1 H' ∧ H' C = some (.lst ((allG (kss.take k) ++ knownV ((f.map (·.2)).take j)).map V.int))) ⟨s3, by rw [gC3]; simp [knownV]⟩ (fun j H' z => z.1 _ _ hk2) ?_ ?_
            · rintro j x H4 hx ⟨s4, gC4⟩
              have tk : (f.map (·.2)).take (j + 1) = (f.map (·.2)).take j ++ [x] := by rw [List.take_succ, hx]; rfl
              have okx : okC x = true := by
                rw [List.getElem?_map] at hx
                obtain ⟨p, hp, rfl⟩ := Option.map_eq_some_iff.mp hx
                exact okp p (List.mem_of_getElem? hp)
              simp only [wipe, List.set_cons_zero, List.set_cons_succ]
              walk_at "1"
              refine ⟨trivial, ?_⟩
              cases x with
              | non =>
                refine ⟨s4, ?_⟩
                rw [tk]
                simpa [knownV] using gC4
              | int v =>
                refine ⟨_, gC4, ?_, (Off.trans (Same.off s4) off_upd).same nC, ?_⟩
                · have h6 : (knownV ((f.map (·.2)).take j)).length ≤ 6 := Nat.le_trans (List.length_filterMap_le _ _) (Nat.le_trans (List.length_take_le' _ _) (by rw [List.length_map]; exact f6))
                  rw [List.length_map, List.length_append]
                  exact Nat.lt_of_lt_of_le (show _ < 373 by omega) (by decide)
                · rw [upd_same, tk]
                  simp [knownV]
              | _ => cases okx
            · rintro H4 ⟨s4, gC4⟩
              refine ⟨s4, ?_⟩
              rw [gC4, snoc, List.take_of_length_le (Nat.le_refl _)]
          · rintro H3 ⟨s3, gC3⟩
            refine ⟨s3, ?_⟩
            rw [List.length_map, l2, List.take_length] at gC3
            exact gC3
    · rintro H2 ⟨s2, gC⟩
      have gC : H2 C = some (.lst ((allG kss).map V.int)) := gC
      have nCd : C ∉ ds := fun m => by
        obtain ⟨kv, od, _, hk2⟩ := k1 C m
        rw [hk2] at nC
        cases nC
      refine q1 _ H2 (fun d m => ?_) fun Hu u1 u2 => ?_
      · obtain ⟨kv, od, _, hk2⟩ := k1 d m
        rw [hk2, s2 _ _ hk2]
      have sU : Same H Hu := fun b o e => by
        by_cases m : b ∈ ds
        · rw [u2 b m]
          exact e
        · rw [u1 b m]
          exact s2 _ _ ((o1 b m).trans e)
      have gCu : Hu C = some (.lst ((allG kss).map V.int)) := (u1 C nCd).trans gC
      have hyU := hy.same sU
      obtain ⟨⟨_, _, _, _, _, _, y4, _⟩, _, dx, t, rk, gy, _⟩ := id hyU
      walk_at "1"
      refine ⟨.ref p, rfl, p, dx, _, rfl, gy, rfl, p, rows, rfl, hyU, fun a H3 o3 hy3 ra yr old sm => ?_⟩
      obtain ⟨g, lp, lt, hg, ⟨da, bk, ga, kb⟩, _⟩ := id ra
      have gC3 : H3 C = some (.lst ((allG kss).map V.int)) := o3 _ _ (by rintro rfl; rw [gy] at gCu; cases gCu) gCu
      have m0 : (0 : Int) ∈ allG kss := mem_allG (List.mem_of_getElem? e0) z0
      refine ⟨a, _, da, _, .int (g * 4 ^ rows.length), rfl, ga, R.cl, R.bound, rfl, ?_⟩
      refine ⟨C, allG kss, rfl, .inl (.inl gC3), List.length_pos_of_mem m0, fun m mm top => ?_⟩
      walk_at "1"
      obtain ⟨_, _, _, gp, _⟩ := hy.2.2
      exact ⟨.inl ⟨by decide, by decide⟩, q g m H3 hg (fun f mf i j v hi hj n e => top v (mem_allG mf e)) (top 0 m0) ((Mild.of_same gp sU).trans (mild_reck gy o3 yr old sm)) hy3⟩
end
end U
namespace U
open PySem PySem.Spec PyProof.Rows L2

/-- greater, None being the greatest -/
def aboveO : Option Int → Option Int → Bool
  | none, none => false
  | none, some _ => true
  | some _, none => false
  | some a, some b => decide (b < a)
/-- no number of tables is above a line made of the table ahead of it -/
def paperB (rows : List (List (Option Int))) (kss : List (List (Key × V))) : Bool := (List.range rows.length).all fun k => waysN.all fun w => !aboveO (lvlK ((kss[k + 1]?).getD []) w.1 w.2) (stepO (prF ((rows.reverse[k]?).getD [])) (lvlK ((kss[k]?).getD [])) w.1 w.2)
theorem within_one {p D : Lvl} {P N : Nat → Nat → Int} {B M g : Int} {u : Option Int} (hB : 3 * M + 2 * g < B) (M0 : 0 ≤ M) (g0 : 0 ≤ g) (hp : ∀ i j, i < 3 → j < 3 → i ≠ j → Stands B g (p i j) (P i j)) (hd : ∀ i j, i < 3 → j < 3 → i ≠ j → Stands B M (D i j) (N i j)) (hu : ∀ v, u = some v → v ≤ M)
    {i j : Nat} (hi : i < 3) (hj : j < 3) (n : i ≠ j) : decide (u.getD B ≤ stepN P N i j) = !aboveO u (stepO p D i j) := by
  have ht : 3 - i - j < 3 ∧ i ≠ 3 - i - j ∧ 3 - i - j ≠ j := by omega
  have B0 : 0 ≤ B := by omega
  have a := osum3 B0 (hd _ _ hi ht.1 ht.2.1) (hp _ _ hi hj n) (hd _ _ ht.1 hj ht.2.2)
  have b := osum5 B0 (hd _ _ hi hj n) (hp _ _ hi ht.1 ht.2.1) (hd _ _ hj hi n.symm) (hp _ _ ht.1 hj ht.2.2) (hd _ _ hi hj n)
  have s : Stands B (3 * M + 2 * g) (stepO p D i j) (stepN P N i j) := (omin2 a b (by omega) (by omega)).mono (by omega)
  cases e : stepO p D i j with
  | none =>
    rw [e] at s
    have s : B ≤ stepN P N i j := s
    cases u with
    | none => exact decide_eq_true s
    | some v =>
      have := hu v rfl
      exact decide_eq_true (show v ≤ _ by omega)
  | some c =>
    rw [e] at s
    obtain ⟨s1, s2, s3⟩ := s
    rw [s1]
    cases u with
    | none => exact decide_eq_false (show ¬ B ≤ c by omega)
    | some v =>
      show decide (v ≤ c) = !decide (c < v)
      by_cases l : v ≤ c
      · rw [decide_eq_true l, decide_eq_false (by omega)]; rfl
      · rw [decide_eq_false l, decide_eq_true (by omega)]; rfl
theorem within_map {n : Nat} {B : Int} {f : Nat → Lvl} {g : Nat → Nat → Nat → Int} : withinB ((List.range (n + 1)).map fun k => sixB B (f k)) ((List.range n).map fun k => six (g k)) = (List.range n).all fun k => waysN.all fun w => decide ((f (k + 1) w.1 w.2).getD B ≤ g k w.1 w.2) := by
  have e : ((List.range (n + 1)).map fun k => sixB B (f k)).drop 1 = (List.range n).map fun k => sixB B (f (k + 1)) := by
    rw [List.range_succ_eq_map, List.map_cons, List.drop_one, List.tail_cons, List.map_map]
    rfl
  unfold withinB
  rw [e, List.zip_map', List.all_map]
  congr 1
/-- all that is asked of tables -/
def Tbs (K : PySem.W.Frag) (H : Hp) (y l : Addr) (rows : List (List (Option Int))) (kss : List (List (Key × V))) : Prop := YdK K H y rows ∧ (LvG K H l kss ∧ (kss.length = rows.length + 1 ∧ ∃ k0, kss[0]? = some k0 ∧ ∀ w ∈ waysN, zeroB (gotV k0 w) = true))
theorem zero_lvl {k0 : List (Key × V)} (h : ∀ w ∈ waysN, zeroB (gotV k0 w) = true) : lvlK k0 0 1 = some 0 := by
  have := h (0, 1) (by decide)
  unfold lvlK
  cases e : gotV k0 (0, 1) with
  | int v =>
    rw [e] at this
    exact congrArg some (of_decide_eq_true this)
  | _ => rw [e] at this; cases this
/-- no list of tables, at first sight -/
def NoLv (K : PySem.W.Frag) (H : Hp) (n : Nat) (x : V) : Prop := (∃ a, Is K H x a ∧ a ≠ .lst ∧ a ≠ .tup) ∨ ∃ l xs bs k0, x = .ref l ∧ SqA K H l xs ∧ xs.length ≤ 1000 ∧ bs.length = xs.length ∧ (∀ (i : Nat) v b, xs[i]? = some v → bs[i]? = some b → ItB K H v b) ∧ (∀ v, xs[0]? = some v → bs.all id = true → (bs.length : Int) = (n : Int) + 1 → ∃ d, v = .ref d ∧ DcV K H d k0) ∧ levsB ((n : Int) + 1) bs k0 = false
theorem NoLv.same {K : PySem.W.Frag} {H H' : Hp} {n : Nat} {x : V} (h : NoLv K H n x) (e : Same H H') : NoLv K H' n x := by
  rcases h with ⟨a, h1, h2⟩ | ⟨l, xs, bs, k0, h1, h2, h3, h4, h5, h6, h7⟩
  · exact .inl ⟨a, h1.same e, h2⟩
  · exact .inr ⟨l, xs, bs, k0, h1, h2.same e, h3, h4, fun i v b z1 z2 => (h5 i v b z1 z2).same e, fun v z1 z2 z3 => by
      obtain ⟨d, q1, q2⟩ := h6 v z1 z2 z3
      exact ⟨d, q1, q2.same e⟩, h7⟩
theorem Tbs.same {K : PySem.W.Frag} {H H' : Hp} {y l : Addr} {rows : List (List (Option Int))} {kss : List (List (Key × V))} (h : Tbs K H y l rows kss) (e : Same H H') : Tbs K H' y l rows kss := ⟨h.1.same e, h.2.1.same e, h.2.2⟩
def sp_is_paper (K : PySem.W.Frag) : Sp := sp2 fun y x H Q E => BadY K H y E ∨ ∃ p rows, y = .ref p ∧ ((YdK K H p rows ∧ (NoLv K H rows.length x ∧ ∀ H', Same H H' → Q (.bl false) H')) ∨ ∃ l kss, x = .ref l ∧ (Tbs K H p l rows kss ∧ ∀ H', Mild K p H H' → YdK K H' p rows → Q (.bl (paperB rows kss)) H'))
def sp_told_cost (K : PySem.W.Frag) : Sp := sp3 fun y x z H Q E => BadY K H y E ∨ ∃ p rows, y = .ref p ∧ ((YdK K H p rows ∧ (NoLv K H rows.length x ∧ Rz K "InvalidPaper" "value" x H E)) ∨ ∃ l kss, x = .ref l ∧ (Tbs K H p l rows kss ∧ ∀ H', Mild K p H H' → YdK K H' p rows →
  (paperB rows kss = false → Rz K "InvalidPaper" "value" x H' E) ∧ (paperB rows kss = true → BadW K H' z E ∨ ∃ i j, z = .str (wd [i, j]) ∧ i < 3 ∧ j < 3 ∧ i ≠ j ∧ ∀ ks, kss[rows.length]? = some ks → Q (pV (lvlK ks i j)) H')))
def sp__are_within_lines (K : PySem.W.Frag) : Sp := sp2 fun y x H Q _ => ∃ p rows l kss, y = .ref p ∧ x = .ref l ∧ Tbs K H p l rows kss ∧ ∀ H', Mild K p H H' → YdK K H' p rows → Q (.bl (paperB rows kss)) H'
def t__are_within_lines (K : PySem.W.Frag) (E : XK) : TS := (tSeq (tAsg (tFn (sp_bound_beyond K) E (tCons (tVar 0) (tCons (tLst (tCons (tVar 1) tNil)) tNil))) (gName 2)) (tSeq (tAsg (tFn (sp_numbers_of K) E (tCons (tVar 1) (tCons (tC (.ref (He.ga K "WAYS"))) (tCons (tVar 2) tNil)))) (gName 3)) (tSeq (tAsg (tFn (sp_bounded_prices K) E (tCons (tVar 0) (tCons (tVar 2) tNil))) (gName 4)) (tRet (tFn (sp_are_within K) E (tCons (tVar 3) (tCons (tLc (iZipV K (tCons (tVar 4) (tCons (tVar 3) tNil))) (gTup K 2 (gCons (gName 5) (gCons (gName 6) gNil))) tYes (tFn (sp_towers_above K) E0 (tCons (tVar 5) (tCons (tVar 6) tNil))) [5, 6]) tNil)))))))
def t_is_paper (K : PySem.W.Frag) (E : XK) : TS := (tSeq (tDrop (tFn (sp_check_yard K) E (tCons (tVar 0) tNil))) (tRet (tAndV (tFn (sp_are_levels K) E (tCons (tVar 1) (tCons (tOp uAdd (tCB (rLenO (He.ga K "Yard") (sp_Yard_len K)) (tCons (tVar 0) tNil)) (tC (.int 1))) (tCons (tC (.ref (He.ga K "WAYS"))) tNil)))) (tFn (sp__are_within_lines K) E (tCons (tVar 0) (tCons (tVar 1) tNil))))))
def t_told_cost (K : PySem.W.Frag) (E : XK) : TS := (tSeq (tIfS (tNot (tB (tFn (sp_is_paper K) E (tCons (tVar 0) (tCons (tVar 1) tNil))))) (tRse K "InvalidPaper" "value" E (tCons (tVar 1) tNil)) tNext) (tSeq (tDrop (tFn (sp_check_way K) E (tCons (tVar 2) tNil))) (tRet (tDGet (tOp (uIx K) (tVar 1) (tUn (rU fun i => .int (-i)) (tC (.int 1)))) (tVar 2)))))
section
variable {K : PySem.W.Frag} (F : KF K) (R : KR K) {vs : List V} {H : Hp} {Q : VK} {E : XK}
local macro_rules | `(tactic| walk_at "w") => `(tactic| try simp only [turnE, lcT, Snoc, tRet, tRetN, tAndV, tOrV, tNotV, tCB, tCons, tVar, tNil, tC, tOp, tSeq, tAsg, gName, gSub, tIfS, tDrop, tFn, tTup, tLst, tNext, tB, tTest, tNot, tAnd, tOr, tIf, tChain, tUn, rU, tFld, tPart, tNoPart, L2.tSl, tBM, tPar, tPar3, tTruth, tDNewK,
  L2.start, List.map_cons, List.map_nil, List.length_cons, List.length_nil, List.replicate_succ, List.replicate_zero, List.append_nil, List.nil_append, List.cons_append, List.singleton_append, Nat.sub_self, Nat.zero_add, Nat.reduceAdd, Nat.reduceSub,
  List.getElem?_cons_zero, List.getElem?_cons_succ, List.set_cons_zero, List.set_cons_succ, Option.some.injEq, exists_eq_left, exists_eq_left', V.int.injEq, V.bl.injEq, V.str.injEq, V.ref.injEq,
  uAdd_int, uAdd_str, uSub_int, uMul_int, uMul_str, uDiv_int, uMod_int, uPow_int, uLt_int, uLe_int, uGt_int, uGe_int, uIs_non, uNis_non, uIs_bl, uNis_bl, sp1, sp2, sp3, sp4, uEq_int, uEq_str, uNe_int, uNe_str, uSl_str, uLen_str, decide_eq_true_eq])
local macro_rules | `(tactic| walk_at "1") => `(tactic| try simp only [turnE, lcT, Snoc, tRet, tRetN, tAndV, tOrV, tNotV, tCB, tCons, tVar, tNil, tC, tOp, tAsg, gName, gSub, tIfS, tDrop, tFn, tTup, tLst, tNext, tB, tTest, tNot, tAnd, tOr, tIf, tChain, tUn, rU, tFld, tPart, tNoPart, L2.tSl, tBM, tPar, tPar3, tTruth, tDNewK,
  L2.start, List.map_cons, List.map_nil, List.length_cons, List.length_nil, List.replicate_succ, List.replicate_zero, List.append_nil, List.nil_append, List.cons_append, List.singleton_append, Nat.sub_self, Nat.zero_add, Nat.reduceAdd, Nat.reduceSub,
  List.getElem?_cons_zero, List.getElem?_cons_succ, List.set_cons_zero, List.set_cons_succ, Option.some.injEq, exists_eq_left, exists_eq_left', V.int.injEq, V.bl.injEq, V.str.injEq, V.ref.injEq,
  uAdd_int, uAdd_str, uSub_int, uMul_int, uMul_str, uDiv_int, uMod_int, uPow_int, uLt_int, uLe_int, uGt_int, uGe_int, uIs_non, uNis_non, uIs_bl, uNis_bl, sp1, sp2, sp3, sp4, uEq_int, uEq_str, uNe_int, uNe_str, uSl_str, uLen_str, decide_eq_true_eq])
local macro_rules | `(tactic| walk_at "s") => `(tactic| ((try dsimp only [turnE]); with_reducible refine seq_ ?_))

theorem levOk {kvs : List (Key × V)} (h : levB kvs = true) (nd : (kvs.map (·.1)).Nodup) {H' : Hp} : ∀ p ∈ kvs, OkV K H' p.2 := fun p mp => by
  have ok := lev_all h nd p mp
  cases e : p.2 with
  | non => trivial
  | int v => trivial
  | _ => rw [e] at ok; cases ok
theorem LvG.flt {H' : Hp} {l : Addr} {kss : List (List (Key × V))} (h : LvG K H l kss) (m : ∀ b o, (∀ C dx gs, o ≠ .ins C dx gs) → H b = some o → H' b = some o) : LvG K H' l kss := by
  obtain ⟨ls, l1, l2, l3, l4⟩ := h
  refine ⟨ls, ?_, l2, fun k d f a b => ?_, l4⟩
  · rcases l1 with ((q | ⟨o, q⟩) | q) | ((q | ⟨o, q⟩) | q)
    · exact .inl (.inl (.inl (m _ _ (fun _ _ _ z => nomatch z) q)))
    · exact .inl (.inl (.inr ⟨o, m _ _ (fun _ _ _ z => nomatch z) q⟩))
    · exact .inl (.inr q)
    · exact .inr (.inl (.inl (m _ _ (fun _ _ _ z => nomatch z) q)))
    · exact .inr (.inl (.inr ⟨o, m _ _ (fun _ _ _ z => nomatch z) q⟩))
    · exact .inr (.inr q)
  · obtain ⟨⟨d1, d2, d3⟩, lev⟩ := l3 k d f a b
    exact ⟨⟨m _ _ (fun _ _ _ z => nomatch z) d1, levOk lev d3, d3⟩, lev⟩
theorem sixB_fn (B : Int) (f : Lvl) {i j : Nat} (hi : i < 3) (hj : j < 3) (n : i ≠ j) : fnOf (sixB B f) i j = (f i j).getD B := by
  rcases (show i = 0 ∧ j = 1 ∨ i = 0 ∧ j = 2 ∨ i = 1 ∧ j = 0 ∨ i = 1 ∧ j = 2 ∨ i = 2 ∧ j = 0 ∨ i = 2 ∧ j = 1 by omega) with ⟨rfl, rfl⟩ | ⟨rfl, rfl⟩ | ⟨rfl, rfl⟩ | ⟨rfl, rfl⟩ | ⟨rfl, rfl⟩ | ⟨rfl, rfl⟩ <;> rfl
theorem rowI_stands {rows : List (List (Option Int))} {g B M : Int} (hg : Great rows g) (h6 : ∀ r ∈ rows, r.length = 6) (hM : g ≤ M) {r : List (Option Int)} (mr : r ∈ rows) {i j : Nat} (hi : i < 3) (hj : j < 3) (n : i ≠ j) : Stands B M (prF r i j) (fnOf (rowI B r) i j) := by
  have l6 := h6 r mr
  have c6 : colN i j < r.length := by
    rw [l6]
    unfold colN
    split <;> omega
  unfold prF fnOf rowI
  rw [List.getElem?_map, List.getElem?_eq_getElem c6]
  have mo : r[colN i j] ∈ r := List.getElem_mem c6
  generalize r[colN i j] = o at *
  cases o with
  | none => exact Int.le_refl _
  | some v =>
    have mp : v ∈ priced rows := List.mem_flatMap.mpr ⟨r, mr, List.mem_filterMap.mpr ⟨some v, mo, rfl⟩⟩
    have := hg.2.2 v mp
    exact ⟨rfl, Int.le_of_lt this.1, Int.le_trans this.2 hM⟩
include F R in
theorem read__are_within_lines (h : sp__are_within_lines K vs H Q E) : t__are_within_lines K E { nx := fun _ H' => Q .non H', rt := Q } (start ["yard", "paper", "bound", "levels", "prices", "six", "below"] vs) H := by
  match vs, h with
  | [_, _], ⟨p, rows, l, kss, rfl, rfl, ⟨hy, hl, ln, first⟩, q⟩ =>
    have h6 := len6_of hy.1
    have h60 : rows.length ≤ 60 := by
      obtain ⟨⟨_, _, _, _, _, _, y4, _⟩, _⟩ := hy
      exact y4
    unfold t__are_within_lines
    walk_at "s"
    walk_at "1"
    refine ⟨by decide, fun L nL => ?_⟩
    have s1 : Same H (upd H L (.lst [.ref l])) := same_new nL
    have gL : upd H L (.lst [.ref l]) L = some (.lst [.ref l]) := upd_same
    generalize upd H L (.lst [.ref l]) = H1 at *
    refine ⟨p, rows, L, l, kss, rfl, rfl, hy.same s1, gL, hl.same s1, by omega, ⟨first.choose, first.choose_spec.1, zero_lvl first.choose_spec.2⟩, fun g M H2 hg top hM m2 hy2 => ?_⟩
    have hl2 : LvG K H2 l kss := (hl.same s1).flt m2.fl
    obtain ⟨_, _, _, gp, _⟩ := hy.2.2
    have m02 : Mild K p H H2 := (Mild.of_same gp s1).trans m2
    generalize hB : g * 4 ^ rows.length + 3 * M = B
    have pos : (0 : Int) ≤ g * 4 ^ rows.length := Int.mul_nonneg (Int.le_of_lt hg.1) (Int.pow_nonneg (by decide))
    walk_at "s"
    walk_at "1"
    refine ⟨l, kss, B, rfl, rfl, rfl, hl2, by omega, fun a H3 s3 na ha => ?_⟩
    walk_at "s"
    walk_at "1"
    refine ⟨p, rows, B, rfl, (hy2.same s3).1, rfl, fun b H4 s4 nb hb => ?_⟩
    have ha4 := ha.same s4
    obtain ⟨bs, b1, b2, b3⟩ := id hb
    obtain ⟨as, a1, a2, a3⟩ := id ha4
    have lb : bs.length = rows.length := by rw [b2, List.length_map, List.length_reverse]
    have la : as.length = rows.length + 1 := by rw [a2, List.length_map, ln]
    have mi : min (bs.map V.ref).length (as.map V.ref).length = rows.length := by rw [List.length_map, List.length_map, lb, la]; omega
    walk_at "1"
    refine tLc_zipA ?_
    unfold RZ.iZipA
    walk_at "1"
    refine ⟨b, a, _, _, rfl, .inl ⟨.inl (.inl b1), .inl (.inl a1), fun D hD => ?_⟩⟩
    let fk : Nat → Lvl := fun k => lvlK ((kss[k]?).getD [])
    let gk : Nat → Nat → Nat → Int := fun k => stepN (fnOf (rowI B ((rows.reverse[k]?).getD []))) (fnOf (sixB B (fk k)))
    refine lc_freshZ (K := K) (zipped_LL (K := K) (a := b) (b := a) (xs := bs.map V.ref) (ys := as.map V.ref)) (fun k => .tup (iV (six (gk k)))) (fun x z => rfl) hD (by rw [mi]; omega) (fun H' s => ⟨.inl (.inl (s _ _ b1)), .inl (.inl (s _ _ a1))⟩) ?_ ?_
    · intro k x z H5 Q5 hx hz s5 go
      rw [List.getElem?_map] at hx hz
      obtain ⟨c, hc, rfl⟩ := Option.map_eq_some_iff.mp hx
      obtain ⟨d, hd, rfl⟩ := Option.map_eq_some_iff.mp hz
      have lk : k < rows.length := by rw [← lb]; exact (List.getElem?_eq_some_iff.mp hc).1
      have er : rows.reverse[k]? = some (rows.reverse[k]'(by rw [List.length_reverse]; exact lk)) := List.getElem?_eq_getElem _
      have ek : kss[k]? = some (kss[k]'(by omega)) := List.getElem?_eq_getElem _
      have tb := Same.sqT s5 (b3 k c (rowI B ((rows.reverse[k]?).getD [])) hc (by rw [List.getElem?_map, er]; rfl))
      have tc := Same.sqT s5 (a3 k d (sixB B (fk k)) hd (by rw [List.getElem?_map, ek]; show some _ = some (sixB B (lvlK ((kss[k]?).getD []))); rw [ek]; rfl))
      have m6 : (rowI B ((rows.reverse[k]?).getD [])).length = 6 := by
        unfold rowI
        rw [List.length_map, er]
        exact h6 _ (List.mem_reverse.mp (List.getElem_mem _))
      simp only [wipe, List.set_cons_zero, List.set_cons_succ]
      walk_at "1"
      exact ⟨c, d, fnOf (rowI B ((rows.reverse[k]?).getD [])), fnOf (sixB B (fk k)), rfl, rfl, by rw [six_fn m6]; exact tb, by rw [six_fn (by rfl)]; exact tc, fun l H6 s6 nl gl => go l H6 nl s6 gl⟩
    · intro H5 ls s5 hll gD at_ nd nD fr
      rw [mi] at hll
      have eq1 : (kss.map fun ks => sixB B (lvlK ks)) = (List.range (rows.length + 1)).map fun k => sixB B (fk k) := by
        (refine List.ext_getElem? fun k => ?_)
        (rw [List.getElem?_map, List.getElem?_map])
        by_cases lt : k < rows.length + 1
        · have ek : kss[k]? = some (kss[k]'(by omega)) := List.getElem?_eq_getElem _
          rw [ek, List.getElem?_range lt]
          show some _ = some (sixB B (lvlK ((kss[k]?).getD [])))
          rw [ek]
          rfl
        · rw [List.getElem?_eq_none (by omega), List.getElem?_eq_none (by rw [List.length_range]; omega)]
          rfl
      refine ⟨a, D, (List.range (rows.length + 1)).map (fun k => sixB B (fk k)), (List.range rows.length).map fun k => six (gk k), rfl, rfl, eq1 ▸ ha4.same s5, ⟨ls, gD, by rw [hll, List.length_map, List.length_range], fun k c z e1 e2 => ?_⟩, by rw [List.length_map, List.length_range]; omega, by rw [List.length_map, List.length_range]; omega, ?_, ?_, fun H6 s6 => ?_⟩
      · rw [List.getElem?_map] at e2
        obtain ⟨k', hk', rfl⟩ := Option.map_eq_some_iff.mp e2
        have := (List.getElem?_eq_some_iff.mp hk').2
        rw [List.getElem_range] at this
        subst this
        exact .inl (.inl (at_ k c e1))
      · intro z m
        obtain ⟨f, _, rfl⟩ := List.mem_map.mp m
        rfl
      · intro z m
        obtain ⟨k, _, rfl⟩ := List.mem_map.mp m
        rfl
      · have s26 := ((s3.trans s4).trans s5).trans s6
        obtain ⟨_, _, _, gp2, _⟩ := hy2.2.2
        have fin := q H6 (m02.trans (Mild.of_same gp2 s26)) (hy2.same s26)
        rw [within_map]
        have same : ((List.range rows.length).all fun k => waysN.all fun w => decide ((fk (k + 1) w.1 w.2).getD B ≤ gk k w.1 w.2)) = paperB rows kss := by
          unfold paperB
          (rw [Bool.eq_iff_iff, List.all_eq_true, List.all_eq_true])
          refine forall_congr' fun k => forall_congr' fun mk => ?_
          have lk := List.mem_range.mp mk
          rw [List.all_eq_true, List.all_eq_true]
          refine forall_congr' fun w => forall_congr' fun mw => ?_
          obtain ⟨w1, w2, w3⟩ := waysN_ok w mw
          have er : rows.reverse[k]? = some (rows.reverse[k]'(by rw [List.length_reverse]; exact lk)) := List.getElem?_eq_getElem _
          have mr : rows.reverse[k]'(by rw [List.length_reverse]; exact lk) ∈ rows := List.mem_reverse.mp (List.getElem_mem _)
          have g4 : 4 * g ≤ g * 4 ^ rows.length := by
            have : (4 : Int) ^ 1 ≤ 4 ^ rows.length := pow4_mono (by omega)
            have := Int.mul_le_mul_of_nonneg_left this (Int.le_of_lt hg.1)
            omega
          have g0 := hg.1
          obtain ⟨ls2, _, l2, l3, _⟩ := id hl2
          have levk : ∀ j (hj : j < rows.length + 1), levB ((kss[j]?).getD []) = true ∧ ∀ a b v, a < 3 → b < 3 → a ≠ b → lvlK ((kss[j]?).getD []) a b = some v → v ≤ M := fun j hj => by
            have ej : kss[j]? = some (kss[j]'(by omega)) := List.getElem?_eq_getElem _
            rw [ej]
            exact ⟨(l3 j _ _ (List.getElem?_eq_getElem (show j < ls2.length by omega)) ej).2, fun a b v ha hb n e => top _ (List.getElem_mem _) a b v ha hb n e⟩
          have w_ := within_one (u := fk (k + 1) w.1 w.2) (p := prF ((rows.reverse[k]?).getD [])) (D := fk k) (P := fnOf (rowI B ((rows.reverse[k]?).getD []))) (N := fnOf (sixB B (fk k))) (B := B) (M := M) (g := g) (by omega) hM (Int.le_of_lt g0)
            (fun i j hi hj n => by rw [er]; exact rowI_stands hg h6 (Int.le_refl g) mr hi hj n)
            (fun i j hi hj n => by
              rw [sixB_fn B _ hi hj n]
              exact stands_getD fun v e => ⟨(gotV_ok (levk k (by omega)).1 hi hj n).2.2 v e, (levk k (by omega)).2 i j v hi hj n e⟩)
            (fun v e => (levk (k + 1) (by omega)).2 _ _ v w1 w2 w3 e) w1 w2 w3
          show decide ((fk (k + 1) w.1 w.2).getD B ≤ gk k w.1 w.2) = true ↔ _
          rw [show gk k w.1 w.2 = stepN (fnOf (rowI B ((rows.reverse[k]?).getD []))) (fnOf (sixB B (fk k))) w.1 w.2 from rfl, w_]
        rw [same]
        exact fin
include F R in
theorem read_is_paper (h : sp_is_paper K vs H Q E) : t_is_paper K E { nx := fun _ H' => Q .non H', rt := Q } (start ["yard", "value"] vs) H := by
  match vs, h with
  | [_, _], .inl bad =>
    unfold t_is_paper
    walk_at "s"
    walk_at "1"
    exact bad.chk
  | [_, x], .inr ⟨p, rows, rfl, .inl ⟨hy, np, q⟩⟩ =>
    obtain ⟨_, _, dx, t, rk, gy, _⟩ := id hy
    unfold t_is_paper
    walk_at "s"
    walk_at "1"
    refine ⟨.yard, is_yard F gy, fun _ => ?_, fun z => (z rfl).elim⟩
    walk_at "1"
    have y4 : rows.length ≤ 60 := by
      obtain ⟨⟨_, _, _, _, _, _, y4, _⟩, _⟩ := hy
      exact y4
    refine ⟨p, dx, _, rfl, gy, p, rows, rfl, hy.1, _, rfl, by omega, by omega, ?_⟩
    walk_at "1"
    rcases np with ⟨a, ka, n1, n2⟩ | ⟨l, xs, bs, k0, rfl, h2, h3, h4, h5, h6, h7⟩
    · exact ⟨rfl, _, rfl, .inl ⟨a, ka, n1, n2, fun H1 s1 => ⟨false, rfl, q H1 s1⟩⟩⟩
    · refine ⟨rfl, _, rfl, .inr ⟨l, xs, bs, k0, rfl, h2, h3, h4, h5, h6, by omega, fun H1 s1 => ⟨_, rfl, ?_⟩⟩⟩
      rw [h7]
      exact q H1 s1
  | [_, _], .inr ⟨p, rows, rfl, .inr ⟨l, kss, rfl, tb, q⟩⟩ =>
    obtain ⟨hy, hl, ln, k0, e0, z0⟩ := id tb
    obtain ⟨⟨_, _, _, _, _, _, y4, _⟩, _, dx, t, rk, gy, _⟩ := id hy
    unfold t_is_paper
    walk_at "s"
    walk_at "1"
    refine ⟨.yard, is_yard F gy, fun _ => ?_, fun z => (z rfl).elim⟩
    walk_at "1"
    refine ⟨p, dx, _, rfl, gy, p, rows, rfl, hy.1, _, rfl, by omega, by omega, ?_⟩
    walk_at "1"
    obtain ⟨ls, l1, l2, l3, l4⟩ := id hl
    refine ⟨rfl, _, rfl, .inr ⟨l, ls.map V.ref, List.replicate ls.length true, k0, rfl, l1, by rw [List.length_map]; omega, by rw [List.length_replicate, List.length_map], fun i v b z1 z2 => ?_, fun v z1 _ _ => ?_, by omega, fun H1 s1 => ⟨true, ?_, ?_⟩⟩⟩
    · rw [List.getElem?_map] at z1
      obtain ⟨d, hd, rfl⟩ := Option.map_eq_some_iff.mp z1
      have lt : i < kss.length := by have := (List.getElem?_eq_some_iff.mp hd).1; omega
      obtain ⟨dc, lev⟩ := l3 i d _ hd (List.getElem?_eq_getElem lt)
      have eb : b = true := List.eq_of_mem_replicate (List.mem_of_getElem? z2)
      exact .inr ⟨d, _, rfl, dc, by rw [eb, lev]⟩
    · rw [List.getElem?_map] at z1
      obtain ⟨d, hd, rfl⟩ := Option.map_eq_some_iff.mp z1
      exact ⟨d, rfl, (l3 0 d k0 hd e0).1⟩
    · have : levsB ((rows.length : Int) + 1) (List.replicate ls.length true) k0 = true := by
        unfold levsB
        rw [List.length_replicate, decide_eq_true (by omega), Bool.true_and, Bool.and_eq_true]
        exact ⟨by simp, List.all_eq_true.mpr z0⟩
      rw [this]
    · rw [if_pos rfl]
      refine ⟨p, rows, l, kss, rfl, rfl, tb.same s1, fun H2 m2 hy2 => q H2 ((Mild.of_same gy s1).trans m2) hy2⟩
include F in
theorem read_told_cost (h : sp_told_cost K vs H Q E) : t_told_cost K E { nx := fun _ H' => Q .non H', rt := Q } (start ["yard", "paper", "way"] vs) H := by
  match vs, h with
  | [_, _, _], .inl bad =>
    unfold t_told_cost
    walk_at "s"
    walk_at "1"
    exact .inl bad
  | [_, x, _], .inr ⟨p, rows, rfl, .inl ⟨hy, np, rz⟩⟩ =>
    unfold t_told_cost
    walk_at "s"
    walk_at "1"
    refine .inr ⟨p, rows, rfl, .inl ⟨hy, np, fun H1 s1 => ⟨_, rfl, ?_⟩⟩⟩
    rw [if_pos (by decide)]
    exact rse_var rfl (Rz.same s1 rz)
  | [_, _, z], .inr ⟨p, rows, rfl, .inr ⟨l, kss, rfl, tb, fin⟩⟩ =>
    unfold t_told_cost
    walk_at "s"
    walk_at "1"
    refine .inr ⟨p, rows, rfl, .inr ⟨l, kss, rfl, tb, fun H1 m1 hy1 => ⟨_, rfl, ?_⟩⟩⟩
    obtain ⟨f1, f2⟩ := fin H1 m1 hy1
    cases e : paperB rows kss with
    | false =>
      rw [if_pos (by decide)]
      exact rse_var rfl (f1 e)
    | true =>
      rw [if_neg (by decide)]
      walk_at "s"
      walk_at "1"
      rcases f2 e with bad | ⟨i, j, rfl, hi, hj, n, g⟩
      · exact bad.chk
      · obtain ⟨hy, hl, ln, _⟩ := id tb
        have hl1 : LvG K H1 l kss := hl.flt m1.fl
        obtain ⟨ls, l1, l2, l3, _⟩ := id hl1
        have ek : kss[rows.length]? = some (kss[rows.length]'(by omega)) := List.getElem?_eq_getElem _
        have ed : ls[rows.length]? = some (ls[rows.length]'(by omega)) := List.getElem?_eq_getElem _
        obtain ⟨dc, lev⟩ := l3 _ _ _ ed ek
        have wy : isWy (.str (wd [i, j])) = true := by
          rcases (show i = 0 ∧ j = 1 ∨ i = 0 ∧ j = 2 ∨ i = 1 ∧ j = 0 ∨ i = 1 ∧ j = 2 ∨ i = 2 ∧ j = 0 ∨ i = 2 ∧ j = 1 by omega) with ⟨rfl, rfl⟩ | ⟨rfl, rfl⟩ | ⟨rfl, rfl⟩ | ⟨rfl, rfl⟩ | ⟨rfl, rfl⟩ | ⟨rfl, rfl⟩ <;> decide +kernel
        refine ⟨.str, is_str _, fun _ => ?_, fun z => by rw [wy] at z; cases z⟩
        simp only [tDGet]
        walk_at "1"
        refine ⟨ls.map V.ref, .ref (ls[rows.length]'(by omega)), l1, at_end (n := rows.length) (by rw [List.length_map, l2, ln]) (by rw [List.getElem?_map, ed]; rfl), ?_⟩
        exact ⟨_, _, rfl, (gotV_ok lev hi hj n).2.1 ▸ DGet.k (k := .inr (wd [i, j])) dc.1, g _ ek⟩
end
end U
namespace U
open PySem PySem.Spec PyProof.Rows L2

/-! ### the boxes of numbers that the laws draw from -/
def Bx (H : Hp) (b : Addr) (m : Int) : Prop := ∃ g s k : Int, H b = some (.lst [.int g, .int s, .int k]) ∧ 0 ≤ g ∧ 0 ≤ s ∧ s < 2147483648 ∧ 0 ≤ k ∧ k ≤ m
theorem Bx.mono {H : Hp} {b : Addr} {m n : Int} (h : Bx H b m) (e : m ≤ n) : Bx H b n := by
  obtain ⟨g, s, k, h1, h2, h3, h4, h5, h6⟩ := h
  exact ⟨g, s, k, h1, h2, h3, h4, h5, by omega⟩
theorem Bx.same {H H' : Hp} {b : Addr} {m : Int} (h : Bx H b m) (e : Same H H') : Bx H' b m := by
  obtain ⟨g, s, k, h1, h2⟩ := h
  exact ⟨g, s, k, e _ _ h1, h2⟩
theorem Bx.at_ {H : Hp} {b : Addr} {m : Int} (h : Bx H b m) : ∃ l, H b = some (.lst l) := by
  obtain ⟨g, s, k, h1, _⟩ := h
  exact ⟨_, h1⟩
theorem Off.lst {H H' : Hp} {b c : Addr} {o : HO} (h : Off b H H') (hc : H c = some o) (n : c ≠ b) : H' c = some o := h _ _ n hc
theorem Off.new {H H2 : Hp} {b D : Addr} {o : HO} (h : Off b H H2) (hD : H D = none) : Off b H (upd H2 D o) := fun c u n e => by rw [upd_ne (ne_of_none e hD)]; exact h c u n e
theorem Bx.upd {H : Hp} {b D : Addr} {m : Int} {o : HO} (h : Bx H b m) (n : D ≠ b) : Bx (upd H D o) b m := by
  obtain ⟨g, s, k, h1, h2⟩ := h
  exact ⟨g, s, k, by rw [upd_ne n.symm]; exact h1, h2⟩
def sp__law_take (_K : PySem.W.Frag) : Sp := sp2 fun x am H Q _ => ∃ b m k, x = .ref b ∧ am = .int k ∧ 0 < k ∧ k ≤ 1000000000 ∧ Bx H b m ∧ m ≤ 1000000000 ∧ ∀ d H', 0 ≤ d → d < k → Off b H H' → Bx H' b (m + 1) → Q (.int d) H'
def sp__law_cell (K : PySem.W.Frag) : Sp := sp2 fun x y H Q _ => ∃ (a : Addr) (ns : List Int) (i : Int), x = .ref a ∧ y = .int i ∧ SqL K H a (ns.map V.int) ∧ 0 ≤ i ∧ i < 1000000 ∧ ∀ c H', Same H H' → Q (.int c) H'
def sp__law_bag (_K : PySem.W.Frag) : Sp := sp1 fun x H Q _ => ∃ c, x = .int c ∧ ∀ b H', H b = none → Same H H' → Bx H' b 0 → Q (.ref b) H'
def t__law_take (K : PySem.W.Frag) (E : XK) : TS := (tSeq (tIfS (tTest (tOp uGt (tOp (uIx K) (tVar 0) (tC (.int 0))) (tC (.int 0)))) (tSeq (tAsg (tOp uMod (tCB rInt (tCons (tOp (uIx K) (tVar 0) (tC (.int 0))) tNil)) (tVar 1)) (gName 2)) (tSeq (tAsg (tOp uDiv (tOp (uIx K) (tVar 0) (tC (.int 0))) (tVar 1)) (gSub (tVar 0) (tC (.int 0)) rSetL)) (tRet (tVar 2)))) tNext) (tSeq (tAsg (tOp uAdd (tOp (uIx K) (tVar 0) (tC (.int 2))) (tC (.int 1))) (gSub (tVar 0) (tC (.int 2)) rSetL)) (tSeq (tAsg (tOp uMod (tOp uPow (tCB rInt (tCons (tOp uAdd (tOp uAdd (tOp (uIx K) (tVar 0) (tC (.int 1))) (tOp uMul (tC (.int 32453261)) (tOp (uIx K) (tVar 0) (tC (.int 2))))) (tC (.int 1571))) tNil)) (tC (.int 5))) (tC (.int 2147483647))) (gName 3)) (tSeq (tAsg (tOp uMod (tOp uPow (tCB rInt (tCons (tOp uAdd (tVar 3) (tOp uMul (tC (.int 104729)) (tOp (uIx K) (tVar 0) (tC (.int 2))))) tNil)) (tC (.int 3))) (tC (.int 2147483587))) (gName 3)) (tRet (tOp uMod (tCB rInt (tCons (tOp uDiv (tVar 3) (tC (.int 16))) tNil)) (tVar 1)))))))
def t__law_cell (K : PySem.W.Frag) (E : XK) : TS := (tSeq (tAsg (tOp uAdd (tOp uMul (tC (.int 32453261)) (tVar 1)) (tC (.int 1571))) (gName 2)) (tRet (tIf (tTest (tOp uLt (tVar 1) (tCB (uLen K) (tCons (tVar 0) tNil)))) (tOp (uIx K) (tVar 0) (tVar 1)) (tOp uAdd (tVar 2) (tIf (tTest (tOp uGt (tCB (uLen K) (tCons (tVar 0) tNil)) (tC (.int 0)))) (tOp uMod (tCB rInt (tCons (tOp (uIx K) (tVar 0) (tC (.int 0))) tNil)) (tC (.int 1000003))) (tC (.int 0)))))))
def t__law_bag (K : PySem.W.Frag) (E : XK) : TS := (tRet (tLst (tCons (tCB uMax2 (tCons (tC (.int 0)) (tCons (tOp uSub (tVar 0) (tOp uPow (tC (.int 10)) (tC (.int 18)))) tNil))) (tCons (tOp uMod (tCB rInt (tCons (tVar 0) tNil)) (tC (.int 2147483629))) (tCons (tC (.int 0)) tNil)))))
theorem Off.free {H H' : Hp} {b l : Addr} (h : Off b H H') (n : l ≠ b) (e : H' l = none) : H l = none := by
  cases q : H l with
  | none => rfl
  | some o =>
    rw [h l o n q] at e
    cases e
/-- prices as the laws draw them: none above a hundred and some, with 27 more figures -/
def lowP : Option Int → Bool
  | none => true
  | some i => decide (0 < i ∧ i < 10 ^ 32)
def RowsLo (rows : List (List (Option Int))) : Prop := ∀ r ∈ rows, r.all lowP = true
theorem low_ok {p : Option Int} (h : lowP p = true) : okP p = true := by
  cases p with
  | none => rfl
  | some i => exact decide_eq_true (of_decide_eq_true h).1
theorem lowL_ok {r : List (Option Int)} (h : r.all lowP = true) : r.all okP = true := List.all_eq_true.mpr fun p m => low_ok (List.all_eq_true.mp h p m)
/-- a list under way, L, of lists of prices -/
def PI (H : Hp) (L b : Addr) (as : List Addr) (rows : List (List (Option Int))) : Prop := H L = some (.lst (as.map V.ref)) ∧ L ≠ b ∧ as.length = rows.length ∧ (∀ r ∈ rows, r.length = 6 ∧ r.all lowP = true) ∧
  ∀ (j : Nat) (a : Addr) (r : List (Option Int)), as[j]? = some a → rows[j]? = some r → H a = some (.lst (r.map pV)) ∧ a ≠ L ∧ a ≠ b
theorem PI.off {H H' : Hp} {L b : Addr} {as : List Addr} {rows : List (List (Option Int))} (h : PI H L b as rows) (o : Off b H H') : PI H' L b as rows := by
  obtain ⟨h1, h2, h3, h4, h5⟩ := h
  refine ⟨o _ _ h2 h1, h2, h3, h4, fun j a r z1 z2 => ?_⟩
  obtain ⟨k1, k2, k3⟩ := h5 j a r z1 z2
  exact ⟨o _ _ k3 k1, k2, k3⟩
theorem PI.put {H : Hp} {L b l : Addr} {as : List Addr} {rows : List (List (Option Int))} {o : HO} (h : PI H L b as rows) (n1 : l ≠ L) (n2 : l ∉ as) : PI (upd H l o) L b as rows := by
  obtain ⟨h1, h2, h3, h4, h5⟩ := h
  refine ⟨by rw [upd_ne n1.symm]; exact h1, h2, h3, h4, fun j a r z1 z2 => ?_⟩
  obtain ⟨k1, k2, k3⟩ := h5 j a r z1 z2
  exact ⟨by rw [upd_ne (by rintro rfl; exact n2 (List.mem_of_getElem? z1))]; exact k1, k2, k3⟩
theorem PI.fresh {H : Hp} {L b l : Addr} {as : List Addr} {rows : List (List (Option Int))} (h : PI H L b as rows) (hl : H l = none) : l ≠ L ∧ l ∉ as := by
  obtain ⟨h1, h2, h3, h4, h5⟩ := h
  refine ⟨(by rintro rfl; rw [h1] at hl; cases hl), fun m => ?_⟩
  obtain ⟨j, lt, e⟩ := List.mem_iff_getElem.mp m
  obtain ⟨k1, _⟩ := h5 j l rows[j] (by rw [← e]; exact List.getElem?_eq_getElem lt) (List.getElem?_eq_getElem (by omega))
  rw [k1] at hl
  cases hl
theorem PI.push {H : Hp} {L b l : Addr} {as : List Addr} {rows : List (List (Option Int))} {r : List (Option Int)} (h : PI H L b as rows) (hl : H l = some (.lst (r.map pV))) (n1 : l ≠ L) (n2 : l ≠ b) (h6 : r.length = 6) (ho : r.all lowP = true) :
    PI (upd H L (.lst ((as.map V.ref) ++ [.ref l]))) L b (as ++ [l]) (rows ++ [r]) := by
  obtain ⟨h1, h2, h3, h4, h5⟩ := h
  refine ⟨by rw [upd_same]; simp, h2, by simp [h3], fun x m => ?_, fun j a x z1 z2 => ?_⟩
  · rcases List.mem_append.mp m with m | m
    · exact h4 x m
    · rw [List.mem_singleton.mp m]
      exact ⟨h6, ho⟩
  · by_cases e : j < as.length
    · rw [List.getElem?_append_left e] at z1
      rw [List.getElem?_append_left (by omega)] at z2
      obtain ⟨k1, k2, k3⟩ := h5 j a x z1 z2
      exact ⟨by rw [upd_ne k2]; exact k1, k2, k3⟩
    · have e2 : j = as.length := by
        have := (List.getElem?_eq_some_iff.mp z1).1
        simp at this
        omega
      subst e2
      rw [List.getElem?_append_right (Nat.le_refl _), Nat.sub_self] at z1
      rw [List.getElem?_append_right (by omega), h3, Nat.sub_self] at z2
      cases z1
      cases z2
      exact ⟨by rw [upd_ne n1]; exact hl, n1, n2⟩
theorem PI.rowV {K : PySem.W.Frag} {H : Hp} {L b : Addr} {as : List Addr} {rows : List (List (Option Int))} (h : PI H L b as rows) : RowV K H (.ref L) rows := by
  obtain ⟨h1, h2, h3, h4, h5⟩ := h
  refine ⟨L, _, rfl, .inl (.inl (.inl h1)), by simp [h3], fun i v r z1 z2 => ?_⟩
  rw [List.getElem?_map] at z1
  obtain ⟨a, z3, rfl⟩ := Option.map_eq_some_iff.mp z1
  exact ⟨a, rfl, .inl (.inl (.inl (h5 i a r z3 z2).1))⟩
theorem Bx.ne {H : Hp} {b : Addr} {m : Int} {l : Addr} (h : Bx H b m) (hl : H l = none) : l ≠ b := by
  obtain ⟨l0, hb0⟩ := h.at_
  rintro rfl
  rw [hl] at hb0
  cases hb0
/-- how many cells a law looks at -/
theorem most_of (n : Nat) (lim : Int) (hl : lim ≤ 100) : ∃ N : Nat, N ≤ 100 ∧ (if (if (n : Int) < lim then (n : Int) else lim) > 2 then (if (n : Int) < lim then (n : Int) else lim) else 2) = (N : Int) := by
  refine ⟨(if (if (n : Int) < lim then (n : Int) else lim) > 2 then (if (n : Int) < lim then (n : Int) else lim) else 2).toNat, ?_, ?_⟩
  · split <;> split <;> omega
  · split <;> split <;> omega
def sp_law0 (K : PySem.W.Frag) : Sp := sp1 fun x H Q _ => ∃ (a : Addr) (ns : List Int), x = .ref a ∧ SqL K H a (ns.map V.int) ∧ ∀ H', Q (.bl true) H'
section
variable {K : PySem.W.Frag} (F : KF K) {vs : List V} {H : Hp} {Q : VK} {E : XK}
local macro_rules | `(tactic| walk_at "w") => `(tactic| try simp only [turnE, lcT, Snoc, tRet, tRetN, tAndV, tOrV, tNotV, tCB, tCons, tVar, tNil, tC, tOp, tSeq, tAsg, gName, gSub, tIfS, tDrop, tFn, tTup, tLst, tNext, tB, tTest, tNot, tAnd, tOr, tIf, tChain, tUn, rU, tFld, tPart, tNoPart, L2.tSl, tBM, tPar, tPar3, tTruth, tDNewK,
  L2.start, List.map_cons, List.map_nil, List.length_cons, List.length_nil, List.replicate_succ, List.replicate_zero, List.append_nil, List.nil_append, List.cons_append, List.singleton_append, Nat.sub_self, Nat.zero_add, Nat.reduceAdd, Nat.reduceSub,
  List.getElem?_cons_zero, List.getElem?_cons_succ, List.set_cons_zero, List.set_cons_succ, Option.some.injEq, exists_eq_left, exists_eq_left', V.int.injEq, V.bl.injEq, V.str.injEq, V.ref.injEq,
  uAdd_int, uAdd_str, uSub_int, uMul_int, uMul_str, uDiv_int, uMod_int, uPow_int, uLt_int, uLe_int, uGt_int, uGe_int, uIs_non, uNis_non, uIs_bl, uNis_bl, sp1, sp2, sp3, sp4, uEq_int, uEq_str, uNe_int, uNe_str, uSl_str, uLen_str, decide_eq_true_eq])
local macro_rules | `(tactic| walk_at "1") => `(tactic| try simp only [turnE, lcT, Snoc, tRet, tRetN, tAndV, tOrV, tNotV, tCB, tCons, tVar, tNil, tC, tOp, tAsg, gName, gSub, tIfS, tDrop, tFn, tTup, tLst, tNext, tB, tTest, tNot, tAnd, tOr, tIf, tChain, tUn, rU, tFld, tPart, tNoPart, L2.tSl, tBM, tPar, tPar3, tTruth, tDNewK,
  L2.start, List.map_cons, List.map_nil, List.length_cons, List.length_nil, List.replicate_succ, List.replicate_zero, List.append_nil, List.nil_append, List.cons_append, List.singleton_append, Nat.sub_self, Nat.zero_add, Nat.reduceAdd, Nat.reduceSub,
  List.getElem?_cons_zero, List.getElem?_cons_succ, List.set_cons_zero, List.set_cons_succ, Option.some.injEq, exists_eq_left, exists_eq_left', V.int.injEq, V.bl.injEq, V.str.injEq, V.ref.injEq,
  uAdd_int, uAdd_str, uSub_int, uMul_int, uMul_str, uDiv_int, uMod_int, uPow_int, uLt_int, uLe_int, uGt_int, uGe_int, uIs_non, uNis_non, uIs_bl, uNis_bl, sp1, sp2, sp3, sp4, uEq_int, uEq_str, uNe_int, uNe_str, uSl_str, uLen_str, decide_eq_true_eq])
local macro_rules | `(tactic| walk_at "s") => `(tactic| ((try dsimp only [turnE]); with_reducible refine seq_ ?_))

theorem uIx_lst {p : Addr} {xs : List V} {i : Int} {v : V} (h : H p = some (.lst xs)) (hi : atI xs i = some v) (q : Q v H) : uIx K (.ref p) (.int i) H Q := ⟨xs, v, .inl (.inl (.inl h)), hi, q⟩
theorem rInt_int {i : Int} (q : Q (.int i) H) : rInt [.int i] H Q := .inl ⟨i, rfl, q⟩
theorem rSetL_of {p : Addr} {xs : List V} {k : Int} {j : Nat} {v : V} {Q : Hp → Prop} (h : H p = some (.lst xs)) (hj : ixN xs.length k = some j) (q : Q (upd H p (.lst (xs.set j v)))) : rSetL (.ref p) (.int k) v H Q := ⟨p, xs, k, j, rfl, rfl, h, hj, q⟩
theorem cdivw_of {i j : Int} (h : 0 < j) (h2 : j ≤ 1000000000) : CDivW i j := by
  refine ⟨h, ?_⟩
  have : j.natAbs ≠ 0 := by omega
  have h3 : j.natAbs.log2 < 30 := (Nat.log2_lt this).mpr (by omega)
  omega
theorem tyL {l : Addr} {xs : List V} (h : H l = some (.lst xs)) : tyV K "list" (.ref l) H := Or.inl ⟨rfl, xs, .inl (.inl h)⟩
theorem app_of {l : Addr} {xs : List V} {y : V} (h : H l = some (.lst xs)) (hx : xs.length ≤ 100000) (q : Q .non (upd H l (.lst (xs ++ [y])))) : rAppend (.ref l) [y] H Q := ⟨l, xs, y, rfl, rfl, h, Nat.lt_of_lt_of_le (show xs.length < 100001 by omega) (by decide), q⟩
theorem take_of {b : Addr} {m k : Int} (hb : Bx H b m) (hm : m ≤ 1000000000) (h0 : 0 < k) (h1 : k ≤ 1000000000) (q : ∀ d H', 0 ≤ d → d < k → Off b H H' → Bx H' b (m + 1) → Q (.int d) H') : sp__law_take K [.ref b, .int k] H Q E :=
  ⟨b, m, k, rfl, rfl, h0, h1, hb, hm, q⟩
include F in
theorem read__law_cell (h : sp__law_cell K vs H Q E) : t__law_cell K E { nx := fun _ H' => Q .non H', rt := Q } (start ["_law_script", "_law_k", "_law_spare"] vs) H := by
  match vs, h with
  | [_, _], ⟨a, ns, i, rfl, rfl, ha, h0, h1, q⟩ =>
    unfold t__law_cell
    walk_at "s"
    walk_at "1"
    refine ⟨.inl (by omega), ?_⟩
    refine uLen_seq (.inl ha) ?_
    refine ⟨_, rfl, ?_⟩
    by_cases hi : i < ((ns.map V.int).length : Int)
    · rw [if_pos (decide_eq_true hi)]
      have hl : i.toNat < ns.length := by simp at hi; omega
      refine ⟨_, .int ns[i.toNat], .inl ha, ?_, q _ _ (Same.refl H)⟩
      unfold atI ixN
      rw [if_pos h0, if_pos hi]
      show (ns.map V.int)[i.toNat]? = _
      rw [List.getElem?_map, List.getElem?_eq_getElem hl]
      rfl
    · rw [if_neg (by simpa using hi)]
      walk_at "1"
      refine uLen_seq (.inl ha) ?_
      refine ⟨_, rfl, ?_⟩
      by_cases hz : (0 : Int) < ((ns.map V.int).length : Int)
      · rw [if_pos (decide_eq_true hz)]
        have hl : 0 < ns.length := by simp at hz; omega
        refine ⟨_, .int ns[0], .inl ha, ?_, ?_⟩
        · unfold atI ixN
          rw [if_pos (by decide), if_pos hz]
          show (ns.map V.int)[0]? = _
          rw [List.getElem?_map, List.getElem?_eq_getElem hl]
          rfl
        · refine rInt_int ?_
          walk_at "1"
          exact ⟨by omega, q _ _ (Same.refl H)⟩
      · rw [if_neg (by simpa using hz)]
        walk_at "1"
        exact q _ _ (Same.refl H)
include F in
theorem read__law_bag (h : sp__law_bag K vs H Q E) : t__law_bag K E { nx := fun _ H' => Q .non H', rt := Q } (start ["_law_cell_here"] vs) H := by
  match vs, h with
  | [_], ⟨c, rfl, q⟩ =>
    unfold t__law_bag
    walk_at "1"
    refine ⟨⟨by omega, by omega, by omega⟩, 0, c - 10 ^ Int.toNat 18, rfl, rInt_int ?_⟩
    walk_at "1"
    refine ⟨by omega, by decide, fun b hb => q b _ hb (same_new hb) ⟨_, _, 0, upd_same, ?_, Int.emod_nonneg _ (by omega), ?_, by omega, by omega⟩⟩
    · split <;> omega
    · have := Int.emod_lt_of_pos c (show (0 : Int) < 2147483629 by omega)
      omega
include F in
theorem read__law_take (h : sp__law_take K vs H Q E) : t__law_take K E { nx := fun _ H' => Q .non H', rt := Q } (start ["_law_bag_here", "_law_limit", "_law_digit", "_law_mixed"] vs) H := by
  match vs, h with
  | [_, _], ⟨b, m, k, rfl, rfl, hk, hk2, ⟨g, s, n, hb, h1, h2, h3, h4, h5⟩, hm, q⟩ =>
    unfold t__law_take
    walk_at "w"
    refine uIx_lst hb rfl ?_
    walk_at "w"
    by_cases hg : 0 < g
    · simp only [hg, if_true]
      refine uIx_lst hb rfl (rInt_int ⟨hk, ?_⟩)
      refine uIx_lst hb rfl ?_
      walk_at "w"
      refine ⟨cdivw_of hk hk2, rSetL_of (j := 0) hb rfl ?_⟩
      walk_at "w"
      refine q _ _ (Int.emod_nonneg _ (by omega)) (Int.emod_lt_of_pos _ hk) off_upd ⟨_, _, _, upd_same, Int.ediv_nonneg h1 (by omega), h2, h3, h4, by omega⟩
    · simp only [hg, if_false]
      refine uIx_lst hb rfl ?_
      walk_at "w"
      refine rSetL_of (j := 2) hb rfl ?_
      have ha : upd H b (.lst ([.int g, .int s, .int n].set 2 (.int (n + 1)))) b = some (.lst [.int g, .int s, .int (n + 1)]) := upd_same
      have ho : Off b H (upd H b (.lst ([.int g, .int s, .int n].set 2 (.int (n + 1))))) := off_upd
      generalize upd H b (.lst ([.int g, .int s, .int n].set 2 (.int (n + 1)))) = H1 at *
      refine uIx_lst ha rfl ?_
      walk_at "w"
      refine uIx_lst ha rfl ?_
      walk_at "w"
      refine ⟨.inl (by omega), ?_⟩
      refine rInt_int ?_
      walk_at "w"
      refine ⟨⟨by omega, by omega, by omega⟩, by omega, ?_⟩
      generalize hx : (s + 32453261 * (n + 1) + 1571) ^ (Int.toNat 5) % 2147483647 = x
      have hx1 : 0 ≤ x ∧ x < 2147483647 := by
        rw [← hx]
        exact ⟨Int.emod_nonneg _ (by omega), Int.emod_lt_of_pos _ (by omega)⟩
      refine uIx_lst ha rfl ?_
      walk_at "w"
      refine ⟨.inl (by omega), ?_⟩
      refine rInt_int ?_
      walk_at "w"
      refine ⟨⟨by omega, by omega, by omega⟩, by omega, ?_⟩
      generalize hy : (x + 104729 * (n + 1)) ^ (Int.toNat 3) % 2147483587 = y
      refine ⟨cdivw_of (by omega) (by omega), ?_⟩
      refine rInt_int ⟨hk, ?_⟩
      exact q _ _ (Int.emod_nonneg _ (by omega)) (Int.emod_lt_of_pos _ hk) ho ⟨_, _, _, ha, h1, h2, h3, by omega, by omega⟩
end
end U
namespace U
open PySem PySem.Spec PyProof.Rows L2

def sp__law_rows (K : PySem.W.Frag) : Sp := sp2 fun x y H Q _ => ∃ (b : Addr) (m : Int) (n : Nat), x = .ref b ∧ y = .int n ∧ 1 ≤ n ∧ n ≤ 60 ∧ Bx H b m ∧ m ≤ 1000000 ∧
  ∀ rows v H', rows.length ≤ n → RowsOk rows → RowV K H' v rows → Off b H H' → Bx H' b (m + 2000) → RowsLo rows → (∃ L as, v = .ref L ∧ PI H' L b as rows) → Q v H'
def t__law_rows (K : PySem.W.Frag) (E : XK) : TS := (tSeq (tPar 2 3 (tCons (tFn (sp__law_take K) E (tCons (tVar 0) (tCons (tC (.int 5)) tNil))) (tCons (tOp (uIx K) (tLst (tCons (tC (.int 0)) (tCons (tC (.int 0)) (tCons (tC (.int 9)) (tCons (tC (.int 4)) tNil))))) (tFn (sp__law_take K) E (tCons (tVar 0) (tCons (tC (.int 4)) tNil)))) tNil))) (tSeq (tAsg (tLst tNil) (gName 4)) (tSeq (tFor (iRng1 (tCons (tOp uAdd (tC (.int 1)) (tFn (sp__law_take K) E (tCons (tVar 0) (tCons (tVar 1) tNil)))) tNil)) (gName 5) (tSeq (tAsg (tLst tNil) (gName 6)) (tSeq (tFor (iRng1 (tCons (tC (.int 6)) tNil)) (gName 7) (tSeq (tAsg (tOp (uIx K) (tLst (tCons (tC (.int 1)) (tCons (tOp uAdd (tC (.int 1)) (tFn (sp__law_take K) E (tCons (tVar 0) (tCons (tC (.int 3)) tNil)))) (tCons (tOp uAdd (tC (.int 1)) (tFn (sp__law_take K) E (tCons (tVar 0) (tCons (tC (.int 9)) tNil)))) (tCons (tOp uAdd (tC (.int 1)) (tFn (sp__law_take K) E (tCons (tVar 0) (tCons (tOp uPow (tC (.int 10)) (tC (.int 6))) tNil)))) (tCons (tOp uSub (tOp uPow (tC (.int 10)) (tC (.int 29))) (tFn (sp__law_take K) E (tCons (tVar 0) (tCons (tC (.int 3)) tNil)))) tNil)))))) (tVar 2)) (gName 8)) (tDrop (tBM K "list" rAppend (tVar 6) (tCons (tIf (tAnd (tTest (tOp uGt (tVar 3) (tC (.int 0)))) (tTest (tOp (uEq K) (tFn (sp__law_take K) E (tCons (tVar 0) (tCons (tVar 3) tNil))) (tC (.int 0))))) (tC .non) (tVar 8)) tNil))))) (tDrop (tBM K "list" rAppend (tVar 4) (tCons (tVar 6) tNil)))))) (tRet (tVar 4)))))
section
variable {K : PySem.W.Frag} (F : KF K) {vs : List V} {H : Hp} {Q : VK} {E : XK}
local macro_rules | `(tactic| walk_at "w") => `(tactic| try simp only [turnE, lcT, Snoc, tRet, tRetN, tAndV, tOrV, tNotV, tCB, tCons, tVar, tNil, tC, tOp, tSeq, tAsg, gName, gSub, tIfS, tDrop, tFn, tTup, tLst, tNext, tB, tTest, tNot, tAnd, tOr, tIf, tChain, tUn, rU, tFld, tPart, tNoPart, L2.tSl, tBM, tPar, tPar3, tTruth, tDNewK,
  L2.start, List.map_cons, List.map_nil, List.length_cons, List.length_nil, List.replicate_succ, List.replicate_zero, List.append_nil, List.nil_append, List.cons_append, List.singleton_append, Nat.sub_self, Nat.zero_add, Nat.reduceAdd, Nat.reduceSub,
  List.getElem?_cons_zero, List.getElem?_cons_succ, List.set_cons_zero, List.set_cons_succ, Option.some.injEq, exists_eq_left, exists_eq_left', V.int.injEq, V.bl.injEq, V.str.injEq, V.ref.injEq,
  uAdd_int, uAdd_str, uSub_int, uMul_int, uMul_str, uDiv_int, uMod_int, uPow_int, uLt_int, uLe_int, uGt_int, uGe_int, uIs_non, uNis_non, uIs_bl, uNis_bl, sp1, sp2, sp3, sp4, uEq_int, uEq_str, uNe_int, uNe_str, uSl_str, uLen_str, decide_eq_true_eq])
local macro_rules | `(tactic| walk_at "1") => `(tactic| try simp only [turnE, lcT, Snoc, tRet, tRetN, tAndV, tOrV, tNotV, tCB, tCons, tVar, tNil, tC, tOp, tAsg, gName, gSub, tIfS, tDrop, tFn, tTup, tLst, tNext, tB, tTest, tNot, tAnd, tOr, tIf, tChain, tUn, rU, tFld, tPart, tNoPart, L2.tSl, tBM, tPar, tPar3, tTruth, tDNewK,
  L2.start, List.map_cons, List.map_nil, List.length_cons, List.length_nil, List.replicate_succ, List.replicate_zero, List.append_nil, List.nil_append, List.cons_append, List.singleton_append, Nat.sub_self, Nat.zero_add, Nat.reduceAdd, Nat.reduceSub,
  List.getElem?_cons_zero, List.getElem?_cons_succ, List.set_cons_zero, List.set_cons_succ, Option.some.injEq, exists_eq_left, exists_eq_left', V.int.injEq, V.bl.injEq, V.str.injEq, V.ref.injEq,
  uAdd_int, uAdd_str, uSub_int, uMul_int, uMul_str, uDiv_int, uMod_int, uPow_int, uLt_int, uLe_int, uGt_int, uGe_int, uIs_non, uNis_non, uIs_bl, uNis_bl, sp1, sp2, sp3, sp4, uEq_int, uEq_str, uNe_int, uNe_str, uSl_str, uLen_str, decide_eq_true_eq])
local macro_rules | `(tactic| walk_at "s") => `(tactic| ((try dsimp only [turnE]); with_reducible refine seq_ ?_))

theorem tFor_rng {t : TA} {g : TG} {tb : TS} {D : Ends} {σ : L2.St} {H : Hp} (h : t σ H fun vs H1 => ∃ j : Int, vs = [.int j] ∧ -(2 ^ 62) ≤ j ∧ j < 2 ^ 62 ∧ tFor (fun _ H' R => R (Itr 0 j.toNat) H') g tb D σ H1) : tFor (iRng1 t) g tb D σ H := h
theorem laps_of {J : It} {xs : List V} {G : Hp → Prop} (P : Plain J xs G) {g : TG} {tb : TS} {D : Ends} {σ : L2.St} {H : Hp} (Pv : Nat → L2.St → Hp → Prop) (h0 : Pv 0 σ H) (hG : ∀ i τ H', Pv i τ H' → G H')
    (hs : ∀ i x τ H, xs[i]? = some x → Pv i τ H → g x τ H fun ρ H2 => tb (turnE D (Pv (i + 1))) ρ H2) (hd : ∀ τ H, Pv xs.length τ H → D.nx τ H) : tFor (fun _ H' R => R J H') g tb D σ H :=
  for_plain P (wi := fun _ H' R => R J H') (fun R r => r) Pv h0 hG hs hd
theorem bars_at {e : Int} (h0 : 0 ≤ e) (h1 : e < 4) : ∃ p : Int, atI [V.int 0, .int 0, .int 9, .int 4] e = some (.int p) ∧ 0 ≤ p ∧ p ≤ 9 := by
  obtain rfl | rfl | rfl | rfl : e = 0 ∨ e = 1 ∨ e = 2 ∨ e = 3 := by omega
  all_goals exact ⟨_, rfl, by omega, by omega⟩
theorem kind_at {a b c d k : Int} (ha : 0 ≤ a) (ha2 : a < 3) (hb : 0 ≤ b) (hb2 : b < 9) (hc : 0 ≤ c) (hc2 : c < 1000000) (hd : 0 ≤ d) (hd2 : d < 3) (h0 : 0 ≤ k) (h1 : k < 5) :
    ∃ p : Int, atI [V.int 1, .int (1 + a), .int (1 + b), .int (1 + c), .int (10 ^ Int.toNat 29 - d)] k = some (.int p) ∧ 0 < p ∧ p < 10 ^ 32 := by
  have t : (10 : Int) ^ Int.toNat 29 = 100000000000000000000000000000 := by decide
  have t2 : (10 : Int) ^ 32 = 100000000000000000000000000000000 := by decide
  rw [t, t2]
  obtain rfl | rfl | rfl | rfl | rfl : k = 0 ∨ k = 1 ∨ k = 2 ∨ k = 3 ∨ k = 4 := by omega
  all_goals exact ⟨_, rfl, by omega, by omega⟩
theorem rows_s0 {b : Addr} {x1 x3 x4 x5 x6 x7 x8 : Option V} {M : Int} {kd : Int} {D : Ends} {H : Hp} (hb : Bx H b M) (hM : M ≤ 100000000) (h0 : 0 ≤ kd) (h1 : kd < 5)
    (q : ∀ p H', 0 < p ∧ p < 10 ^ 32 → Off b H H' → Bx H' b (M + 4) → D.nx [some (.ref b), x1, some (.int kd), x3, x4, x5, x6, x7, some (.int p)] H') :
    (tAsg (tOp (uIx K) (tLst (tCons (tC (.int 1)) (tCons (tOp uAdd (tC (.int 1)) (tFn (sp__law_take K) E (tCons (tVar 0) (tCons (tC (.int 3)) tNil)))) (tCons (tOp uAdd (tC (.int 1)) (tFn (sp__law_take K) E (tCons (tVar 0) (tCons (tC (.int 9)) tNil)))) (tCons (tOp uAdd (tC (.int 1)) (tFn (sp__law_take K) E (tCons (tVar 0) (tCons (tOp uPow (tC (.int 10)) (tC (.int 6))) tNil)))) (tCons (tOp uSub (tOp uPow (tC (.int 10)) (tC (.int 29))) (tFn (sp__law_take K) E (tCons (tVar 0) (tCons (tC (.int 3)) tNil)))) tNil)))))) (tVar 2)) (gName 8)) D [some (.ref b), x1, some (.int kd), x3, x4, x5, x6, x7, x8] H := by
  walk_at "1"
  refine take_of hb (by omega) (by omega) (by omega) fun a H1 a0 a1 o1 b1 => ?_
  walk_at "1"
  refine take_of b1 (by omega) (by omega) (by omega) fun c H2 c0 c1 o2 b2 => ?_
  walk_at "1"
  refine ⟨⟨by omega, by omega, by omega⟩, take_of b2 (by omega) (by decide) (by decide) fun d H3 d0 d1 o3 b3 => ?_⟩
  walk_at "1"
  refine ⟨⟨by omega, by omega, by omega⟩, take_of b3 (by omega) (by omega) (by omega) fun e H4 e0 e1 o4 b4 => ?_⟩
  walk_at "1"
  refine ⟨by decide, fun A hA => ?_⟩
  have d1' : d < 1000000 := by
    have t : (10 : Int) ^ Int.toNat 6 = 1000000 := by decide
    rw [t] at d1
    exact d1
  obtain ⟨p, hp, p0⟩ := kind_at a0 a1 c0 c1 d0 d1' e0 e1 h0 h1
  refine uIx_lst upd_same hp ?_
  exact q p _ p0 (((o1.trans o2).trans (o3.trans o4)).trans (Same.off (same_new hA))) (Bx.upd (b4.mono (by omega)) (b4.ne hA))
theorem rows_s1 {b l : Addr} {x1 x2 x4 x5 x7 : Option V} {M bars p : Int} {xs : List V} {D : Ends} {H : Hp} (hb : Bx H b M) (hM : M ≤ 100000000) (h0 : 0 ≤ bars) (h1 : bars ≤ 9) (hl : H l = some (.lst xs)) (hx : xs.length ≤ 100000) (hlb : l ≠ b)
    (q : ∀ v H', v = .non ∨ v = .int p → Off b H H' → Bx H' b (M + 1) → D.nx [some (.ref b), x1, x2, some (.int bars), x4, x5, some (.ref l), x7, some (.int p)] (upd H' l (.lst (xs ++ [v])))) :
    (tDrop (tBM K "list" rAppend (tVar 6) (tCons (tIf (tAnd (tTest (tOp uGt (tVar 3) (tC (.int 0)))) (tTest (tOp (uEq K) (tFn (sp__law_take K) E (tCons (tVar 0) (tCons (tVar 3) tNil))) (tC (.int 0))))) (tC .non) (tVar 8)) tNil))) D [some (.ref b), x1, x2, some (.int bars), x4, x5, some (.ref l), x7, some (.int p)] H := by
  walk_at "1"
  refine ⟨tyL hl, ?_⟩
  by_cases z : 0 < bars
  · rw [if_pos z]
    refine take_of hb (by omega) z (by omega) fun d H1 d0 d1 o1 b1 => ?_
    walk_at "1"
    have hl1 := o1.lst hl hlb
    by_cases e : d = 0
    · rw [if_pos e]
      exact app_of hl1 hx (q _ _ (.inl rfl) o1 b1)
    · rw [if_neg e]
      exact app_of hl1 hx (q _ _ (.inr rfl) o1 b1)
  · rw [if_neg z]
    rw [if_neg (by decide)]
    exact app_of hl hx (q _ _ (.inr rfl) Off.refl (hb.mono (by omega)))
include F in
theorem read__law_rows (h : sp__law_rows K vs H Q E) : t__law_rows K E { nx := fun _ H' => Q .non H', rt := Q } (start ["_law_bag_here", "_law_most", "_law_kind", "_law_bars", "_law_found", "_law_crate", "_law_line", "_law_way", "_law_price_here"] vs) H := by
  match vs, h with
  | [_, _], ⟨b, m, n, rfl, rfl, hn1, hn, hb, hm, q⟩ =>
    unfold t__law_rows
    walk_at "s"
    simp only [tPar]
    walk_at "1"
    refine take_of hb (by omega) (by omega) (by omega) fun kd H1 k0 k1 o1 b1 => ?_
    walk_at "1"
    refine ⟨by decide, fun A hA => ?_⟩
    have hAb := b1.ne hA
    refine take_of (b1.upd hAb) (by omega) (by omega) (by omega) fun e H2 e0 e1 o2 b2 => ?_
    obtain ⟨bars, hbars, r0, r1⟩ := bars_at e0 e1
    refine uIx_lst (o2.lst upd_same hAb) hbars ?_
    have o2 : Off b H1 H2 := Off.trans (Same.off (same_new hA)) o2
    refine ⟨_, _, rfl, ?_⟩
    walk_at "s"
    walk_at "1"
    refine ⟨by decide, fun L hL => ?_⟩
    have hLb := b2.ne hL
    have o12 := o1.trans o2
    have hL0 : H L = none := Off.free o12 hLb hL
    have oL : Off b H (upd H2 L (.lst [])) := Off.new o12 hL0
    have gL : upd H2 L (.lst []) L = some (.lst []) := upd_same
    have bL := b2.upd (o := .lst []) hLb
    generalize upd H2 L (.lst []) = H3 at *
    walk_at "s"
    refine tFor_rng ?_
    walk_at "1"
    refine take_of bL (by omega) (by omega) (by omega) fun d H4 d0 d1 o4 b4 => ?_
    walk_at "1"
    obtain ⟨nn, en⟩ : ∃ nn : Nat, 1 + d = (nn : Int) := ⟨(1 + d).toNat, by omega⟩
    refine ⟨_, rfl, by omega, by omega, ?_⟩
    rw [en, Int.toNat_natCast]
    have hLx := o4.lst gL hLb
    have o4 : Off b H H4 := oL.trans o4
    refine laps_of (plain_R (lo := 0) (n := nn)) (fun i τ H' => ∃ as rows o5 o6 o7 o8, τ = [some (.ref b), some (.int n), some (.int kd), some (.int bars), some (.ref L), o5, o6, o7, o8] ∧ PI H' L b as rows ∧ rows.length = i ∧ Bx H' b (m + 3 + 30 * i) ∧ Off b H H')
      ⟨[], [], none, none, none, none, rfl, ⟨hLx, hLb, rfl, (fun r m => nomatch m), fun j a r z => nomatch z⟩, rfl, b4.mono (by omega), o4⟩ (fun _ _ _ _ => trivial) ?_ ?_
    · rintro i x τ H5 hx ⟨as, rows, o5, o6, o7, o8, rfl, hp, hr, hb5, ho5⟩
      have hi : i < nn := by have := (List.getElem?_eq_some_iff.mp hx).1; simpa [intsL] using this
      simp only [gName, List.set_cons_zero, List.set_cons_succ]
      walk_at "s"
      walk_at "1"
      refine ⟨by decide, fun l hl => ?_⟩
      obtain ⟨hlL, hla⟩ := hp.fresh hl
      have hlb := hb5.ne hl
      walk_at "s"
      refine for_rng1 (n := 6) (fun R r => by
        walk_at "1"
        exact r) (by omega) (fun j σ H' => ∃ r o7 o8, σ = [some (.ref b), some (.int n), some (.int kd), some (.int bars), some (.ref L), some x, some (.ref l), o7, o8] ∧ H' l = some (.lst (r.map pV)) ∧ r.length = j ∧ r.all lowP = true ∧ PI H' L b as rows ∧ Bx H' b (m + 3 + 30 * i + 5 * j) ∧ Off b H H')
        ⟨[], o7, o8, rfl, upd_same, rfl, rfl, hp.put hlL hla, (hb5.upd hlb).mono (by omega), ho5.trans (Same.off (same_new hl))⟩ ?_ ?_
      · rintro j σ H6 hj ⟨r, p7, p8, rfl, g1, g2, g3, g4, g5, g6⟩
        simp only [gName, List.set_cons_zero, List.set_cons_succ]
        walk_at "s"
        refine rows_s0 g5 (by omega) k0 k1 fun p H7 p0 o7 b7 => ?_
        refine rows_s1 b7 (by omega) r0 r1 (o7.lst g1 hlb) (by rw [List.length_map, g2]; omega) hlb fun v H8 hv o8 b8 => ?_
        have o68 := o7.trans o8
        have hv2 : ∃ w, v = pV w ∧ lowP w = true := by
          rcases hv with rfl | rfl
          · exact ⟨none, rfl, rfl⟩
          · exact ⟨some p, rfl, decide_eq_true p0⟩
        obtain ⟨w, rfl, hw⟩ := hv2
        refine ⟨r ++ [w], _, _, rfl, by rw [upd_same]; simp, by simp [g2], by simp [g3, hw], (g4.off o68).put hlL hla, Bx.upd (b8.mono (by omega)) hlb, Off.new (g6.trans o68) ?_⟩
        exact Off.free ho5 hlb hl
      · rintro σ H6 ⟨r, p7, p8, rfl, g1, g2, g3, g4, g5, g6⟩
        walk_at "1"
        refine ⟨tyL g4.1, app_of g4.1 (by rw [List.length_map, g4.2.2.1]; omega) ?_⟩
        exact ⟨as ++ [l], rows ++ [r], _, _, _, _, rfl, g4.push g1 hlL hlb g2 g3, by simp [hr], Bx.upd (g5.mono (by omega)) hLb, Off.new g6 hL0⟩
    · rintro τ H5 ⟨as, rows, o5, o6, o7, o8, rfl, hp, hr, hb5, ho5⟩
      have e : (intsL 0 nn).length = nn := by simp [intsL]
      rw [e] at hr hb5
      walk_at "1"
      exact q rows _ _ (by omega) ⟨by omega, by omega, fun r m => ⟨(hp.2.2.2.1 r m).1, lowL_ok (hp.2.2.2.1 r m).2⟩⟩ hp.rowV ho5 (hb5.mono (by omega)) (fun r m => (hp.2.2.2.1 r m).2) ⟨L, as, rfl, hp⟩
end
end U
namespace U
open PySem PySem.Spec PyProof.Rows L2

/-! ### a law's own levels -/
theorem colN_way {i j : Nat} (hi : i < 3) (hj : j < 3) (n : i ≠ j) : colN i j = wayI i j := by
  rcases (show i = 0 ∧ j = 1 ∨ i = 0 ∧ j = 2 ∨ i = 1 ∧ j = 0 ∨ i = 1 ∧ j = 2 ∨ i = 2 ∧ j = 0 ∨ i = 2 ∧ j = 1 by omega) with ⟨rfl, rfl⟩ | ⟨rfl, rfl⟩ | ⟨rfl, rfl⟩ | ⟨rfl, rfl⟩ | ⟨rfl, rfl⟩ | ⟨rfl, rfl⟩ <;> rfl
def sp__law_price (K : PySem.W.Frag) : Sp := sp3 fun x y z H Q _ => ∃ a r d p, x = .ref a ∧ SqL K H a (r.map pV) ∧ r.length = 6 ∧ y = .str (pl d) ∧ z = .str (pl p) ∧ d < 3 ∧ p < 3 ∧ d ≠ p ∧ ∀ H', Same H H' → Q (pV (prF r d p)) H'
def sp__law_sum (K : PySem.W.Frag) : Sp := sp1 fun x H Q _ => ∃ (a : Addr) (os : List (Option Int)), x = .ref a ∧ SqL K H a (os.map pV) ∧ Q (pV (osum os)) H
def sp__law_lesser (_K : PySem.W.Frag) : Sp := sp2 fun x y H Q _ => ∃ o p : Option Int, x = pV o ∧ y = pV p ∧ ∀ H', Same H H' → Q (pV (omin o p)) H'
def sp__law_other (_K : PySem.W.Frag) : Sp := sp2 fun x y H Q _ => ∃ i j : Nat, x = .str (pl i) ∧ y = .str (pl j) ∧ i < 3 ∧ j < 3 ∧ i ≠ j ∧ ∀ H', Same H H' → Q (.str (pl (3 - i - j))) H'
def sp__law_above (_K : PySem.W.Frag) : Sp := sp2 fun x y H Q _ => ∃ o p : Option Int, x = pV o ∧ y = pV p ∧ Q (.bl (aboveO o p)) H
def t__law_price (K : PySem.W.Frag) (E : XK) : TS := (tRet (tOp (uIx K) (tVar 0) (tBM K "list" (rIndex K) (tLst (tCons (tC (.str "ab")) (tCons (tC (.str "ac")) (tCons (tC (.str "ba")) (tCons (tC (.str "bc")) (tCons (tC (.str "ca")) (tCons (tC (.str "cb")) tNil))))))) (tCons (tOp uAdd (tVar 1) (tVar 2)) tNil))))
def t__law_sum (K : PySem.W.Frag) (E : XK) : TS := (tRet (tIf (tTest (tOp (uIn K false) (tC .non) (tVar 0))) (tC .non) (tCB (rSum K) (tCons (tVar 0) tNil))))
def t__law_lesser (K : PySem.W.Frag) (E : XK) : TS := (tSeq (tAsg (tLc (iSeq K (tTup (tCons (tVar 0) (tCons (tVar 1) tNil)))) (gName 3) (tTest (tOp uNis (tVar 3) (tC .non))) (tVar 3) [3]) (gName 2)) (tRet (tIf (tTest (tOp (uNe K) (tVar 2) (tLst tNil))) (tCB (rMin K) (tCons (tVar 2) tNil)) (tC .non))))
def t__law_other (K : PySem.W.Frag) (E : XK) : TS := (tRet (tOp (uIx K) (tLc (iStr (tC (.str "abc"))) (gName 2) (tTest (tOp (uIn K true) (tVar 2) (tTup (tCons (tVar 0) (tCons (tVar 1) tNil))))) (tVar 2) [2]) (tC (.int 0))))
def t__law_above (K : PySem.W.Frag) (E : XK) : TS := (tSeq (tIfS (tOr (tTest (tOp uIs (tVar 0) (tC .non))) (tTest (tOp uIs (tVar 1) (tC .non)))) (tRet (tAndV (tOp uIs (tVar 0) (tC .non)) (tOp uNis (tVar 1) (tC .non)))) tNext) (tRet (tOp uGt (tVar 0) (tVar 1))))
theorem osum_some : ∀ ns : List Int, osum (ns.map some) = some ns.sum
  | [] => rfl
  | n :: r => by rw [List.map_cons, List.sum_cons]; show (osum (r.map some)).map (n + ·) = _; rw [osum_some r]; rfl
theorem osum_none : ∀ {os : List (Option Int)}, none ∈ os → osum os = none
  | none :: _, _ => rfl
  | some a :: r, h => by
    rcases List.mem_cons.mp h with h | h
    · cases h
    · show (osum r).map (a + ·) = none
      rw [osum_none h]; rfl
theorem os_cases (os : List (Option Int)) : none ∈ os ∨ ∃ ns : List Int, os = ns.map some := by
  induction os with
  | nil => exact .inr ⟨[], rfl⟩
  | cons o r ih =>
    cases o with
    | none => exact .inl List.mem_cons_self
    | some a =>
      rcases ih with h | ⟨ns, h⟩
      · exact .inl (List.mem_cons_of_mem _ h)
      · exact .inr ⟨a :: ns, by rw [h]; rfl⟩
theorem in_none {os : List (Option Int)} : inV .non (os.map pV) = os.any (·.isNone) := by
  show (os.map pV).any (fun y => eqV y .non) = _
  rw [List.any_map]
  congr 1
  funext o
  cases o <;> rfl
theorem flat_pV {os : List (Option Int)} : (os.map pV).all flatV = true := List.all_eq_true.mpr fun v m => by
  obtain ⟨o, _, rfl⟩ := List.mem_map.mp m
  cases o <;> rfl
theorem tLc_tup {K : PySem.W.Frag} {H : Hp} {Q : VK} {t : TE} {σ : L2.St} {g : TG} {tt : TT} {te : TE} {vs : List Nat} {xs : List V} (ht : ∀ R : VK, (∀ p, H p = none → R (.ref p) (upd H p (.tup xs))) → t σ H R)
    (hc : ∀ p H1, Same H H1 → H p = none → H1 p = some (.tup xs) → ∀ D, H1 D = none → LcB (Itt K p) g tt te vs σ H1 D (Q (.ref D))) : tLc (iSeq K t) g tt te vs σ H Q :=
  .inr (ht _ fun p np => ⟨p, rfl, ⟨xs, .inl (.inl upd_same)⟩, fun D => hc p _ (same_new np) np upd_same D⟩)
section
variable {K : PySem.W.Frag} (F : KF K) {vs : List V} {H : Hp} {Q : VK} {E : XK}
local macro_rules | `(tactic| walk_at "w") => `(tactic| try simp only [turnE, lcT, Snoc, tRet, tRetN, tAndV, tOrV, tNotV, tCB, tCons, tVar, tNil, tC, tOp, tSeq, tAsg, gName, gSub, tIfS, tDrop, tFn, tTup, tLst, tNext, tB, tTest, tNot, tAnd, tOr, tIf, tChain, tUn, rU, tFld, tPart, tNoPart, L2.tSl, tBM, tPar, tPar3, tTruth, tDNewK,
  L2.start, List.map_cons, List.map_nil, List.length_cons, List.length_nil, List.replicate_succ, List.replicate_zero, List.append_nil, List.nil_append, List.cons_append, List.singleton_append, Nat.sub_self, Nat.zero_add, Nat.reduceAdd, Nat.reduceSub,
  List.getElem?_cons_zero, List.getElem?_cons_succ, List.set_cons_zero, List.set_cons_succ, Option.some.injEq, exists_eq_left, exists_eq_left', V.int.injEq, V.bl.injEq, V.str.injEq, V.ref.injEq,
  uAdd_int, uAdd_str, uSub_int, uMul_int, uMul_str, uDiv_int, uMod_int, uPow_int, uLt_int, uLe_int, uGt_int, uGe_int, uIs_non, uNis_non, uIs_bl, uNis_bl, sp1, sp2, sp3, sp4, uEq_int, uEq_str, uNe_int, uNe_str, uSl_str, uLen_str, decide_eq_true_eq])
local macro_rules | `(tactic| walk_at "1") => `(tactic| try simp only [turnE, lcT, Snoc, tRet, tRetN, tAndV, tOrV, tNotV, tCB, tCons, tVar, tNil, tC, tOp, tAsg, gName, gSub, tIfS, tDrop, tFn, tTup, tLst, tNext, tB, tTest, tNot, tAnd, tOr, tIf, tChain, tUn, rU, tFld, tPart, tNoPart, L2.tSl, tBM, tPar, tPar3, tTruth, tDNewK,
  L2.start, List.map_cons, List.map_nil, List.length_cons, List.length_nil, List.replicate_succ, List.replicate_zero, List.append_nil, List.nil_append, List.cons_append, List.singleton_append, Nat.sub_self, Nat.zero_add, Nat.reduceAdd, Nat.reduceSub,
  List.getElem?_cons_zero, List.getElem?_cons_succ, List.set_cons_zero, List.set_cons_succ, Option.some.injEq, exists_eq_left, exists_eq_left', V.int.injEq, V.bl.injEq, V.str.injEq, V.ref.injEq,
  uAdd_int, uAdd_str, uSub_int, uMul_int, uMul_str, uDiv_int, uMod_int, uPow_int, uLt_int, uLe_int, uGt_int, uGe_int, uIs_non, uNis_non, uIs_bl, uNis_bl, sp1, sp2, sp3, sp4, uEq_int, uEq_str, uNe_int, uNe_str, uSl_str, uLen_str, decide_eq_true_eq])
local macro_rules | `(tactic| walk_at "s") => `(tactic| ((try dsimp only [turnE]); with_reducible refine seq_ ?_))

theorem idx_way {a : Addr} {x y : Nat} (hx : x < 3) (hy : y < 3) (ne : x ≠ y) (hs : SqL K H a (waysN.map fun w => V.str (wd [w.1, w.2]))) (q : Q (.int (wayI x y : Nat)) H) : tyV K "list" (.ref a) H ∧ rIndex K (.ref a) [.str (wd [x, y])] H Q := by
  refine ⟨.inl ⟨rfl, _, hs⟩, a, _, _, wayI x y, .str (wd [x, y]), rfl, rfl, hs, rfl, by decide, ?_, ?_, ?_, q⟩
  all_goals
    have ex : x = 0 ∨ x = 1 ∨ x = 2 := by omega
    have ey : y = 0 ∨ y = 1 ∨ y = 2 := by omega
    rcases ex with rfl | rfl | rfl <;> rcases ey with rfl | rfl | rfl <;> first | exact absurd rfl ne | rfl | skip
  all_goals
    rintro m z' hm hz
    match m, hm, hz with
    | 0, hm, hz => first | exact absurd hm (by decide) | (cases hz; decide +kernel)
    | 1, hm, hz => first | exact absurd hm (by decide) | (cases hz; decide +kernel)
    | 2, hm, hz => first | exact absurd hm (by decide) | (cases hz; decide +kernel)
    | 3, hm, hz => first | exact absurd hm (by decide) | (cases hz; decide +kernel)
    | 4, hm, hz => first | exact absurd hm (by decide) | (cases hz; decide +kernel)
    | k + 5, hm, _ => exact absurd hm (by simp [wayI])
theorem read__law_price (h : sp__law_price K vs H Q E) : t__law_price K E { nx := fun _ H' => Q .non H', rt := Q } (start ["_law_line", "_law_first", "_law_last"] vs) H := by
  match vs, h with
  | [_, _, _], ⟨a, r, d, p, rfl, ha, h6, rfl, rfl, hd, hp, n, q⟩ =>
    unfold t__law_price
    walk_at "1"
    refine ⟨by decide, fun W nW => ?_⟩
    rw [ways6V]
    have s1 : Same H (upd H W (.lst (waysN.map fun w => V.str (wd [w.1, w.2])))) := same_new nW
    have g1 : upd H W (.lst (waysN.map fun w => V.str (wd [w.1, w.2]))) W = some (.lst (waysN.map fun w => V.str (wd [w.1, w.2]))) := upd_same
    generalize upd H W (.lst (waysN.map fun w => V.str (wd [w.1, w.2]))) = H1 at *
    obtain ⟨i1, i2⟩ := idx_way (K := K) (H := H1) (Q := fun v H2 => uIx K (.ref a) v H2 Q) hd hp n (.inl (.inl g1)) (by
      have lt := wayI_lt hd hp n
      refine ⟨_, pV (prF r d p), .inl (Same.seq s1 ha), ?_, q _ s1⟩
      rw [← colN_way hd hp n] at *
      exact at_nat (by unfold prF; rw [List.getElem?_map, List.getElem?_eq_getElem (by omega)]; rfl))
    refine ⟨i1, ⟨by show 1 + 1 ≤ sizeLine; decide, i2⟩⟩
theorem read__law_sum (h : sp__law_sum K vs H Q E) : t__law_sum K E { nx := fun _ H' => Q .non H', rt := Q } (start ["_law_numbers"] vs) H := by
  match vs, h with
  | [_], ⟨a, os, rfl, ha, q⟩ =>
    unfold t__law_sum
    walk_at "1"
    refine ⟨a, _, rfl, .inl ha, rfl, flat_pV, ?_⟩
    rw [in_none]
    rcases os_cases os with h | ⟨ns, rfl⟩
    · rw [osum_none h] at q
      have e : os.any (·.isNone) = true := List.any_eq_true.mpr ⟨none, h, rfl⟩
      rw [e]
      refine ⟨_, rfl, ?_⟩
      simp only [if_true, Bool.false_eq_true, if_false]
      exact q
    · rw [osum_some] at q
      have e : (ns.map some).any (·.isNone) = false := by
        rw [List.any_map]
        exact List.any_eq_false.mpr fun x _ => by simp
      rw [e]
      refine ⟨_, rfl, ?_⟩
      simp only [if_true, Bool.false_eq_true, if_false]
      walk_at "1"
      refine ⟨a, ns, rfl, ?_, q⟩
      rw [List.map_map] at ha
      exact ha
theorem read__law_above (h : sp__law_above K vs H Q E) : t__law_above K E { nx := fun _ H' => Q .non H', rt := Q } (start ["_law_one", "_law_two"] vs) H := by
  match vs, h with
  | [_, _], ⟨o, p, rfl, rfl, q⟩ =>
    unfold t__law_above
    cases o with
    | none =>
      cases p with
      | none => walk_at "w"; exact q
      | some b => walk_at "w"; exact q
    | some a =>
      cases p with
      | none => walk_at "w"; exact q
      | some b => walk_at "w"; exact q
theorem read__law_lesser (h : sp__law_lesser K vs H Q E) : t__law_lesser K E { nx := fun _ H' => Q .non H', rt := Q } (start ["_law_one", "_law_two", "_law_known", "_law_number"] vs) H := by
  match vs, h with
  | [_, _], ⟨o, p, rfl, rfl, q⟩ =>
    unfold t__law_lesser
    walk_at "s"
    simp only [tAsg]
    refine tLc_tup (xs := [o, p].map pV) (fun R r => ?_) fun T H1 s1 nT gT C nC => ?_
    · walk_at "1"
      exact ⟨by decide, fun T nT => r T nT⟩
    refine lc_plain (plain_T (K := K) (a := T) (xs := [o, p].map pV)) (fun i H' => Same H1 H' ∧ H' C = some (.lst ((([o, p].take i).filterMap id).map V.int))) ⟨same_new nC, upd_same⟩ (fun i H' z => .inl (.inl (z.1 _ _ gT))) ?_ ?_
    · rintro i x H2 hx ⟨s2, gC⟩
      rw [List.getElem?_map] at hx
      obtain ⟨r, hr, rfl⟩ := Option.map_eq_some_iff.mp hx
      have tk : [o, p].take (i + 1) = [o, p].take i ++ [r] := by rw [List.take_succ, hr]; rfl
      have few : (([o, p].take i).filterMap id).length ≤ 2 := Nat.le_trans (List.length_filterMap_le _ _) (by rw [List.length_take]; exact Nat.min_le_right _ _)
      rw [tk, List.filterMap_append]
      simp only [lcT, gName, wipe, List.set_cons_zero, List.set_cons_succ]
      refine ⟨rfl, ?_⟩
      walk_at "1"
      cases r with
      | none =>
        rw [if_neg (by decide)]
        simpa using ⟨s2, gC⟩
      | some a =>
        rw [if_pos (by rfl)]
        refine ⟨_, gC, ?_, (Off.trans (Same.off s2) off_upd).same nC, ?_⟩
        · rw [List.length_map]
          exact Nat.lt_of_le_of_lt few (by decide)
        · rw [upd_same]
          simp
          rfl
    · rintro H2 ⟨s2, gC⟩
      have gC : H2 C = some (.lst (([o, p].filterMap id).map V.int)) := gC
      walk_at "1"
      refine ⟨by decide, fun Z nZ => ?_⟩
      have s3 : Same H2 (upd H2 Z (.lst [])) := same_new nZ
      have gZ : upd H2 Z (.lst []) Z = some (.lst (([] : List Int).map V.int)) := upd_same
      generalize upd H2 Z (.lst []) = H3 at *
      have gC3 := s3 _ _ gC
      have s13 := s1.trans (s2.trans s3)
      refine ne_ints (.inl (.inl gC3)) (.inl (.inl gZ)) ?_
      cases o with
      | none =>
        cases p with
        | none => exact ⟨_, rfl, q _ s13⟩
        | some b =>
          refine ⟨_, rfl, ?_⟩
          rw [if_pos (by rfl)]
          walk_at "1"
          refine ⟨C, [b], rfl, .inl (.inl gC3), Nat.zero_lt_succ _, fun m hm _ => ?_⟩
          rw [List.mem_singleton.mp hm]
          exact q _ s13
      | some a =>
        cases p with
        | none =>
          refine ⟨_, rfl, ?_⟩
          rw [if_pos (by rfl)]
          walk_at "1"
          refine ⟨C, [a], rfl, .inl (.inl gC3), Nat.zero_lt_succ _, fun m hm _ => ?_⟩
          rw [List.mem_singleton.mp hm]
          exact q _ s13
        | some b =>
          refine ⟨_, rfl, ?_⟩
          rw [if_pos (by rfl)]
          walk_at "1"
          refine ⟨C, [a, b], rfl, .inl (.inl gC3), Nat.zero_lt_succ _, fun m hm le => ?_⟩
          have l1 := le a List.mem_cons_self
          have l2 := le b (List.mem_cons_of_mem _ List.mem_cons_self)
          have e : m = min a b := by
            (simp only [List.mem_cons, List.not_mem_nil, or_false] at hm)
            omega
          rw [e]
          exact q _ s13
theorem read__law_other (h : sp__law_other K vs H Q E) : t__law_other K E { nx := fun _ H' => Q .non H', rt := Q } (start ["_law_first", "_law_last", "_law_place"] vs) H := by
  match vs, h with
  | [_, _], ⟨i, j, rfl, rfl, hi, hj, n, q⟩ =>
    unfold t__law_other
    walk_at "1"
    refine tLc_str (z := "abc") (fun Q => rfl) fun C nC => ?_
    refine lc_plain plain_S (fun k H' => Same H H' ∧ H' C = some (.lst ((([0, 1, 2].take k).filter fun p => !decide (p ∈ [i, j])).map fun p => V.str (pl p)))) ⟨same_new nC, upd_same⟩ (fun _ _ _ => trivial) ?_ ?_
    · rintro k x H2 hx ⟨s2, gC⟩
      rw [show strL "abc" = [0, 1, 2].map (fun d => V.str (pl d)) from rfl, List.getElem?_map] at hx
      obtain ⟨p, hp, rfl⟩ := Option.map_eq_some_iff.mp hx
      have tk : [0, 1, 2].take (k + 1) = [0, 1, 2].take k ++ [p] := by rw [List.take_succ, hp]; rfl
      have p3 : p < 3 := by
        match k, hp with
        | 0, hp => cases hp; decide
        | 1, hp => cases hp; decide
        | 2, hp => cases hp; decide
        | k + 3, hp => cases hp
      simp only [lcT, gName, wipe, List.set_cons_zero, List.set_cons_succ]
      refine ⟨trivial, ?_⟩
      walk_at "1"
      refine ⟨by decide, fun T nT => ?_⟩
      have s3 : Same H2 (upd H2 T (.tup [.str (pl i), .str (pl j)])) := same_new nT
      have gT : upd H2 T (.tup [.str (pl i), .str (pl j)]) T = some (.tup [.str (pl i), .str (pl j)]) := upd_same
      generalize upd H2 T (.tup [.str (pl i), .str (pl j)]) = H3 at *
      have inn : inV (.str (pl p)) [.str (pl i), .str (pl j)] = decide (p ∈ [i, j]) := by
        obtain rfl | rfl | rfl : p = 0 ∨ p = 1 ∨ p = 2 := by omega
        all_goals
          obtain rfl | rfl | rfl : i = 0 ∨ i = 1 ∨ i = 2 := by omega
          all_goals
            obtain rfl | rfl | rfl : j = 0 ∨ j = 1 ∨ j = 2 := by omega
            all_goals rfl
      refine ⟨T, _, rfl, .inr (.inl (.inl gT)), rfl, rfl, ?_⟩
      rw [inn]
      refine ⟨_, rfl, ?_⟩
      have gC3 := s3 _ _ gC
      by_cases e : p ∈ [i, j]
      · rw [if_neg (by simp only [decide_eq_true e]; decide)]
        refine ⟨s2.trans s3, ?_⟩
        rw [tk, List.filter_append, List.filter_cons, decide_eq_true e]
        simpa using gC3
      · rw [if_pos (by simp only [decide_eq_false e]; decide)]
        refine ⟨_, gC3, ?_, (Off.trans (Same.off (s2.trans s3)) off_upd).same nC, ?_⟩
        · rw [List.length_map]
          refine Nat.lt_of_le_of_lt (Nat.le_trans (List.length_filter_le _ _) (List.length_take_le _ _)) ?_
          have : k < 3 := by
            match k, hp with
            | 0, _ => decide
            | 1, _ => decide
            | 2, _ => decide
            | k + 3, hp => cases hp
          exact Nat.lt_of_lt_of_le this (by decide)
        · rw [upd_same, tk, List.filter_append, List.filter_cons, decide_eq_false e]
          simp
    · rintro H2 ⟨s2, gC⟩
      have e3 : ([0, 1, 2].filter fun p => !decide (p ∈ [i, j])) = [3 - i - j] := by
        rcases (show i = 0 ∧ j = 1 ∨ i = 0 ∧ j = 2 ∨ i = 1 ∧ j = 0 ∨ i = 1 ∧ j = 2 ∨ i = 2 ∧ j = 0 ∨ i = 2 ∧ j = 1 by omega) with ⟨rfl, rfl⟩ | ⟨rfl, rfl⟩ | ⟨rfl, rfl⟩ | ⟨rfl, rfl⟩ | ⟨rfl, rfl⟩ | ⟨rfl, rfl⟩ <;> rfl
      rw [show (strL "abc").length = 3 by decide, show [0, 1, 2].take 3 = [0, 1, 2] by rfl, e3] at gC
      exact ⟨_, _, .inl (.inl (.inl gC)), rfl, q H2 s2⟩
end
end U
namespace U
open PySem PySem.Spec PyProof.Rows L2

/-- a dict with these costs for the ways -/
def TbD (H : Hp) (d : Addr) (f : Nat → Nat → Option Int) : Prop := ∃ kvs, H d = some (.dK kvs) ∧ ∀ i j, i < 3 → j < 3 → i ≠ j → valV kvs (.inr (wd [i, j])) = some (pV (f i j))
theorem TbD.same {H H' : Hp} {d : Addr} {f : Nat → Nat → Option Int} (h : TbD H d f) (e : Same H H') : TbD H' d f := by
  obtain ⟨kvs, h1, h2⟩ := h
  exact ⟨kvs, e _ _ h1, h2⟩
theorem tb_way {H : Hp} {d : Addr} {f : Nat → Nat → Option Int} (h : H d = some (.dK (wayD f))) : TbD H d f := ⟨_, h, fun i j hi hj n => val_wayD f hi hj n⟩
theorem tb_lev {K : PySem.W.Frag} {H : Hp} {d : Addr} {ks : List (Key × V)} (h : DcV K H d ks) (l : levB ks = true) : TbD H d (lvlK ks) := ⟨_, h.1, fun i j hi hj n => (gotV_ok l hi hj n).2.1⟩
theorem TbD.get {H : Hp} {d : Addr} {f : Nat → Nat → Option Int} (h : TbD H d f) {i j : Nat} (hi : i < 3) (hj : j < 3) (n : i ≠ j) : DGet H d (.str (wd [i, j])) (some (pV (f i j))) := by
  obtain ⟨kvs, h1, h2⟩ := h
  exact h2 i j hi hj n ▸ DGet.k (k := .inr (wd [i, j])) h1
def sp__law_level (K : PySem.W.Frag) : Sp := sp2 fun x y H Q _ => ∃ a d r f, x = .ref a ∧ SqL K H a (r.map pV) ∧ r.length = 6 ∧ y = .ref d ∧ TbD H d f ∧ ∀ l H', Same H H' → H l = none → H' l = some (.dK (wayD (stepO (prF r) f))) → Q (.ref l) H'
def t__law_level (K : PySem.W.Frag) (E : XK) : TS := (tSeq (tAsg tDNewK (gName 2)) (tSeq (tFor (iSeq K (tLst (tCons (tC (.str "ab")) (tCons (tC (.str "ac")) (tCons (tC (.str "ba")) (tCons (tC (.str "bc")) (tCons (tC (.str "ca")) (tCons (tC (.str "cb")) tNil)))))))) (gName 3) (tSeq (tPar 4 5 (tCons (tOp (uIx K) (tVar 3) (tC (.int 0))) (tCons (tOp (uIx K) (tVar 3) (tC (.int 1))) tNil))) (tSeq (tAsg (tFn (sp__law_other K) E (tCons (tVar 4) (tCons (tVar 5) tNil))) (gName 6)) (tSeq (tAsg (tFn (sp__law_sum K) E (tCons (tLst (tCons (tDGet (tVar 1) (tOp uAdd (tVar 4) (tVar 6))) (tCons (tFn (sp__law_price K) E (tCons (tVar 0) (tCons (tVar 4) (tCons (tVar 5) tNil)))) (tCons (tDGet (tVar 1) (tOp uAdd (tVar 6) (tVar 5))) tNil)))) tNil)) (gName 7)) (tSeq (tAsg (tLst (tCons (tDGet (tVar 1) (tVar 3)) (tCons (tFn (sp__law_price K) E (tCons (tVar 0) (tCons (tVar 4) (tCons (tVar 6) tNil)))) (tCons (tDGet (tVar 1) (tOp uAdd (tVar 5) (tVar 4))) (tCons (tFn (sp__law_price K) E (tCons (tVar 0) (tCons (tVar 6) (tCons (tVar 5) tNil)))) tNil))))) (gName 8)) (tAsg (tFn (sp__law_lesser K) E (tCons (tVar 7) (tCons (tFn (sp__law_sum K) E (tCons (tOp uAdd (tVar 8) (tLst (tCons (tDGet (tVar 1) (tVar 3)) tNil))) tNil)) tNil))) (gSub (tVar 2) (tVar 3) rSetD))))))) (tRet (tVar 2))))
def wayK (g : Nat → Nat → Option Int) (k : Nat) : List (Key × V) := (waysN.take k).map fun w => (.inr (wd [w.1, w.2]), pV (g w.1 w.2))
theorem wayK_put {g : Nat → Nat → Option Int} {k : Nat} {w : Nat × Nat} (h : waysN[k]? = some w) : putK (wayK g k) (.inr (wd [w.1, w.2])) (pV (g w.1 w.2)) = wayK g (k + 1) := by
  match k, h with
  | 0, h => cases h; rfl
  | 1, h => cases h; rfl
  | 2, h => cases h; rfl
  | 3, h => cases h; rfl
  | 4, h => cases h; rfl
  | 5, h => cases h; rfl
  | n + 6, h => cases h
theorem way_ok {k : Nat} {w : Nat × Nat} (h : waysN[k]? = some w) : w.1 < 3 ∧ w.2 < 3 ∧ w.1 ≠ w.2 ∧ k < 6 := by
  match k, h with
  | 0, h => cases h; decide
  | 1, h => cases h; decide
  | 2, h => cases h; decide
  | 3, h => cases h; decide
  | 4, h => cases h; decide
  | 5, h => cases h; decide
  | n + 6, h => cases h
section
variable {K : PySem.W.Frag} (F : KF K) {vs : List V} {H : Hp} {Q : VK} {E : XK}
local macro_rules | `(tactic| walk_at "w") => `(tactic| try simp only [turnE, lcT, Snoc, tRet, tRetN, tAndV, tOrV, tNotV, tCB, tCons, tVar, tNil, tC, tOp, tSeq, tAsg, gName, gSub, tIfS, tDrop, tFn, tTup, tLst, tNext, tB, tTest, tNot, tAnd, tOr, tIf, tChain, tUn, rU, tFld, tPart, tNoPart, L2.tSl, tBM, tPar, tPar3, tTruth, tDNewK,
  L2.start, List.map_cons, List.map_nil, List.length_cons, List.length_nil, List.replicate_succ, List.replicate_zero, List.append_nil, List.nil_append, List.cons_append, List.singleton_append, Nat.sub_self, Nat.zero_add, Nat.reduceAdd, Nat.reduceSub,
  List.getElem?_cons_zero, List.getElem?_cons_succ, List.set_cons_zero, List.set_cons_succ, Option.some.injEq, exists_eq_left, exists_eq_left', V.int.injEq, V.bl.injEq, V.str.injEq, V.ref.injEq,
  uAdd_int, uAdd_str, uSub_int, uMul_int, uMul_str, uDiv_int, uMod_int, uPow_int, uLt_int, uLe_int, uGt_int, uGe_int, uIs_non, uNis_non, uIs_bl, uNis_bl, sp1, sp2, sp3, sp4, uEq_int, uEq_str, uNe_int, uNe_str, uSl_str, uLen_str, decide_eq_true_eq])
local macro_rules | `(tactic| walk_at "1") => `(tactic| try simp only [turnE, lcT, Snoc, tRet, tRetN, tAndV, tOrV, tNotV, tCB, tCons, tVar, tNil, tC, tOp, tAsg, gName, gSub, tIfS, tDrop, tFn, tTup, tLst, tNext, tB, tTest, tNot, tAnd, tOr, tIf, tChain, tUn, rU, tFld, tPart, tNoPart, L2.tSl, tBM, tPar, tPar3, tTruth, tDNewK,
  L2.start, List.map_cons, List.map_nil, List.length_cons, List.length_nil, List.replicate_succ, List.replicate_zero, List.append_nil, List.nil_append, List.cons_append, List.singleton_append, Nat.sub_self, Nat.zero_add, Nat.reduceAdd, Nat.reduceSub,
  List.getElem?_cons_zero, List.getElem?_cons_succ, List.set_cons_zero, List.set_cons_succ, Option.some.injEq, exists_eq_left, exists_eq_left', V.int.injEq, V.bl.injEq, V.str.injEq, V.ref.injEq,
  uAdd_int, uAdd_str, uSub_int, uMul_int, uMul_str, uDiv_int, uMod_int, uPow_int, uLt_int, uLe_int, uGt_int, uGe_int, uIs_non, uNis_non, uIs_bl, uNis_bl, sp1, sp2, sp3, sp4, uEq_int, uEq_str, uNe_int, uNe_str, uSl_str, uLen_str, decide_eq_true_eq])
local macro_rules | `(tactic| walk_at "s") => `(tactic| ((try dsimp only [turnE]); with_reducible refine seq_ ?_))

theorem get_way {σ : L2.St} {p q : Nat} {d : Addr} {f : Nat → Nat → Option Int} {i j : Nat} (h1 : σ[1]? = some (some (.ref d))) (hp : σ[p]? = some (some (.str (pl i)))) (hq : σ[q]? = some (some (.str (pl j)))) (hd : TbD H d f) (hi : i < 3) (hj : j < 3) (n : i ≠ j)
    (k : Q (pV (f i j)) H) : tDGet (tVar 1) (tOp uAdd (tVar p) (tVar q)) σ H Q := by
  simp only [tDGet]
  exact ⟨_, h1, _, hp, _, hq, by show 1 + 1 ≤ sizeLine; decide, d, _, rfl, hd.get hi hj n, k⟩
theorem get_key {σ : L2.St} {p : Nat} {d : Addr} {f : Nat → Nat → Option Int} {i j : Nat} (h1 : σ[1]? = some (some (.ref d))) (hp : σ[p]? = some (some (.str (wd [i, j])))) (hd : TbD H d f) (hi : i < 3) (hj : j < 3) (n : i ≠ j)
    (k : Q (pV (f i j)) H) : tDGet (tVar 1) (tVar p) σ H Q := by
  simp only [tDGet]
  exact ⟨_, h1, _, hp, d, _, rfl, hd.get hi hj n, k⟩
theorem read__law_level (h : sp__law_level K vs H Q E) : t__law_level K E { nx := fun _ H' => Q .non H', rt := Q } (start ["_law_line", "_law_table", "_law_found", "_law_way", "_law_first", "_law_last", "_law_other_here", "_law_one", "_law_two"] vs) H := by
  match vs, h with
  | [_, _], ⟨a, d, r, f, rfl, ha, h6, rfl, hd, q⟩ =>
    unfold t__law_level
    walk_at "s"
    simp only [tAsg, tDNewK]
    walk_at "1"
    refine fun l nl => ?_
    have s1 : Same H (upd H l (.dK [])) := same_new nl
    have gl : upd H l (.dK []) l = some (.dK (wayK (stepO (prF r) f) 0)) := upd_same
    generalize upd H l (.dK []) = H1 at *
    walk_at "s"
    refine tFor_seqL ?_
    walk_at "1"
    refine ⟨by decide, fun W nW => ?_⟩
    rw [ways6V]
    have s2 : Same H1 (upd H1 W (.lst (waysN.map fun w => V.str (wd [w.1, w.2])))) := same_new nW
    have gW : upd H1 W (.lst (waysN.map fun w => V.str (wd [w.1, w.2]))) W = some (.lst (waysN.map fun w => V.str (wd [w.1, w.2]))) := upd_same
    refine (show _ ∧ tFor _ _ _ _ _ (upd H1 W (.lst (waysN.map fun w => V.str (wd [w.1, w.2])))) from ?_)
    generalize upd H1 W (.lst (waysN.map fun w => V.str (wd [w.1, w.2]))) = H2 at *
    have gl2 := s2 _ _ gl
    have s02 := s1.trans s2
    have dl : d ≠ l := by
      rintro rfl
      obtain ⟨kvs, hk, _⟩ := hd
      rw [hk] at nl
      cases nl
    have hd2 := hd.same s02
    have ha2 : SqL K H2 a (r.map pV) := Same.seq s02 ha
    have Wl : W ≠ l := by rintro rfl; rw [gl] at nW; cases nW
    refine ⟨⟨_, .inl (.inl gW)⟩, ?_⟩
    refine laps_of (plain_L (K := K) (a := W) (xs := waysN.map fun w => V.str (wd [w.1, w.2]))) (fun k τ H' => ∃ x3 x4 x5 x6 x7 x8, τ = [some (.ref a), some (.ref d), some (.ref l), x3, x4, x5, x6, x7, x8] ∧ Off l H2 H' ∧ H' l = some (.dK (wayK (stepO (prF r) f) k)))
      ⟨_, _, _, _, _, _, rfl, Off.refl, gl2⟩ (fun i τ H' z => by
        obtain ⟨_, _, _, _, _, _, _, o, _⟩ := z
        exact .inl (.inl (o _ _ Wl gW))) ?_ ?_
    · rintro k x τ H3 hx ⟨x3, x4, x5, x6, x7, x8, rfl, o3, g3⟩
      rw [List.getElem?_map] at hx
      obtain ⟨w, hw, rfl⟩ := Option.map_eq_some_iff.mp hx
      obtain ⟨w1, w2, w3, k6⟩ := way_ok hw
      have put := wayK_put (g := stepO (prF r) f) hw
      obtain ⟨i, j⟩ := w
      dsimp only at *
      have t3 : 3 - i - j < 3 ∧ i ≠ 3 - i - j ∧ 3 - i - j ≠ j := by omega
      simp only [gName, List.set_cons_zero, List.set_cons_succ]
      walk_at "s"
      walk_at "1"
      refine str_one (ds := [i, j]) (k := 0) (by show 2 ≤ 60; decide) rfl ?_
      walk_at "1"
      refine str_one (ds := [i, j]) (k := 1) (by show 2 ≤ 60; decide) rfl ?_
      rw [wd_pl, wd_pl]
      refine ⟨_, _, rfl, ?_⟩
      walk_at "s"
      walk_at "1"
      refine ⟨i, j, rfl, rfl, w1, w2, w3, fun H4 s4 => ?_⟩
      have hd4 : TbD H4 d f := by
        obtain ⟨kvs, hk, hv⟩ := hd2
        exact ⟨kvs, s4 _ _ (o3 _ _ dl hk), hv⟩
      have g4 := s4 _ _ g3
      have o4 := o3.trans (Same.off s4)
      have ha4 : SqL K H4 a (r.map pV) := by
        have al : SqL K H3 a (r.map pV) := Same.seq ((Off.trans (Same.off s02) o3).same nl) ha
        exact Same.seq s4 al
      have sum3 : ∀ {H' : Hp} {Q : VK} {os : List (Option Int)}, os.length ≤ 10 → (∀ H2, Same H' H2 → Q (pV (osum os)) H2) → ∀ p, H' p = none → sp__law_sum K [.ref p] (upd H' p (.lst (os.map pV))) Q E := fun {H' Q os} _ q p np => ⟨p, os, rfl, .inl (.inl upd_same), q _ (same_new np)⟩
      walk_at "s"
      walk_at "1"
      refine get_way rfl rfl rfl hd4 w1 t3.1 t3.2.1 ?_
      refine ⟨a, r, i, j, rfl, ha4, h6, rfl, rfl, w1, w2, w3, fun H5 s5 => ?_⟩
      refine get_way rfl rfl rfl (hd4.same s5) t3.1 w2 t3.2.2 ?_
      refine ⟨by decide, sum3 (os := [f i (3 - i - j), prF r i j, f (3 - i - j) j]) (by show 3 ≤ 10; decide) fun H6 s6 => ?_⟩
      have s46 := s5.trans s6
      walk_at "s"
      walk_at "1"
      refine get_key rfl rfl (hd4.same s46) w1 w2 w3 ?_
      refine ⟨a, r, i, 3 - i - j, rfl, Same.seq s46 ha4, h6, rfl, rfl, w1, t3.1, t3.2.1, fun H7 s7 => ?_⟩
      have s47 := s46.trans s7
      refine get_way rfl rfl rfl (hd4.same s47) w2 w1 w3.symm ?_
      refine ⟨a, r, 3 - i - j, j, rfl, Same.seq s47 ha4, h6, rfl, rfl, t3.1, w2, t3.2.2, fun H8 s8 => ?_⟩
      have s48 := s47.trans s8
      refine ⟨by decide, fun P nP => ?_⟩
      have s9 : Same H8 (upd H8 P (.lst ([f i j, prF r i (3 - i - j), f j i, prF r (3 - i - j) j].map pV))) := same_new nP
      have gP : upd H8 P (.lst ([f i j, prF r i (3 - i - j), f j i, prF r (3 - i - j) j].map pV)) P = some (.lst ([f i j, prF r i (3 - i - j), f j i, prF r (3 - i - j) j].map pV)) := upd_same
      walk_at "1"
      refine (show tDGet (tVar 1) (tVar 3) _ (upd H8 P (.lst ([f i j, prF r i (3 - i - j), f j i, prF r (3 - i - j) j].map pV))) _ from ?_)
      generalize upd H8 P (.lst ([f i j, prF r i (3 - i - j), f j i, prF r (3 - i - j) j].map pV)) = H9 at *
      have s49 := s48.trans s9
      refine get_key rfl rfl (hd4.same s49) w1 w2 w3 ?_
      refine ⟨by decide, fun Z nZ => ?_⟩
      have s10 : Same H9 (upd H9 Z (.lst [pV (f i j)])) := same_new nZ
      have gZ : upd H9 Z (.lst [pV (f i j)]) Z = some (.lst [pV (f i j)]) := upd_same
      generalize upd H9 Z (.lst [pV (f i j)]) = H10 at *
      refine ⟨P, Z, _, _, rfl, rfl, s10 _ _ gP, gZ, by show 4 + 1 ≤ sizeLine; decide, ?_⟩
      refine sum3 (H' := H10) (os := [f i j, prF r i (3 - i - j), f j i, prF r (3 - i - j) j, f i j]) (by show 5 ≤ 10; decide) fun H11 s11 => ?_
      refine ⟨_, _, rfl, rfl, fun H12 s12 => ?_⟩
      have s412 := s49.trans (s10.trans (s11.trans s12))
      have g12 := s412 _ _ g4
      have few : (wayK (stepO (prF r) f) k).length < sizeLine := by
        unfold wayK
        rw [List.length_map]
        exact Nat.lt_of_le_of_lt (List.length_take_le _ _) (Nat.lt_of_lt_of_le k6 (by decide))
      refine ⟨l, _, rfl, DPut.k (k := .inr (wd [i, j])) g12 few, _, _, _, _, _, _, rfl, (o4.trans (Same.off s412)).trans off_upd, ?_⟩
      rw [upd_same, ← put]
      rfl
    · rintro τ H3 ⟨x3, x4, x5, x6, x7, x8, rfl, o3, g3⟩
      walk_at "1"
      exact q l H3 ((Off.trans (Same.off s02) o3).same nl) nl g3
end
end U
namespace U
open PySem PySem.Spec PyProof.Rows L2

/-- new tables under way, a list of them -/
def TabF (H0 H : Hp) (l : Addr) (fs : List Lvl) : Prop := Same H0 H ∧ (H0 l = none ∧ ∃ ls : List Addr, H l = some (.lst (ls.map V.ref)) ∧ (ls.length = fs.length ∧ ((∀ (k : Nat) (d : Addr) (f : Lvl), ls[k]? = some d → fs[k]? = some f → H d = some (.dK (wayD f))) ∧ (ls.Nodup ∧ (l ∉ ls ∧ ∀ d ∈ ls, H0 d = none)))))
theorem TabF.same {H0 H H' : Hp} {l : Addr} {fs : List Lvl} (g : TabF H0 H l fs) (e : Same H H') : TabF H0 H' l fs := by
  obtain ⟨s, n, ls, h1, h2, h3, h4⟩ := g
  exact ⟨s.trans e, n, ls, e _ _ h1, h2, fun i d f z1 z2 => e _ _ (h3 i d f z1 z2), h4⟩
theorem TabF.lvT {H0 H : Hp} {l : Addr} {fs : List Lvl} (g : TabF H0 H l fs) : LvT H l fs := by
  obtain ⟨s, n, ls, h1, h2, h3, h4, _⟩ := g
  exact ⟨ls, h1, h2, h3, h4⟩
theorem TabF.push {H0 H H1 : Hp} {l d : Addr} {fs : List Lvl} {f : Lvl} (g : TabF H0 H l fs) (n : H d = none) (s : Same H H1) (hd : H1 d = some (.dK (wayD f))) : ∃ ls : List Addr, H1 l = some (.lst (ls.map V.ref)) ∧ (ls.length = fs.length ∧ TabF H0 (upd H1 l (.lst (ls.map V.ref ++ [.ref d]))) l (fs ++ [f])) := by
  obtain ⟨s0, n0, ls, h1, h2, h3, h4, h5, h6⟩ := g
  have hl1 := s _ _ h1
  have dl : d ≠ l := by rintro rfl; rw [h1] at n; cases n
  have dn : d ∉ ls := fun m => by
    obtain ⟨k, hk, e⟩ := List.mem_iff_getElem.mp m
    have lt : k < fs.length := by omega
    have := h3 k d fs[k] (by rw [← e]; exact List.getElem?_eq_getElem hk) (List.getElem?_eq_getElem lt)
    rw [n] at this
    cases this
  refine ⟨ls, hl1, h2, (Off.trans (Same.off (s0.trans s)) off_upd).same n0, n0, ls ++ [d], by rw [upd_same]; simp, by simp [h2], fun k a x e1 e2 => ?_, ?_, ?_, ?_⟩
  · by_cases lt : k < ls.length
    · rw [List.getElem?_append_left lt] at e1
      rw [List.getElem?_append_left (by omega)] at e2
      have z := h3 k a x e1 e2
      rw [upd_ne (by rintro rfl; rw [h1] at z; cases z)]
      exact s _ _ z
    · have ek : k = ls.length := by
        have := (List.getElem?_eq_some_iff.mp e1).1
        simp at this
        omega
      subst ek
      rw [List.getElem?_append_right (Nat.le_refl _), Nat.sub_self] at e1
      rw [List.getElem?_append_right (by omega), h2, Nat.sub_self] at e2
      cases e1
      cases e2
      rw [upd_ne dl]
      exact hd
  · exact List.nodup_append.mpr ⟨h4, (by simp), fun a ma b mb => by rw [List.mem_singleton.mp mb]; exact fun e => dn (e ▸ ma)⟩
  · intro m
    rcases List.mem_append.mp m with m | m
    · exact h5 m
    · exact dl (List.mem_singleton.mp m).symm
  · intro a m
    rcases List.mem_append.mp m with m | m
    · exact h6 a m
    · rw [List.mem_singleton.mp m]
      exact s0.free n
def wayKV (f : Nat × Nat → V) : List (Key × V) := waysN.map fun w => (.inr (wd [w.1, w.2]), f w)
theorem merge_ways (f : Nat × Nat → V) : mergeK [] (wayKV f) = wayKV f := by
  show mergeK [] [((.inr "ab" : Key), f (0, 1)), (.inr "ac", f (0, 2)), (.inr "ba", f (1, 0)), (.inr "bc", f (1, 2)), (.inr "ca", f (2, 0)), (.inr "cb", f (2, 1))] = _
  rfl
def zeroL : Lvl := fun _ _ => some 0
def sp__law_levels (K : PySem.W.Frag) : Sp := sp1 fun x H Q _ => ∃ L rows, x = .ref L ∧ GrL K H L rows ∧ rows.length ≤ 60 ∧ (∀ r ∈ rows, r.length = 6) ∧ ∀ l H', TabF H H' l (ownL rows) → Q (.ref l) H'
def t__law_levels (K : PySem.W.Frag) (E : XK) : TS := (tSeq (tAsg (tLst (tCons (tCB (rDictP K) (tCons (tLc (iSeq K (tLst (tCons (tC (.str "ab")) (tCons (tC (.str "ac")) (tCons (tC (.str "ba")) (tCons (tC (.str "bc")) (tCons (tC (.str "ca")) (tCons (tC (.str "cb")) tNil)))))))) (gName 3) tYes (tTup (tCons (tVar 3) (tCons (tC (.int 0)) tNil))) [3]) tNil)) tNil)) (gName 1)) (tSeq (tFor (iSeq K (tRevL K (tVar 0))) (gName 2) (tDrop (tBM K "list" rAppend (tVar 1) (tCons (tFn (sp__law_level K) E (tCons (tVar 2) (tCons (tOp (uIx K) (tVar 1) (tUn (rU fun i => .int (-i)) (tC (.int 1)))) tNil))) tNil)))) (tRet (tVar 1))))
section
variable {K : PySem.W.Frag} (F : KF K) {vs : List V} {H : Hp} {Q : VK} {E : XK}
local macro_rules | `(tactic| walk_at "w") => `(tactic| try simp only [turnE, lcT, Snoc, tRet, tRetN, tAndV, tOrV, tNotV, tCB, tCons, tVar, tNil, tC, tOp, tSeq, tAsg, gName, gSub, tIfS, tDrop, tFn, tTup, tLst, tNext, tB, tTest, tNot, tAnd, tOr, tIf, tChain, tUn, rU, tFld, tPart, tNoPart, L2.tSl, tBM, tPar, tPar3, tTruth, tDNewK,
  L2.start, List.map_cons, List.map_nil, List.length_cons, List.length_nil, List.replicate_succ, List.replicate_zero, List.append_nil, List.nil_append, List.cons_append, List.singleton_append, Nat.sub_self, Nat.zero_add, Nat.reduceAdd, Nat.reduceSub,
  List.getElem?_cons_zero, List.getElem?_cons_succ, List.set_cons_zero, List.set_cons_succ, Option.some.injEq, exists_eq_left, exists_eq_left', V.int.injEq, V.bl.injEq, V.str.injEq, V.ref.injEq,
  uAdd_int, uAdd_str, uSub_int, uMul_int, uMul_str, uDiv_int, uMod_int, uPow_int, uLt_int, uLe_int, uGt_int, uGe_int, uIs_non, uNis_non, uIs_bl, uNis_bl, sp1, sp2, sp3, sp4, uEq_int, uEq_str, uNe_int, uNe_str, uSl_str, uLen_str, decide_eq_true_eq])
local macro_rules | `(tactic| walk_at "1") => `(tactic| try simp only [turnE, lcT, Snoc, tRet, tRetN, tAndV, tOrV, tNotV, tCB, tCons, tVar, tNil, tC, tOp, tAsg, gName, gSub, tIfS, tDrop, tFn, tTup, tLst, tNext, tB, tTest, tNot, tAnd, tOr, tIf, tChain, tUn, rU, tFld, tPart, tNoPart, L2.tSl, tBM, tPar, tPar3, tTruth, tDNewK,
  L2.start, List.map_cons, List.map_nil, List.length_cons, List.length_nil, List.replicate_succ, List.replicate_zero, List.append_nil, List.nil_append, List.cons_append, List.singleton_append, Nat.sub_self, Nat.zero_add, Nat.reduceAdd, Nat.reduceSub,
  List.getElem?_cons_zero, List.getElem?_cons_succ, List.set_cons_zero, List.set_cons_succ, Option.some.injEq, exists_eq_left, exists_eq_left', V.int.injEq, V.bl.injEq, V.str.injEq, V.ref.injEq,
  uAdd_int, uAdd_str, uSub_int, uMul_int, uMul_str, uDiv_int, uMod_int, uPow_int, uLt_int, uLe_int, uGt_int, uGe_int, uIs_non, uNis_non, uIs_bl, uNis_bl, sp1, sp2, sp3, sp4, uEq_int, uEq_str, uNe_int, uNe_str, uSl_str, uLen_str, decide_eq_true_eq])
local macro_rules | `(tactic| walk_at "s") => `(tactic| ((try dsimp only [turnE]); with_reducible refine seq_ ?_))

theorem tLc_new {t : TE} {σ : L2.St} {g : TG} {tt : TT} {te : TE} {vs : List Nat} {xs : List V} (ht : ∀ R : VK, (∀ p, H p = none → R (.ref p) (upd H p (.lst xs))) → t σ H R)
    (hc : ∀ p H1, Same H H1 → H p = none → H1 p = some (.lst xs) → ∀ D, H1 D = none → LcB (Itl K p) g tt te vs σ H1 D (Q (.ref D))) : tLc (iSeq K t) g tt te vs σ H Q :=
  .inl (ht _ fun p np => ⟨p, rfl, ⟨xs, .inl (.inl upd_same)⟩, fun D => hc p _ (same_new np) np upd_same D⟩)
theorem zero_lap {J : It} {G : Hp → Prop} {j : Nat} {σ : L2.St} {C : Addr} (hj : j < σ.length) (P : Plain J (waysN.map fun w => V.str (wd [w.1, w.2])) G) (hG : ∀ H', Same H H' → G H') (nC : H C = none)
    (fin : ∀ d H', Same H H' → H d = none → H' d = some (.dK (wayD zeroL)) → Q (.ref d) H') : LcB J (gName j) tYes (tTup (tCons (tVar j) (tCons (tC (.int 0)) tNil))) [j] σ H C (rDictP K [.ref C] · Q) := by
  refine lc_freshO P (fun i => .tup [.str (wd [((waysN[i]?).getD (0, 1)).1, ((waysN[i]?).getD (0, 1)).2]), .int 0]) nC (by decide) hG ?_ ?_
  · intro i x H2 Q2 hx s2 k
    rw [List.getElem?_map] at hx
    obtain ⟨w, hw, rfl⟩ := Option.map_eq_some_iff.mp hx
    refine ⟨_, by rw [List.getElem?_set_self hj], by show 2 ≤ sizeLine; decide, fun t nt => k t _ nt (same_new nt) ?_⟩
    rw [upd_same, hw]
    rfl
  · intro H2 ls s2 hl gD at_ nd nD fr
    rw [List.length_map] at hl
    refine ⟨C, ls, wayKV fun _ => .int 0, rfl, .inl (.inl gD), ?_, fun d nd2 => ?_⟩
    · match ls, hl, at_ with
      | [a, b, c, d, e, g], _, at_ =>
        exact .cons (.inl (.inl (at_ 0 a rfl))) (.cons (.inl (.inl (at_ 1 b rfl))) (.cons (.inl (.inl (at_ 2 c rfl))) (.cons (.inl (.inl (at_ 3 d rfl))) (.cons (.inl (.inl (at_ 4 e rfl))) (.cons (.inl (.inl (at_ 5 g rfl))) .nil)))))
    · rw [merge_ways]
      exact fin d _ (s2.trans (same_new nd2)) (s2.free nd2) upd_same
theorem read__law_levels (h : sp__law_levels K vs H Q E) : t__law_levels K E { nx := fun _ H' => Q .non H', rt := Q } (start ["_law_rows_here", "_law_found", "_law_line", "_law_way"] vs) H := by
  match vs, h with
  | [_], ⟨L, rows, rfl, hL, h60, h6, q⟩ =>
    obtain ⟨as, a1, a2, a3⟩ := id hL
    unfold t__law_levels
    walk_at "s"
    simp only [tAsg]
    walk_at "1"
    refine tLc_new (xs := waysN.map fun w => V.str (wd [w.1, w.2])) (fun R r => ?_) fun W H1 s1 nW gW C nC => ?_
    · walk_at "1"
      refine ⟨by decide, fun W nW => ?_⟩
      rw [ways6V]
      exact r W nW
    refine zero_lap (by show 3 < 4; decide) plain_L (fun H' s => .inl (.inl (s _ _ gW))) nC fun d0 H2 s2 nd0 gd0 => ?_
    have s02 := s1.trans s2
    refine ⟨by decide, fun l nl => ?_⟩
    have g1 : TabF H (upd H2 l (.lst [.ref d0])) l [towO rows 0] := by
      have dl : d0 ≠ l := by rintro rfl; rw [gd0] at nl; cases nl
      refine ⟨s02.trans (same_new nl), s02.free nl, [d0], upd_same, rfl, fun k a f e1 e2 => ?_, by simp, by simpa using dl.symm, fun a m => ?_⟩
      · match k, e1, e2 with
        | 0, e1, e2 =>
          cases e1; cases e2
          rw [upd_ne dl]
          exact gd0
        | k + 1, e1, _ => cases e1
      · rw [List.mem_singleton.mp m]
        exact s1.free nd0
    generalize upd H2 l (.lst [.ref d0]) = H3 at *
    walk_at "s"
    refine tFor_seqL ?_
    walk_at "1"
    refine ⟨_, rfl, L, _, rfl, Same.seq g1.1 a1, fun R nR => ⟨R, rfl, ⟨_, .inl (.inl upd_same)⟩, ?_⟩⟩
    have sR : Same H3 (upd H3 R (.lst (as.map V.ref).reverse)) := same_new nR
    have gR : upd H3 R (.lst (as.map V.ref).reverse) R = some (.lst (as.map V.ref).reverse) := upd_same
    have Rl : R ≠ l := by
      rintro rfl
      obtain ⟨_, _, _, z, _⟩ := g1
      rw [z] at nR
      cases nR
    have g2 := g1.same sR
    refine (show tFor _ _ _ _ _ (upd H3 R (.lst (as.map V.ref).reverse)) from ?_)
    generalize upd H3 R (.lst (as.map V.ref).reverse) = H4 at *
    refine laps_of (plain_L (K := K) (a := R) (xs := (as.map V.ref).reverse)) (fun k τ H' => ∃ x2 x3, τ = [some (.ref L), some (.ref l), x2, x3] ∧ Off l H4 H' ∧ TabF H H' l ((List.range (k + 1)).map (towO rows)))
      ⟨_, _, rfl, Off.refl, g2⟩ (fun i τ H' z => by
        obtain ⟨_, _, _, o, _⟩ := z
        exact .inl (.inl (o _ _ Rl gR))) ?_ ?_
    · rintro k x τ H5 hx ⟨x2, x3, rfl, o5, g5⟩
      have lk : k < rows.length := by
        have := (List.getElem?_eq_some_iff.mp hx).1
        rw [List.length_reverse, List.length_map] at this
        omega
      rw [← List.map_reverse, List.getElem?_map] at hx
      obtain ⟨a, hka, rfl⟩ := Option.map_eq_some_iff.mp hx
      have ia : as[rows.length - 1 - k]? = some a := by
        rw [List.getElem?_reverse (by omega)] at hka
        rw [← a2]
        exact hka
      obtain ⟨r, hr⟩ : ∃ r, rows[rows.length - 1 - k]? = some r := ⟨_, List.getElem?_eq_getElem (by omega)⟩
      have hrr : rows.reverse[k]? = some r := by rw [List.getElem?_reverse lk]; exact hr
      have sa := a3 _ a r ia hr
      have r6 := h6 r (List.mem_of_getElem? hr)
      simp only [gName, List.set_cons_zero, List.set_cons_succ]
      obtain ⟨ls, gl, ll, _⟩ := id g5.2.2
      have lr : ((List.range (k + 1)).map (towO rows)).length = k + 1 := by rw [List.length_map, List.length_range]
      have lls : ls.length = k + 1 := by rw [ll, lr]
      have hlast : ls[k]? = some ls[k] := List.getElem?_eq_getElem (by omega)
      obtain ⟨_, _, ls', gl', _, at5, _⟩ := id g5
      have : ls' = ls := by
        rw [gl] at gl'
        injection gl' with e
        injection e with e
        exact (List.map_inj_right fun a b e => by injection e).mp e.symm
      subst this
      have gd := at5 k ls'[k] (towO rows k) hlast (by rw [List.getElem?_map, List.getElem?_range (by omega)]; rfl)
      walk_at "1"
      refine ⟨tyL gl, ?_⟩
      refine uIx_lst gl (at_end (n := k) (by rw [List.length_map, lls]) (by rw [List.getElem?_map, hlast]; rfl)) ?_
      refine ⟨a, ls'[k], r, towO rows k, rfl, Same.seq g5.1 sa, r6, rfl, tb_way gd, fun d H6 s6 nd gd6 => ?_⟩
      rw [← towO_succ hrr] at gd6
      obtain ⟨ls2, gl2, ll2, g6⟩ := g5.push nd s6 gd6
      refine app_of gl2 (by rw [List.length_map, ll2, lr]; omega) ⟨_, _, rfl, (o5.trans (Same.off s6)).trans off_upd, ?_⟩
      rw [List.range_succ, List.map_append]
      exact g6
    · rintro τ H5 ⟨x2, x3, rfl, o5, g5⟩
      rw [List.length_reverse, List.length_map, a2] at g5
      walk_at "1"
      exact q l H5 g5
end
end U
namespace U
open PySem PySem.Spec PyProof.Rows L2

def sp__law_is_table (K : PySem.W.Frag) : Sp := sp1 fun x H Q _ => ∃ b, ItB K H x b ∧ ∀ H', Same H H' → Q (.bl b) H'
def t__law_is_table (K : PySem.W.Frag) (E : XK) : TS := (tSeq (tIfS (tOr (tNot (tB (tCB (uIsi K) (tCons (tVar 0) (tCons (tC (.ty "dict")) tNil))))) (tOr (tTest (tOp (uNe K) (tCB rLenD (tCons (tVar 0) tNil)) (tC (.int 6)))) (tTest (tOp (uNe K) (tLc (iSeq K (tC (.ref (He.ga K "WAYS")))) (gName 2) (tB (tDNotIn (tVar 2) (tVar 0))) (tVar 2) [2]) (tLst tNil))))) (tRet (tC (.bl false))) tNext) (tSeq (tLock (tFor (iVals (tVar 0)) (gName 1) (tIfS (tAnd (tTest (tOp uNis (tVar 1) (tC .non))) (tOr (tNot (tB (tCB (uIsi K) (tCons (tVar 1) (tCons (tC (.ty "int")) tNil))))) (tOr (tB (tCB (uIsi K) (tCons (tVar 1) (tCons (tC (.ty "bool")) tNil)))) (tTest (tOp uLt (tVar 1) (tC (.int 0))))))) (tRet (tC (.bl false))) tNext))) (tRet (tC (.bl true)))))
def hasB (kvs : List (Key × V)) (w : Nat × Nat) : Bool := (valV kvs (.inr (wd [w.1, w.2]))).isSome
theorem lev_iff {kvs : List (Key × V)} (nd : (kvs.map (·.1)).Nodup) : levB kvs = (decide (kvs.length = 6) && (waysN.all (hasB kvs) && kvs.all fun p => okC p.2)) := by
  by_cases h : levB kvs = true
  · have all := lev_all h nd
    rw [h]
    have h' := h
    unfold levB at h'
    rw [Bool.and_eq_true] at h'
    rw [h'.1, Bool.true_and]
    have e1 : waysN.all (hasB kvs) = true := List.all_eq_true.mpr fun w mw => by
      have ok := List.all_eq_true.mp h'.2 w mw
      unfold hasB
      unfold gotV at ok
      cases e : valV kvs (.inr (wd [w.1, w.2])) with
      | none => rw [e] at ok; cases ok
      | some v => rfl
    rw [e1, Bool.true_and]
    exact (List.all_eq_true.mpr all).symm
  · rw [Bool.not_eq_true] at h
    rw [h]
    by_cases h6 : kvs.length = 6
    · rw [decide_eq_true h6, Bool.true_and]
      by_cases e1 : waysN.all (hasB kvs) = true
      · rw [e1, Bool.true_and]
        symm
        rw [Bool.eq_false_iff]
        intro all
        have : levB kvs = true := by
          unfold levB
          rw [decide_eq_true h6, Bool.true_and]
          refine List.all_eq_true.mpr fun w mw => ?_
          have hs := List.all_eq_true.mp e1 w mw
          unfold hasB valV at hs
          unfold gotV valV
          cases e : kvs.find? fun kv => decide (kv.1 = .inr (wd [w.1, w.2])) with
          | none => rw [e] at hs; cases hs
          | some q => exact List.all_eq_true.mp all q (List.mem_of_find?_eq_some e)
        rw [h] at this
        cases this
      · rw [Bool.not_eq_true] at e1
        rw [e1, Bool.false_and]
    · rw [decide_eq_false h6, Bool.false_and]
section
variable {K : PySem.W.Frag} (F : KF K) {vs : List V} {H : Hp} {Q : VK} {E : XK}
local macro_rules | `(tactic| walk_at "w") => `(tactic| try simp only [turnE, lcT, Snoc, tRet, tRetN, tAndV, tOrV, tNotV, tCB, tCons, tVar, tNil, tC, tOp, tSeq, tAsg, gName, gSub, tIfS, tDrop, tFn, tTup, tLst, tNext, tB, tTest, tNot, tAnd, tOr, tIf, tChain, tUn, rU, tFld, tPart, tNoPart, L2.tSl, tBM, tPar, tPar3, tTruth, tDNewK,
  L2.start, List.map_cons, List.map_nil, List.length_cons, List.length_nil, List.replicate_succ, List.replicate_zero, List.append_nil, List.nil_append, List.cons_append, List.singleton_append, Nat.sub_self, Nat.zero_add, Nat.reduceAdd, Nat.reduceSub,
  List.getElem?_cons_zero, List.getElem?_cons_succ, List.set_cons_zero, List.set_cons_succ, Option.some.injEq, exists_eq_left, exists_eq_left', V.int.injEq, V.bl.injEq, V.str.injEq, V.ref.injEq,
  uAdd_int, uAdd_str, uSub_int, uMul_int, uMul_str, uDiv_int, uMod_int, uPow_int, uLt_int, uLe_int, uGt_int, uGe_int, uIs_non, uNis_non, uIs_bl, uNis_bl, sp1, sp2, sp3, sp4, uEq_int, uEq_str, uNe_int, uNe_str, uSl_str, uLen_str, decide_eq_true_eq])
local macro_rules | `(tactic| walk_at "1") => `(tactic| try simp only [turnE, lcT, Snoc, tRet, tRetN, tAndV, tOrV, tNotV, tCB, tCons, tVar, tNil, tC, tOp, tAsg, gName, gSub, tIfS, tDrop, tFn, tTup, tLst, tNext, tB, tTest, tNot, tAnd, tOr, tIf, tChain, tUn, rU, tFld, tPart, tNoPart, L2.tSl, tBM, tPar, tPar3, tTruth, tDNewK,
  L2.start, List.map_cons, List.map_nil, List.length_cons, List.length_nil, List.replicate_succ, List.replicate_zero, List.append_nil, List.nil_append, List.cons_append, List.singleton_append, Nat.sub_self, Nat.zero_add, Nat.reduceAdd, Nat.reduceSub,
  List.getElem?_cons_zero, List.getElem?_cons_succ, List.set_cons_zero, List.set_cons_succ, Option.some.injEq, exists_eq_left, exists_eq_left', V.int.injEq, V.bl.injEq, V.str.injEq, V.ref.injEq,
  uAdd_int, uAdd_str, uSub_int, uMul_int, uMul_str, uDiv_int, uMod_int, uPow_int, uLt_int, uLe_int, uGt_int, uGe_int, uIs_non, uNis_non, uIs_bl, uNis_bl, sp1, sp2, sp3, sp4, uEq_int, uEq_str, uNe_int, uNe_str, uSl_str, uLen_str, decide_eq_true_eq])
local macro_rules | `(tactic| walk_at "s") => `(tactic| ((try dsimp only [turnE]); with_reducible refine seq_ ?_))

include F in
theorem read__law_is_table (h : sp__law_is_table K vs H Q E) : t__law_is_table K E { nx := fun _ H' => Q .non H', rt := Q } (start ["_law_value", "_law_number", "_law_way"] vs) H := by
  match vs, h with
  | [_], ⟨b, hb, q⟩ =>
    unfold t__law_is_table
    walk_at "s"
    walk_at "1"
    rcases hb with ⟨a, ka, na, rfl⟩ | ⟨d, kvs, rfl, hd, rfl⟩
    · refine isi_ty F (b := .dct) rfl ka ⟨_, rfl, ?_⟩
      have e : a.sub .dct = false := by cases a <;> first | rfl | exact absurd rfl na
      rw [e]
      exact q H (Same.refl _)
    · have gd := hd.1
      rw [lev_iff hd.2.2] at q
      refine isi_ty F (b := .dct) rfl (is_dct gd) ⟨_, rfl, ?_⟩
      rw [if_neg (by decide)]
      refine ⟨d, _, rfl, gd, ?_⟩
      walk_at "1"
      by_cases h6 : kvs.length = 6
      · rw [if_neg (by simp [h6])]
        rw [decide_eq_true h6, Bool.true_and] at q
        refine over_ways F (fun Q => rfl) fun J G P hG C nC => ?_
        refine lc_plain P (fun i H' => Same H H' ∧ H' C = some (.lst (((waysN.take i).filter fun w => !hasB kvs w).map fun w => V.str (wd [w.1, w.2])))) ⟨same_new nC, upd_same⟩ (fun i H' z => hG _ z.1) ?_ ?_
        · rintro i x H2 hx ⟨s2, gC⟩
          rw [List.getElem?_map] at hx
          obtain ⟨w, hw, rfl⟩ := Option.map_eq_some_iff.mp hx
          have tk : waysN.take (i + 1) = waysN.take i ++ [w] := by rw [List.take_succ, hw]; rfl
          simp only [lcT, gName, wipe, List.set_cons_zero, List.set_cons_succ]
          refine ⟨trivial, ?_⟩
          walk_at "1"
          refine ⟨_, rfl, _, rfl, d, _, rfl, DGet.k (k := .inr (wd [w.1, w.2])) (s2 _ _ gd), ?_⟩
          refine ⟨_, rfl, ?_⟩
          have ex : (valV kvs (.inr (wd [w.1, w.2]))).isSome = hasB kvs w := rfl
          rw [ex, tk, List.filter_append]
          cases e : hasB kvs w with
          | true =>
            rw [if_neg (by decide)]
            simpa [e] using ⟨s2, gC⟩
          | false =>
            rw [if_pos (by decide)]
            refine ⟨_, gC, ?_, (Off.trans (Same.off s2) off_upd).same nC, ?_⟩
            · rw [List.length_map]
              refine Nat.lt_of_le_of_lt (Nat.le_trans (List.length_filter_le _ _) (List.length_take_le' _ _)) ?_
              decide
            · rw [upd_same]
              simp [e]
        · rintro H2 ⟨s2, gC⟩
          have gC : H2 C = some (.lst (((waysN.filter fun w => !hasB kvs w).map fun w => wd [w.1, w.2]).map V.str)) := by
            rw [List.map_map]
            exact gC
          refine ⟨by decide, fun Z nZ => ?_⟩
          have s3 : Same H2 (upd H2 Z (.lst [])) := same_new nZ
          have gZ : upd H2 Z (.lst []) Z = some (.lst (([] : List Str).map V.str)) := upd_same
          generalize upd H2 Z (.lst []) = H3 at *
          have s13 := s2.trans s3
          have okS : ∀ x ∈ (waysN.filter fun w => !hasB kvs w).map fun w => wd [w.1, w.2], PyData.strOk x = true := fun x m => by
            obtain ⟨w, mw, rfl⟩ := List.mem_map.mp m
            have key : ∀ w ∈ waysN, PyData.strOk (wd [w.1, w.2]) = true := by decide +kernel
            exact key w (List.mem_filter.mp mw).1
          refine ne_strs (.inl (.inl (s3 _ _ gC))) (.inl (.inl gZ)) okS (fun x m => nomatch m) ?_
          refine ⟨_, rfl, ?_⟩
          by_cases hall : waysN.all (hasB kvs) = true
          · rw [hall, Bool.true_and] at q
            have e : ((waysN.filter fun w => !hasB kvs w).map fun w => wd [w.1, w.2]) = [] := by
              rw [List.map_eq_nil_iff, List.filter_eq_nil_iff]
              intro w mw
              rw [List.all_eq_true.mp hall w mw]
              decide
            rw [e, decide_eq_true rfl, if_neg (by decide)]
            walk_at "s"
            have gd3 := s13 _ _ gd
            refine ⟨d, .dK kvs, gd3, trivial, fun od => ?_⟩
            have back : upd (upd H3 d (.frz od (.dK kvs))) d (.dK kvs) = H3 := by
              rw [upd_upd]
              funext b
              by_cases e : b = d
              · subst e
                rw [upd_same]
                exact gd3.symm
              · rw [upd_ne e]
            refine ⟨.ref d, rfl, d, od, kvs, rfl, upd_same, ?_⟩
            refine laps_of (plain_Vd (d := d) (o := od) (kvs := kvs)) (fun i τ H' => H' = upd H3 d (.frz od (.dK kvs)) ∧ ((kvs.take i).all fun p => okC p.2) = true ∧ ∃ x1, τ = [some (.ref d), x1, none]) ⟨rfl, rfl, _, rfl⟩ (fun i τ H' z => by rw [z.1]; exact upd_same) ?_ ?_
            · rintro i x τ H4 hx ⟨rfl, ai, x1, rfl⟩
              rw [List.getElem?_map] at hx
              obtain ⟨p, hp, rfl⟩ := Option.map_eq_some_iff.mp hx
              have ok : OkV K (upd H3 d (.frz od (.dK kvs))) p.2 := by
                have ok := (hd.same s13).2.1 p (List.mem_of_getElem? hp)
                cases e : p.2 with
                | ref r =>
                  rw [e] at ok
                  obtain ⟨xs, hr⟩ := ok
                  refine ⟨xs, ?_⟩
                  rw [upd_ne (by rintro rfl; rw [gd3] at hr; cases hr)]
                  exact hr
                | _ => rw [e] at ok; exact ok
              have next : okC p.2 = true → ((kvs.take (i + 1)).all fun p => okC p.2) = true := fun z => by
                rw [List.take_succ, hp, List.all_append, ai, Bool.true_and]
                show (okC p.2 && true) = true
                rw [z]
                rfl
              have stop : okC p.2 = false → Q (.bl false) (upd (upd H3 d (.frz od (.dK kvs))) d (.dK kvs)) := fun z => by
                have e : (kvs.all fun p => okC p.2) = false := List.all_eq_false.mpr ⟨p, List.mem_of_getElem? hp, by rw [z]; decide⟩
                rw [e] at q
                rw [back]
                exact q H3 s13
              simp only [gName, List.set_cons_zero, List.set_cons_succ]
              generalize p.2 = v at *
              walk_at "1"
              cases v with
              | non =>
                rw [if_neg (by decide), if_neg (by decide)]
                exact ⟨trivial, next rfl, _, rfl⟩
              | bl c =>
                rw [if_pos (by rfl)]
                refine isi_ty F (b := .int) rfl (is_bl c) ⟨true, rfl, ?_⟩
                rw [if_neg (by decide)]
                refine isi_ty F (b := .bl) rfl (is_bl c) ⟨true, rfl, ?_⟩
                rw [if_pos rfl, if_pos trivial]
                exact ⟨upd_same, stop rfl⟩
              | int c =>
                rw [if_pos (by rfl)]
                refine isi_ty F (b := .int) rfl (is_int c) ⟨true, rfl, ?_⟩
                rw [if_neg (by decide)]
                refine isi_ty F (b := .bl) rfl (is_int c) ⟨false, rfl, ?_⟩
                rw [if_neg (by decide)]
                refine ⟨_, rfl, ?_⟩
                by_cases l : c < 0
                · rw [if_pos (decide_eq_true l)]
                  exact ⟨upd_same, stop (decide_eq_false (by omega))⟩
                · rw [if_neg (by simpa using l)]
                  exact ⟨rfl, next (decide_eq_true (by omega)), _, rfl⟩
              | str c =>
                rw [if_pos (by rfl)]
                refine isi_ty F (b := .int) rfl (is_str c) ⟨false, rfl, ?_⟩
                rw [if_pos (by decide), if_pos trivial]
                exact ⟨upd_same, stop rfl⟩
              | ref p =>
                obtain ⟨xs, hx⟩ := ok
                rw [if_pos (by rfl)]
                refine isi_ty F (b := .int) rfl (is_lst hx) ⟨false, rfl, ?_⟩
                rw [if_pos (by decide), if_pos trivial]
                exact ⟨upd_same, stop rfl⟩
              | _ => exact ok.elim
            · rintro τ H4 ⟨rfl, ai, x1, rfl⟩
              rw [List.length_map, List.take_length] at ai
              rw [ai] at q
              refine ⟨upd_same, ?_⟩
              rw [back]
              walk_at "1"
              exact q H3 s13
          · rw [Bool.not_eq_true] at hall
            rw [hall, Bool.false_and] at q
            have e : ((waysN.filter fun w => !hasB kvs w).map fun w => wd [w.1, w.2]) ≠ [] := by
              intro z
              rw [List.map_eq_nil_iff, List.filter_eq_nil_iff] at z
              have : waysN.all (hasB kvs) = true := List.all_eq_true.mpr fun w mw => by simpa using z w mw
              rw [hall] at this
              cases this
            rw [decide_eq_false e, if_pos (by decide)]
            exact q H3 s13
      · rw [if_pos (by simp; omega), if_pos trivial]
        rw [decide_eq_false h6, Bool.false_and] at q
        exact q H (Same.refl _)
end
end U
namespace U
open PySem PySem.Spec PyProof.Rows L2

/-! ### != of two lists, told by their lengths alone -/
section
open PySem.SeqAt AutoSeq1 MeetsSeq MeetsSeq2 MeetsSeq3 SeqRoads2
variable {prog : Program} {w : World} -- both
theorem ne_diff (l b : Addr) (xs ys : Array Value) (n m : Nat) (dd de : Option Addr) (sl sm : Array (Option Value)) (other : xs.size ≠ ys.size) :
    MeetsIn prog w (Builtin.«list.__ne__» ⟨[.ref l, .ref b], []⟩)
      (fun A R s => s.heap.get? l = some (lstO dd xs n sl) ∧ (s.heap.get? b = some (lstO de ys m sm) ∧ R (.ok (.ret (.bool true))) s)) := by
  intro A R s pre
  (obtain ⟨hp, g, d, tk, os⟩ := s)
  obtain ⟨at1, at2, out⟩ := pre
  have isl := AutoSeq1.sub_list_list
  have hne : (xs.size != ys.size) = true := by simp [other]
  wp_walk using wpAny_loadPart' at1, wpAny_loadPart' at2
  exact out
theorem ne_true {A : Around} {s : Shared} {E : Value → Shared → Prop} {l b : Addr} {xs ys : Array Value} {Q : Value → Shared → Prop} (hl : s.heap.IsList l xs) (hb : s.heap.IsList b ys) (other : xs.size ≠ ys.size) (room : A.units < cLine)
    (q : Q (.bool true) s) : wpAny (model prog w) A (compareOp .NotEq (.ref l) (.ref b)) Q E s := by
  obtain ⟨⟨c1, dd, data, sl⟩, o1, k1, n, e1⟩ := id hl
  obtain ⟨⟨c2, de, data2, sm⟩, o2, k2, m, e2⟩ := id hb
  simp only at k1 e1 k2 e2
  subst k1 e1 k2 e2
  show wpAny (model prog w) A (richCompare .NotEq (.ref l) (.ref b)) Q E s
  exact wpAny_richCompare_same_room (T := "list") (op := .NotEq) ⟨_, o1, rfl⟩ ⟨_, o2, rfl⟩ F.slot_list_ne (call_meetsIn F.slot_list_ne ⟨_, o1, rfl⟩ F.entry_list_ne (F.args_list_ne_2 _ _) (ne_diff l b xs ys n m dd de sl sm other)
    ⟨o1, o2, show Value.bool true ≠ Value.notImplemented ∧ Q (.bool true) s from ⟨(fun z => nomatch z), q⟩⟩) room
end
/-- a list and an empty one -/
def rNeS (K : PySem.W.Frag) : R2 := fun x y H Q => ∃ (p q : Addr) (xs : List V), x = .ref p ∧ y = .ref q ∧ SqL K H p xs ∧ SqL K H q [] ∧ Q (.bl (!xs.isEmpty)) H
theorem op_neS {X : Cx} (hu : X.A.units + 64 < cLine) : OpR X (compareOp .NotEq) (rNeS X.K) := by
  (intro pins s σ H x y v u Q I rx ry h)
  obtain ⟨p, q, xs, rfl, rfl, h1, h2, q⟩ := h
  obtain ⟨i1, r1, l1, _⟩ := I.list h1
  obtain ⟨i2, r2, l2, _⟩ := I.list h2
  cases rx
  cases ry
  have z2 : i2 = [] := by have := r2.length; exact List.eq_nil_of_length_eq_zero (by simpa using this.symm)
  subst z2
  cases xs with
  | nil =>
    have z1 : i1 = [] := by have := r1.length; exact List.eq_nil_of_length_eq_zero (by simpa using this.symm)
    subst z1
    exact ne_false l1.isList l2.isList rfl (by omega) (fun j x y e1 e2 => by simp at e1) ⟨.bl _, H, I, rfl, q⟩
  | cons a t =>
    refine ne_true l1.isList l2.isList (by intro z; have := r1.length; rw [List.size_toArray, List.size_toArray, List.length_nil] at z; rw [List.length_cons] at this; omega) (by omega) ⟨.bl _, H, I, rfl, q⟩
end U
namespace U
open PySem PySem.Spec PyProof.Rows L2

/-! ### loops over pairs of a number and an item: a new tuple a turn -/
structure Pairs (J : It) (xs : List V) (G : Hp → Prop) : Prop where
  go : ∀ i H, G H → i < xs.length → J.go i H
  yld : ∀ i H v H', G H → J.yld i H v H' → i < xs.length → ∃ T x, v = .ref T ∧ (H T = none ∧ (H' = upd H T (.tup [.int (i : Nat), x]) ∧ xs[i]? = some x))
  stop : ∀ i H, G H → i = xs.length → J.stop i H
theorem pairs_L {K : PySem.W.Frag} {a : Addr} {xs : List V} : Pairs (Ite K a) xs fun H => SqL K H a xs where
  go := fun i H h lt => ⟨xs, xs[i], h, List.getElem?_eq_getElem lt⟩
  yld := fun i H v H' h ⟨T, x, e1, e2, e3, e4⟩ lt => ⟨T, x, e1, e2, e3, e4 xs h⟩
  stop := fun i H h e => ⟨xs, h, Nat.le_of_eq e.symm⟩
theorem for_pairs {J : It} {xs : List V} {G : Hp → Prop} (P : Pairs J xs G) {wi : TI} {g : TG} {tb : TS} {D : Ends} {σ : L2.St} {H : Hp} (hw : ∀ R : It → Hp → Prop, R J H → wi σ H R) (Pv : Nat → L2.St → Hp → Prop) (h0 : Pv 0 σ H) (hG : ∀ i τ H', Pv i τ H' → G H')
    (hs : ∀ i x τ H' T, xs[i]? = some x → Pv i τ H' → H' T = none → g (.ref T) τ (upd H' T (.tup [.int (i : Nat), x])) fun ρ H2 => tb (turnE D (Pv (i + 1))) ρ H2) (hd : ∀ τ H', Pv xs.length τ H' → D.nx τ H') : tFor wi g tb D σ H := by
  refine hw _ ?_
  refine ⟨fun i m τ H' => m = xs.length - i ∧ (i ≤ xs.length ∧ Pv i τ H'), ⟨_, rfl, Nat.zero_le _, h0⟩, ?_⟩
  rintro i m τ H' ⟨rfl, hi, p⟩
  have q := hG i τ H' p
  by_cases lt : i < xs.length
  · refine .inr ⟨P.go i H' q lt, Pv (i + 1), fun σ' H2 p' => ⟨xs.length - (i + 1), by omega, rfl, lt, p'⟩, fun v H2 y => ?_⟩
    obtain ⟨T, x, rfl, nT, rfl, hx⟩ := P.yld i H' v H2 q y lt
    exact hs i x τ H' T hx p nT
  · have e : i = xs.length := Nat.le_antisymm hi (Nat.le_of_not_lt lt)
    exact .inl ⟨P.stop i H' q e, hd τ H' (e ▸ p)⟩
def sp__law_due (K : PySem.W.Frag) : Sp := sp2 fun x y H Q _ => ∃ L rows, x = .ref L ∧ GrL K H L rows ∧ rows.length ≤ 60 ∧ (∀ r ∈ rows, r.length = 6) ∧ ((NoLv K H rows.length y ∧ ∀ H', Same H H' → Q (.bl false) H') ∨
  ∃ l kss, y = .ref l ∧ LvG K H l kss ∧ kss.length = rows.length + 1 ∧ (∃ k0, kss[0]? = some k0 ∧ ∀ w ∈ waysN, zeroB (gotV k0 w) = true) ∧ ∀ H', Same H H' → Q (.bl (paperB rows kss)) H')
def t__law_due (K : PySem.W.Frag) (E : XK) : TS := (tSeq (tIfS (tOr (tNot (tB (tCB (uIsi K) (tCons (tVar 1) (tCons (tTup (tCons (tC (.ty "list")) (tCons (tC (.ty "tuple")) tNil))) tNil))))) (tTest (tOp (uNe K) (tCB (uLen K) (tCons (tVar 1) tNil)) (tOp uAdd (tCB (uLen K) (tCons (tVar 0) tNil)) (tC (.int 1)))))) (tRet (tC (.bl false))) tNext) (tSeq (tIfS (tTest (tOp (rNeS K) (tLc (iSeq K (tVar 1)) (gName 5) (tNot (tB (tFn (sp__law_is_table K) E0 (tCons (tVar 5) tNil)))) (tVar 5) [5]) (tLst tNil))) (tRet (tC (.bl false))) tNext) (tSeq (tIfS (tTest (tOp (rNeS K) (tLc (iSeq K (tC (.ref (He.ga K "WAYS")))) (gName 6) (tTest (tOp (uNe K) (tDGet (tOp (uIx K) (tVar 1) (tC (.int 0))) (tVar 6)) (tC (.int 0)))) (tVar 6) [6]) (tLst tNil))) (tRet (tC (.bl false))) tNext) (tSeq (tFor (iEnumU K (tCons (tRevL K (tVar 0)) tNil)) (gTup K 2 (gCons (gName 2) (gCons (gName 3) gNil))) (tSeq (tAsg (tFn (sp__law_level K) E (tCons (tVar 3) (tCons (tOp (uIx K) (tVar 1) (tVar 2)) tNil))) (gName 4)) (tIfS (tTest (tOp (rNeS K) (tLc (iSeq K (tC (.ref (He.ga K "WAYS")))) (gName 6) (tB (tFn (sp__law_above K) E0 (tCons (tDGet (tOp (uIx K) (tVar 1) (tOp uAdd (tVar 2) (tC (.int 1)))) (tVar 6)) (tCons (tDGet (tVar 4) (tVar 6)) tNil)))) (tVar 6) [6]) (tLst tNil))) (tRet (tC (.bl false))) tNext))) (tRet (tC (.bl true)))))))
section
variable {K : PySem.W.Frag} (F : KF K) {vs : List V} {H : Hp} {Q : VK} {E : XK}
local macro_rules | `(tactic| walk_at "w") => `(tactic| try simp only [turnE, lcT, Snoc, tRet, tRetN, tAndV, tOrV, tNotV, tCB, tCons, tVar, tNil, tC, tOp, tSeq, tAsg, gName, gSub, tIfS, tDrop, tFn, tTup, tLst, tNext, tB, tTest, tNot, tAnd, tOr, tIf, tChain, tUn, rU, tFld, tPart, tNoPart, L2.tSl, tBM, tPar, tPar3, tTruth, tDNewK,
  L2.start, List.map_cons, List.map_nil, List.length_cons, List.length_nil, List.replicate_succ, List.replicate_zero, List.append_nil, List.nil_append, List.cons_append, List.singleton_append, Nat.sub_self, Nat.zero_add, Nat.reduceAdd, Nat.reduceSub,
  List.getElem?_cons_zero, List.getElem?_cons_succ, List.set_cons_zero, List.set_cons_succ, Option.some.injEq, exists_eq_left, exists_eq_left', V.int.injEq, V.bl.injEq, V.str.injEq, V.ref.injEq,
  uAdd_int, uAdd_str, uSub_int, uMul_int, uMul_str, uDiv_int, uMod_int, uPow_int, uLt_int, uLe_int, uGt_int, uGe_int, uIs_non, uNis_non, uIs_bl, uNis_bl, sp1, sp2, sp3, sp4, uEq_int, uEq_str, uNe_int, uNe_str, uSl_str, uLen_str, decide_eq_true_eq])
local macro_rules | `(tactic| walk_at "1") => `(tactic| try simp only [turnE, lcT, Snoc, tRet, tRetN, tAndV, tOrV, tNotV, tCB, tCons, tVar, tNil, tC, tOp, tAsg, gName, gSub, tIfS, tDrop, tFn, tTup, tLst, tNext, tB, tTest, tNot, tAnd, tOr, tIf, tChain, tUn, rU, tFld, tPart, tNoPart, L2.tSl, tBM, tPar, tPar3, tTruth, tDNewK,
  L2.start, List.map_cons, List.map_nil, List.length_cons, List.length_nil, List.replicate_succ, List.replicate_zero, List.append_nil, List.nil_append, List.cons_append, List.singleton_append, Nat.sub_self, Nat.zero_add, Nat.reduceAdd, Nat.reduceSub,
  List.getElem?_cons_zero, List.getElem?_cons_succ, List.set_cons_zero, List.set_cons_succ, Option.some.injEq, exists_eq_left, exists_eq_left', V.int.injEq, V.bl.injEq, V.str.injEq, V.ref.injEq,
  uAdd_int, uAdd_str, uSub_int, uMul_int, uMul_str, uDiv_int, uMod_int, uPow_int, uLt_int, uLe_int, uGt_int, uGe_int, uIs_non, uNis_non, uIs_bl, uNis_bl, sp1, sp2, sp3, sp4, uEq_int, uEq_str, uNe_int, uNe_str, uSl_str, uLen_str, decide_eq_true_eq])
local macro_rules | `(tactic| walk_at "s") => `(tactic| ((try dsimp only [turnE]); with_reducible refine seq_ ?_))

theorem tFor_enumL {ta : TA} {g : TG} {tb : TS} {D : Ends} {σ : L2.St} (h : ta σ H fun vs H1 => ∃ a xs, vs = [.ref a] ∧ SqL K H1 a xs ∧ tFor (fun _ H' R => R (Ite K a) H') g tb D σ H1) : tFor (iEnumU K ta) g tb D σ H := .inl h
/-- [x for x in .. if test] -/
theorem lc_left {J : It} {G : Hp → Prop} {xs : List V} (P : Plain J xs G) {j : Nat} {tt : TT} {σ : L2.St} {D : Addr} {Qd : Hp → Prop} (bs : List Bool) (hb : bs.length = xs.length) (hj : j < σ.length) (hD : H D = none) (hl : xs.length ≤ 1000) (hG : ∀ H', Same H H' → G H')
    (hs : ∀ (i : Nat) (x : V) (b : Bool) (H2 : Hp) (N : Bool → Hp → Prop), xs[i]? = some x → bs[i]? = some b → Same H H2 → (∀ H3, Same H2 H3 → N b H3) → tt (σ.set j (some x)) H2 N)
    (hd : ∀ H2 (ys : List V), Same H H2 → H2 D = some (.lst ys) → ys.isEmpty = bs.all (fun b => !b) → Qd H2) : LcB J (gName j) tt (tVar j) [j] σ H D Qd := by
  refine lc_plain P (fun i H' => Same H H' ∧ ∃ ys : List V, H' D = some (.lst ys) ∧ ys.length ≤ i ∧ ys.isEmpty = (bs.take i).all (fun b => !b)) ⟨same_new hD, [], upd_same, Nat.le_refl _, rfl⟩ (fun i H' z => hG _ z.1) ?_ (fun H2 z => by
    obtain ⟨s2, ys, g, _, e⟩ := z
    exact hd H2 ys s2 g (by rw [e, ← hb, List.take_length]))
  rintro i x H2 hx ⟨s2, ys, g, ly, e⟩
  have lt : i < bs.length := by have := (List.getElem?_eq_some_iff.mp hx).1; omega
  have eb : bs[i]? = some bs[i] := List.getElem?_eq_getElem lt
  have tk : (bs.take (i + 1)).all (fun b => !b) = ((bs.take i).all (fun b => !b) && !bs[i]) := by
    rw [List.take_succ, eb, List.all_append]
    simp
  show wipe _ [j] = wipe σ [j] ∧ _
  refine ⟨by simp only [wipe, List.set_set], ?_⟩
  have es : (wipe σ [j]).set j (some x) = σ.set j (some x) := by simp only [wipe, List.set_set]
  show tt ((wipe σ [j]).set j (some x)) H2 _
  rw [es]
  refine hs i x bs[i] H2 _ hx eb s2 fun H3 s3 => ?_
  have g3 := s3 _ _ g
  cases q : bs[i] with
  | false =>
    rw [if_neg (by decide)]
    exact ⟨s2.trans s3, ys, g3, by omega, by rw [tk, q, e]; simp⟩
  | true =>
    rw [if_pos rfl]
    refine ⟨x, by rw [List.getElem?_set_self hj], ys, g3, Nat.lt_of_le_of_lt ly (Nat.lt_of_lt_of_le (show i < 1001 by omega) (by decide)), (Off.trans (Same.off (s2.trans s3)) off_upd).same hD, ys ++ [x], upd_same, by simp; omega, by rw [tk, q]; simp⟩
theorem ne_end {C : Addr} {ys : List V} (g : H C = some (.lst ys)) (q : ∀ H', Same H H' → Q (.bl (!ys.isEmpty)) H') : 0 ≤ sizeLine ∧ ∀ p, H p = none → rNeS K (.ref C) (.ref p) (upd H p (.lst [])) Q :=
  ⟨by decide, fun p np => ⟨C, p, ys, rfl, rfl, .inl (.inl (same_new np _ _ g)), .inl (.inl upd_same), q _ (same_new np)⟩⟩
theorem all_not (bs : List Bool) : (bs.map fun b => !b).all (fun b => !b) = bs.all id := by
  rw [List.all_map]
  congr 1
  funext b
  cases b <;> rfl
include F in
theorem due_list {L l : Addr} {rows : List (List (Option Int))} {xs : List V} {bs : List Bool} {k0 : List (Key × V)} (hL : GrL K H L rows) (h60 : rows.length ≤ 60) (h6 : ∀ r ∈ rows, r.length = 6) (hs : SqA K H l xs) (few : xs.length ≤ 1000) (lb : bs.length = xs.length)
    (items : ∀ (i : Nat) v b, xs[i]? = some v → bs[i]? = some b → ItB K H v b) (first : ∀ v, xs[0]? = some v → bs.all id = true → (bs.length : Int) = (rows.length : Int) + 1 → ∃ d, v = .ref d ∧ DcV K H d k0)
    (q0 : levsB ((rows.length : Int) + 1) bs k0 = false → ∀ H', Same H H' → Q (.bl false) H')
    (q1 : levsB ((rows.length : Int) + 1) bs k0 = true → ∃ kss, LvG K H l kss ∧ kss.length = rows.length + 1 ∧ ∀ H', Same H H' → Q (.bl (paperB rows kss)) H') :
    t__law_due K E { nx := fun _ H' => Q .non H', rt := Q } (start ["_law_rows_here", "_law_value", "_law_count", "_law_line", "_law_best", "_law_table", "_law_way"] [.ref L, .ref l]) H := by
  obtain ⟨as, a1, a2, a3⟩ := id hL
  unfold t__law_due
  walk_at "s"
  walk_at "1"
  refine ⟨by decide, fun T nT => ?_⟩
  have s1 : Same H (upd H T (.tup [.ty "list", .ty "tuple"])) := same_new nT
  have gT : upd H T (.tup [.ty "list", .ty "tuple"]) T = some (.tup [.ty "list", .ty "tuple"]) := upd_same
  generalize upd H T (.tup [.ty "list", .ty "tuple"]) = H1 at *
  have hs1 := hs.same s1
  have kp : ∃ a, Is K H1 (.ref l) a ∧ (a.sub .lst || a.sub .tup) = true := by
    rcases hs1 with z | z
    · exact ⟨_, is_sqL z, rfl⟩
    · exact ⟨_, is_sqT z, rfl⟩
  obtain ⟨a, ka, sa⟩ := kp
  refine isi_seq F gT ka ⟨true, by rw [sa], ?_⟩
  rw [if_neg (by decide)]
  refine uLen_seq hs1 ?_
  refine uLen_seq (.inl (Same.seq s1 a1)) ?_
  walk_at "1"
  have la : as.length = rows.length := a2
  rw [List.length_map, la]
  by_cases e : (xs.length : Int) = (rows.length : Int) + 1
  · rw [if_neg (by simp [e])]
    walk_at "s"
    walk_at "1"
    refine tLc_seq (p := l) (xs := xs) hs1 (tVar_eq rfl) fun J G P hG C nC => ?_
    refine lc_left P (bs.map fun b => !b) (by rw [List.length_map, lb]) (by show 5 < 7; decide) nC few hG ?_ fun H2 ys s2 gC emp => ?_
    · intro i x b H2 N hx hb s2 go
      rw [List.getElem?_map] at hb
      obtain ⟨b0, hb0, rfl⟩ := Option.map_eq_some_iff.mp hb
      walk_at "1"
      exact ⟨b0, ((items i x b0 hx hb0).same s1).same s2, fun H3 s3 => ⟨_, rfl, go H3 s3⟩⟩
    · have s12 := s1.trans s2
      refine ne_end gC fun H3 s3 => ⟨_, rfl, ?_⟩
      have s13 := s12.trans s3
      rw [emp, all_not]
      cases ea : bs.all id with
      | false =>
        rw [if_pos (by decide)]
        exact q0 (by unfold levsB; rw [ea, Bool.false_and, Bool.and_false]) H3 s13
      | true =>
        rw [if_neg (by decide)]
        have lt : 0 < xs.length := by omega
        have hx0 : xs[0]? = some xs[0] := List.getElem?_eq_getElem lt
        have hb0 : bs[0]? = some (bs[0]'(by omega)) := List.getElem?_eq_getElem _
        have tb : bs[0]'(by omega) = true := List.all_eq_true.mp ea _ (List.getElem_mem _)
        obtain ⟨d, ed, hd⟩ := first _ hx0 ea (by rw [lb]; exact e)
        have lev : levB k0 = true := by
          rcases items 0 _ _ hx0 hb0 with ⟨_, _, _, z⟩ | ⟨d', kvs, e1, h1, h2⟩
          · rw [tb] at z; cases z
          · rw [ed] at e1
            injection e1 with e1
            subst e1
            have := h1.1.symm.trans hd.1
            injection this with this
            injection this with this
            rw [← this, ← h2, tb]
        walk_at "s"
        walk_at "1"
        refine over_ways F (fun Q => rfl) fun J2 G2 P2 hG2 D nD => ?_
        refine lc_left P2 (waysN.map fun w => !zeroB (gotV k0 w)) (by rw [List.length_map, List.length_map]) (by show 6 < 7; decide) nD (by decide) hG2 ?_ fun H4 zs s4 gD emp2 => ?_
        · intro i x b H4 N hx hb s4 go
          rw [List.getElem?_map] at hx hb
          obtain ⟨w, hw, rfl⟩ := Option.map_eq_some_iff.mp hx
          rw [hw] at hb
          injection hb with hb
          subst hb
          obtain ⟨w1, w2, w3⟩ := waysN_ok w (List.mem_of_getElem? hw)
          obtain ⟨g1, g2, g3⟩ := gotV_ok lev w1 w2 w3
          have s14 := s13.trans s4
          have go : N (!zeroB (gotV k0 (w.1, w.2))) H4 := go H4 (Same.refl _)
          rw [g1] at go
          walk_at "1"
          simp only [tDGet]
          walk_at "1"
          refine ⟨xs, xs[0], hs.same s14, at_nat (k := 0) hx0, ?_⟩
          rw [ed]
          refine ⟨d, _, rfl, g2 ▸ DGet.k (k := .inr (wd [w.1, w.2])) (s14 _ _ hd.1), ?_⟩
          cases o : lvlK k0 w.1 w.2 with
          | none =>
            rw [o] at go
            exact ⟨rfl, _, rfl, go⟩
          | some v =>
            rw [o] at go
            exact ⟨_, rfl, go⟩
        · have s14 := s13.trans s4
          refine ne_end gD fun H5 s5 => ⟨_, rfl, ?_⟩
          have s15 := s14.trans s5
          have az : (waysN.map fun w => !zeroB (gotV k0 w)).all (fun b => !b) = waysN.all fun w => zeroB (gotV k0 w) := by
            rw [List.all_map]
            congr 1
            funext w
            show (!!zeroB (gotV k0 w)) = _
            cases zeroB (gotV k0 w) <;> rfl
          rw [emp2, az]
          cases ez : waysN.all fun w => zeroB (gotV k0 w) with
          | false =>
            rw [if_pos (by decide)]
            exact q0 (by unfold levsB; rw [ez, Bool.and_false, Bool.and_false]) H5 s15
          | true =>
            rw [if_neg (by decide)]
            obtain ⟨kss, hk, lk, q⟩ := q1 (by unfold levsB; rw [lb, decide_eq_true e, ea, ez]; rfl)
            walk_at "s"
            obtain ⟨ls, l1, l2, l3, l4⟩ := id hk
            let pk : Nat → Bool := fun k => waysN.all fun w => !aboveO (lvlK ((kss[k + 1]?).getD []) w.1 w.2) (stepO (prF ((rows.reverse[k]?).getD [])) (lvlK ((kss[k]?).getD [])) w.1 w.2)
            have pb : paperB rows kss = (List.range rows.length).all pk := rfl
            refine tFor_enumL ?_
            walk_at "1"
            refine ⟨_, rfl, L, _, rfl, Same.seq s15 a1, fun R nR => ?_⟩
            have sR : Same H5 (upd H5 R (.lst (as.map V.ref).reverse)) := same_new nR
            have gR : upd H5 R (.lst (as.map V.ref).reverse) R = some (.lst (as.map V.ref).reverse) := upd_same
            refine ⟨R, _, rfl, .inl (.inl gR), ?_⟩
            generalize upd H5 R (.lst (as.map V.ref).reverse) = H6 at *
            have s16 := s15.trans sR
            refine for_pairs (wi := fun _ H' R' => R' (Ite K R) H') (pairs_L (K := K) (a := R) (xs := (as.map V.ref).reverse)) (fun R r => r) (fun k τ H' => Same H6 H' ∧ ((List.range k).all pk) = true ∧ ∃ x2 x3 x4 x5 x6, τ = [some (.ref L), some (.ref l), x2, x3, x4, x5, x6]) ⟨Same.refl _, rfl, _, _, _, _, _, rfl⟩ (fun i τ H' z => .inl (.inl (z.1 _ _ gR))) ?_ ?_
            · rintro k x τ H7 T2 hx ⟨s7, ak, x2, x3, x4, x5, x6, rfl⟩ nT2
              have lk7 : k < rows.length := by
                have := (List.getElem?_eq_some_iff.mp hx).1
                rw [List.length_reverse, List.length_map] at this
                omega
              rw [← List.map_reverse, List.getElem?_map] at hx
              obtain ⟨a0, hka, rfl⟩ := Option.map_eq_some_iff.mp hx
              have ia : as[rows.length - 1 - k]? = some a0 := by
                rw [List.getElem?_reverse (by omega)] at hka
                rw [← la]
                exact hka
              obtain ⟨r, hr⟩ : ∃ r, rows[rows.length - 1 - k]? = some r := ⟨_, List.getElem?_eq_getElem (by omega)⟩
              have hrr : rows.reverse[k]? = some r := by rw [List.getElem?_reverse lk7]; exact hr
              have sa0 := a3 _ a0 r ia hr
              have r6 := h6 r (List.mem_of_getElem? hr)
              have sT2 : Same H7 (upd H7 T2 (.tup [.int (k : Nat), .ref a0])) := same_new nT2
              have gT2 : upd H7 T2 (.tup [.int (k : Nat), .ref a0]) T2 = some (.tup [.int (k : Nat), .ref a0]) := upd_same
              generalize upd H7 T2 (.tup [.int (k : Nat), .ref a0]) = H8 at *
              have s08 := s16.trans (s7.trans sT2)
              have s68 := s7.trans sT2
              have ek : kss[k]? = some (kss[k]'(by omega)) := List.getElem?_eq_getElem _
              have ek1 : kss[k + 1]? = some (kss[k + 1]'(by omega)) := List.getElem?_eq_getElem _
              have ed0 : ls[k]? = some (ls[k]'(by omega)) := List.getElem?_eq_getElem _
              have ed1 : ls[k + 1]? = some (ls[k + 1]'(by omega)) := List.getElem?_eq_getElem _
              obtain ⟨dc0, lev0⟩ := l3 _ _ _ ed0 ek
              obtain ⟨dc1, lev1⟩ := l3 _ _ _ ed1 ek1
              refine ⟨T2, _, rfl, .inl (.inl gT2), rfl, ?_⟩
              refine ⟨_, _, rfl, _, _, rfl, rfl, ?_⟩
              simp only [List.set_cons_zero, List.set_cons_succ]
              walk_at "s"
              walk_at "1"
              refine ⟨ls.map V.ref, .ref (ls[k]'(by omega)), l1.same s08, at_nat (by rw [List.getElem?_map, ed0]; rfl), ?_⟩
              refine ⟨a0, ls[k]'(by omega), r, lvlK (kss[k]'(by omega)), rfl, Same.seq s08 sa0, r6, rfl, tb_lev (dc0.same s08) lev0, fun b0 H9 s9 nb0 gb0 => ?_⟩
              have s09 := s08.trans s9
              walk_at "1"
              refine over_ways F (fun Q => rfl) fun J3 G3 P3 hG3 Z nZ => ?_
              let bw : Nat × Nat → Bool := fun w => aboveO (lvlK (kss[k + 1]'(by omega)) w.1 w.2) (stepO (prF r) (lvlK (kss[k]'(by omega))) w.1 w.2)
              refine lc_left P3 (waysN.map bw) (by rw [List.length_map, List.length_map]) (by show 6 < 7; decide) nZ (by decide) hG3 ?_ fun H10 us s10 gZ emp3 => ?_
              · intro i x b H10 N hx hb s10 go
                rw [List.getElem?_map] at hx hb
                obtain ⟨w, hw, rfl⟩ := Option.map_eq_some_iff.mp hx
                rw [hw] at hb
                injection hb with hb
                subst hb
                obtain ⟨w1, w2, w3⟩ := waysN_ok w (List.mem_of_getElem? hw)
                have s010 := s09.trans s10
                have g1 := (tb_lev (dc1.same s010) lev1).get w1 w2 w3
                have g0 := (tb_way (s10 _ _ gb0)).get w1 w2 w3
                walk_at "1"
                simp only [tDGet]
                walk_at "1"
                refine ⟨ls.map V.ref, .ref (ls[k + 1]'(by omega)), l1.same s010, (show atI (ls.map V.ref) (((k : Nat) : Int) + 1) = _ from by
                  rw [show ((k : Nat) : Int) + 1 = ((k + 1 : Nat) : Int) by omega]
                  exact at_nat (by rw [List.getElem?_map, ed1]; rfl)), ?_⟩
                refine ⟨_, _, rfl, g1, ?_⟩
                refine ⟨_, _, rfl, g0, ?_⟩
                exact ⟨_, _, rfl, rfl, _, rfl, go H10 (Same.refl _)⟩
              · refine ne_end gZ fun H11 s11 => ⟨_, rfl, ?_⟩
                have s911 := s10.trans s11
                have s011 := s09.trans s911
                have pkk : pk k = (waysN.map bw).all fun b => !b := by
                  rw [List.all_map]
                  show (waysN.all fun w => !aboveO (lvlK ((kss[k + 1]?).getD []) w.1 w.2) (stepO (prF ((rows.reverse[k]?).getD [])) (lvlK ((kss[k]?).getD [])) w.1 w.2)) = _
                  rw [ek, ek1, hrr]
                  rfl
                rw [emp3, ← pkk]
                cases ep : pk k with
                | false =>
                  rw [if_pos (by decide)]
                  have pf : paperB rows kss = false := by
                    rw [pb]
                    exact List.all_eq_false.mpr ⟨k, List.mem_range.mpr lk7, by rw [ep]; decide⟩
                  rw [pf] at q
                  exact q H11 s011
                | true =>
                  rw [if_neg (by decide)]
                  refine ⟨s68.trans (s9.trans s911), ?_, _, _, _, _, _, rfl⟩
                  rw [List.range_succ, List.all_append, ak, Bool.true_and]
                  show (pk k && true) = true
                  rw [ep]
                  rfl
            · rintro τ H7 ⟨s7, ak, x2, x3, x4, x5, x6, rfl⟩
              rw [List.length_reverse, List.length_map, la] at ak
              walk_at "1"
              rw [pb, ak] at q
              exact q H7 (s16.trans s7)
  · rw [if_pos (by simp [e])]
    exact q0 (by unfold levsB; rw [lb, decide_eq_false e, Bool.false_and]) H1 s1
include F in
theorem read__law_due (h : sp__law_due K vs H Q E) : t__law_due K E { nx := fun _ H' => Q .non H', rt := Q } (start ["_law_rows_here", "_law_value", "_law_count", "_law_line", "_law_best", "_law_table", "_law_way"] vs) H := by
  match vs, h with
  | [_, y], ⟨L, rows, rfl, hL, h60, h6, .inl ⟨.inl ⟨a, ka, n1, n2⟩, q⟩⟩ =>
    unfold t__law_due
    walk_at "s"
    walk_at "1"
    refine ⟨by decide, fun T nT => ?_⟩
    have s1 : Same H (upd H T (.tup [.ty "list", .ty "tuple"])) := same_new nT
    have gT : upd H T (.tup [.ty "list", .ty "tuple"]) T = some (.tup [.ty "list", .ty "tuple"]) := upd_same
    generalize upd H T (.tup [.ty "list", .ty "tuple"]) = H1 at *
    refine isi_seq F gT (ka.same s1) ⟨false, ?_, ?_⟩
    · congr 1
      cases a <;> first | rfl | exact absurd rfl n1 | exact absurd rfl n2
    · rw [if_pos (by decide), if_pos trivial]
      exact q H1 s1
  | [_, _], ⟨L, rows, rfl, hL, h60, h6, .inl ⟨.inr ⟨l, xs, bs, k0, rfl, h2, h3, h4, h5, hf, h7⟩, q⟩⟩ =>
    exact due_list F hL h60 h6 h2 h3 h4 h5 hf (fun _ => q) fun z => by rw [h7] at z; cases z
  | [_, _], ⟨L, rows, rfl, hL, h60, h6, .inr ⟨l, kss, rfl, hk, lk, ⟨k0, e0, z0⟩, q⟩⟩ =>
    obtain ⟨ls, l1, l2, l3, l4⟩ := id hk
    refine due_list F (bs := List.replicate ls.length true) (k0 := k0) hL h60 h6 l1 (by rw [List.length_map]; omega) (by rw [List.length_replicate, List.length_map]) (fun i v b z1 z2 => ?_) (fun v z1 _ _ => ?_) (fun z => ?_) fun _ => ⟨kss, hk, lk, q⟩
    · rw [List.getElem?_map] at z1
      obtain ⟨d, hd, rfl⟩ := Option.map_eq_some_iff.mp z1
      have lt : i < kss.length := by have := (List.getElem?_eq_some_iff.mp hd).1; omega
      obtain ⟨dc, lev⟩ := l3 i d _ hd (List.getElem?_eq_getElem lt)
      have eb : b = true := List.eq_of_mem_replicate (List.mem_of_getElem? z2)
      exact .inr ⟨d, _, rfl, dc, by rw [eb, lev]⟩
    · rw [List.getElem?_map] at z1
      obtain ⟨d, hd, rfl⟩ := Option.map_eq_some_iff.mp z1
      exact ⟨d, rfl, (l3 0 d k0 hd e0).1⟩
    · have : levsB ((rows.length : Int) + 1) (List.replicate ls.length true) k0 = true := by
        unfold levsB
        rw [List.length_replicate, decide_eq_true (by omega), Bool.true_and, Bool.and_eq_true]
        exact ⟨by simp, List.all_eq_true.mpr z0⟩
      rw [this] at z
      cases z
end
end U
namespace U
open PySem PySem.Spec PyProof.Rows L2

/-! ### data by the length of its text -/
/-- shown in at most B signs, at most D deep -/
def Slim (B D : Nat) (d : PyData) : Prop := d.showable = true ∧ d.depth ≤ D ∧ d.shown.length ≤ B ∧ fine d = true
theorem Slim.mono {B D B' D' : Nat} {d : PyData} (h : Slim B D d) (hb : B ≤ B') (hd : D ≤ D') : Slim B' D' d := ⟨h.1, Nat.le_trans h.2.1 hd, Nat.le_trans h.2.2.1 hb, h.2.2.2⟩
theorem slim_list {ds : List PyData} {B D n : Nat} (h : ∀ d ∈ ds, Slim B D d) (hn : ds.length ≤ n) : Slim ((B + 2) * n + 3) (D + 1) (.list ds) := by
  have key : ∀ l : List PyData, (∀ d ∈ l, Slim B D d) → PyData.showableAll l = true ∧ PyData.depthAll l ≤ D ∧ ((PyData.shownAll l).map (·.length)).sum ≤ B * l.length ∧ fineAll l = true := by
    intro l
    induction l with
    | nil => intro _; exact ⟨by simp [PyData.showableAll], by simp [PyData.depthAll], by simp [PyData.shownAll], by simp [fineAll]⟩
    | cons x r ih =>
      intro h
      obtain ⟨a1, a2, a3, a4⟩ := h x List.mem_cons_self
      obtain ⟨b1, b2, b3, b4⟩ := ih fun d m => h d (List.mem_cons_of_mem _ m)
      refine ⟨?_, ?_, ?_, ?_⟩
      · rw [PyData.showableAll, a1, b1]; rfl
      · rw [PyData.depthAll]; exact Nat.max_le.mpr ⟨a2, b2⟩
      · rw [PyData.shownAll, List.map_cons, List.sum_cons, List.length_cons, Nat.mul_succ]; omega
      · rw [fineAll, a4, b4]; rfl
  obtain ⟨k1, k2, k3, k4⟩ := key ds h
  refine ⟨?_, ?_, ?_, ?_⟩
  · rw [PyData.showable]; exact k1
  · rw [PyData.depth]; omega
  · have a := listText_len_le (PyData.shownAll ds)
    have c := PyData.shownAll_length ds
    have e : (PyData.list ds).shown = listText (PyData.shownAll ds) := by simp only [PyData.shown]
    have m1 : (B + 2) * ds.length ≤ (B + 2) * n := Nat.mul_le_mul_left _ hn
    rw [e]
    rw [Nat.add_mul] at m1
    rw [Nat.add_mul]
    rw [Nat.add_mul] at m1
    omega
  · rw [fine]; exact k4
section
variable {K : PySem.W.Frag} {H : Hp}
theorem dq_all {α : Type} {f : α → V} {g : α → PyData} : ∀ {l : List α}, (∀ x ∈ l, Dq K H (f x) (g x)) → DqAll K H (l.map f) (l.map g)
  | [], _ => .qnil
  | x :: r, h => .qcons (h x List.mem_cons_self) (dq_all fun y m => h y (List.mem_cons_of_mem _ m))
def slimB (B D : Nat) (d : PyData) : Bool := d.showable && decide (d.depth ≤ D) && decide (d.shown.length ≤ B) && fine d
theorem slimB_ok {B D : Nat} {d : PyData} (h : slimB B D d = true) : Slim B D d := by
  unfold slimB at h
  simp only [Bool.and_eq_true, decide_eq_true_eq, and_assoc] at h
  exact h
end
end U
namespace U
open PySem PySem.Spec PyProof.Rows L2

def excs : List (Str × Str) := [("InvalidPaper", "paper"), ("InvalidWay", "way")]
def wordOf (f : Str) : Str := (excs.lookup f).getD ""
def Told (K : PySem.W.Frag) (H : Hp) (v : V) (d : PyData) : Prop := Dq K H v d ∧ d.showable = true ∧ d.depth ≤ 60 ∧ d.shown.length ≤ sizeLine
/-- how told_cost ends: a value, or an exception -/
def OutT (K : PySem.W.Frag) (H : Hp) (y x z : V) (Rn : V → Hp → Prop) (Rx : Str → V → Hp → Prop) : Prop := ∀ (Q1 : VK) (E1 : XK), (∀ v H1, Rn v H1 → Q1 v H1) → (∀ f v d H1, Rx f v H1 → H1 d = some (.xd [("value", v)]) → E1 (.ref (He.ga K f)) (some d) H1) → sp_told_cost K [y, x, z] H Q1 E1
def sp__law_caught (K : PySem.W.Frag) : Sp := sp3 fun y x z H Q _ => ∃ (Rn : V → Hp → Prop) (Rx : Str → V → Hp → Prop), OutT K H y x z Rn Rx ∧ (∀ v H1, Rn v H1 → Q v H1) ∧
  (∀ f v H1, Rx f v H1 → f ∈ excN ∧ ∃ dd, Told K H1 v dd ∧ ∀ l H', Same H1 H' → H1 l = none → H' l = some (.lst [.str (wordOf f), .str dd.shown]) → Q (.ref l) H')
def t__law_caught (K : PySem.W.Frag) (E : XK) : TS := (tTry (fun cls d _ H => E cls d H) (fun W => (tRet (tFnS (sp_told_cost K) W (tCons (tVar 0) (tCons (tVar 1) (tCons (tVar 2) tNil)))))) [⟨(fun cls => PySem.W.exmOne K cls (.ref (He.ga K "InvalidPaper"))), some 3, fun a cls d => (tRet (tLst (tCons (tC (.str "paper")) (tCons (tCB (uReprQ K) (tCons (tXv K a cls d "value" (tVar 3)) tNil)) tNil))))⟩, ⟨(fun cls => PySem.W.exmOne K cls (.ref (He.ga K "InvalidWay"))), some 3, fun a cls d => (tRet (tLst (tCons (tC (.str "way")) (tCons (tCB (uReprQ K) (tCons (tXv K a cls d "value" (tVar 3)) tNil)) tNil))))⟩])
section
variable {K : PySem.W.Frag} (F : KF K) (C : XF K "CratesError" excN) {vs : List V} {H : Hp} {Q : VK} {E : XK}
local macro_rules | `(tactic| walk_at "w") => `(tactic| try simp only [turnE, lcT, Snoc, tRet, tRetN, tAndV, tOrV, tNotV, tCB, tCons, tVar, tNil, tC, tOp, tSeq, tAsg, gName, gSub, tIfS, tDrop, tFn, tTup, tLst, tNext, tB, tTest, tNot, tAnd, tOr, tIf, tChain, tUn, rU, tFld, tPart, tNoPart, L2.tSl, tBM, tPar, tPar3, tTruth, tDNewK,
  L2.start, List.map_cons, List.map_nil, List.length_cons, List.length_nil, List.replicate_succ, List.replicate_zero, List.append_nil, List.nil_append, List.cons_append, List.singleton_append, Nat.sub_self, Nat.zero_add, Nat.reduceAdd, Nat.reduceSub,
  List.getElem?_cons_zero, List.getElem?_cons_succ, List.set_cons_zero, List.set_cons_succ, Option.some.injEq, exists_eq_left, exists_eq_left', V.int.injEq, V.bl.injEq, V.str.injEq, V.ref.injEq,
  uAdd_int, uAdd_str, uSub_int, uMul_int, uMul_str, uDiv_int, uMod_int, uPow_int, uLt_int, uLe_int, uGt_int, uGe_int, uIs_non, uNis_non, uIs_bl, uNis_bl, sp1, sp2, sp3, sp4, uEq_int, uEq_str, uNe_int, uNe_str, uSl_str, uLen_str, decide_eq_true_eq])
local macro_rules | `(tactic| walk_at "1") => `(tactic| try simp only [turnE, lcT, Snoc, tRet, tRetN, tAndV, tOrV, tNotV, tCB, tCons, tVar, tNil, tC, tOp, tAsg, gName, gSub, tIfS, tDrop, tFn, tTup, tLst, tNext, tB, tTest, tNot, tAnd, tOr, tIf, tChain, tUn, rU, tFld, tPart, tNoPart, L2.tSl, tBM, tPar, tPar3, tTruth, tDNewK,
  L2.start, List.map_cons, List.map_nil, List.length_cons, List.length_nil, List.replicate_succ, List.replicate_zero, List.append_nil, List.nil_append, List.cons_append, List.singleton_append, Nat.sub_self, Nat.zero_add, Nat.reduceAdd, Nat.reduceSub,
  List.getElem?_cons_zero, List.getElem?_cons_succ, List.set_cons_zero, List.set_cons_succ, Option.some.injEq, exists_eq_left, exists_eq_left', V.int.injEq, V.bl.injEq, V.str.injEq, V.ref.injEq,
  uAdd_int, uAdd_str, uSub_int, uMul_int, uMul_str, uDiv_int, uMod_int, uPow_int, uLt_int, uLe_int, uGt_int, uGe_int, uIs_non, uNis_non, uIs_bl, uNis_bl, sp1, sp2, sp3, sp4, uEq_int, uEq_str, uNe_int, uNe_str, uSl_str, uLen_str, decide_eq_true_eq])
local macro_rules | `(tactic| walk_at "s") => `(tactic| ((try dsimp only [turnE]); with_reducible refine seq_ ?_))

include C in
theorem is_exc {f c : Str} (hf : f ∈ excN) (hc : c ∈ excN) : PySem.W.exmOne K (.ref (He.ga K f)) (.ref (He.ga K c)) = some (decide (c = f)) := by
  have e2 := C.m f hf c (List.mem_cons_of_mem _ hc)
  have n : c ≠ ("CratesError" : Str) := by
    rintro rfl
    revert hc
    decide
  have e : decide (c = ("CratesError" : Str) ∨ c = f) = decide (c = f) := decide_eq_decide.mpr ⟨fun z => z.resolve_left n, .inr⟩
  exact e ▸ e2
include F C in
theorem read__law_caught (h : sp__law_caught K vs H Q E) : t__law_caught K E { nx := fun _ H' => Q .non H', rt := Q } (start ["_law_yard", "_law_value", "_law_key", "e"] vs) H := by
  match vs, h with
  | [y, x, z], ⟨Rn, Rx, out, told, caught⟩ =>
    unfold t__law_caught
    simp only [tTry, tFnS, tCallS, wCl, undone, named, unnamed, WE]
    walk_at "1"
    simp only [tCallS]
    walk_at "1"
    have end_ : ∀ {f w : Str} {v : V} {dd : PyData} {d a : Addr} {H1 : Hp}, w = wordOf f → f ∈ excN → Told K H1 v dd → H1 d = some (.xd [("value", v)]) → (∀ l H', Same H1 H' → H1 l = none → H' l = some (.lst [.str (wordOf f), .str dd.shown]) → Q (.ref l) H') →
        tXv K a (.ref (He.ga K f)) (some d) "value" (tVar 3) ([some y, some x, some z, none].set 3 (some (.ref a))) H1 fun x H1 => uReprQ K [x] H1 fun x H1 => 2 ≤ sizeLine ∧ ∀ (p : Addr), H1 p = none → Q (.ref p) (upd H1 p (.lst [.str w, x])) := by
      intro f w v dd d a H1 ew hf ht hd q
      subst ew
      exact ⟨_, rfl, rfl, _, d, _, v, rfl, rfl, C.f _ hf, C.v _ hf, hd, rfl, v, dd, rfl, ht.1, ht.2.1, ht.2.2.1, ht.2.2.2, by decide, fun l nl => q l _ (same_new nl) nl upd_same⟩
    refine out _ _ (fun v H1 r => told v H1 r) fun f v d H1 rx hd => ?_
    obtain ⟨hf, dd, ht, q⟩ := caught f v H1 rx
    have hm : f = "InvalidPaper" ∨ f = "InvalidWay" := by
      unfold excN at hf
      simpa using hf
    have one : ∀ {g : Str}, g ∈ excN → g ≠ f → PySem.W.exmOne K (.ref (He.ga K f)) (.ref (He.ga K g)) = some false := fun hg n => by rw [is_exc C hf hg, decide_eq_false n]
    have two : PySem.W.exmOne K (.ref (He.ga K f)) (.ref (He.ga K f)) = some true := by rw [is_exc C hf hf, decide_eq_true rfl]
    rcases hm with rfl | rfl
    · exact ⟨true, two, fun _ a ha => end_ (by decide +kernel) hf ht hd q, fun z => nomatch z⟩
    · exact ⟨false, one (by decide) (by decide), (fun z => nomatch z), fun _ => ⟨true, two, fun _ a ha => end_ (by decide +kernel) hf ht hd q, fun z => nomatch z⟩⟩
end
end U
namespace U
open PySem PySem.Spec PyProof.Rows L2

/-! ### tables with some numbers lowered -/
def setF (f : Lvl) (w : Nat × Nat) (o : Option Int) : Lvl := fun i j => if i = w.1 ∧ j = w.2 then o else f i j
theorem setF_put {f : Lvl} {w : Nat × Nat} {o : Option Int} (h : w ∈ waysN) : putK (wayD f) (.inr (wd [w.1, w.2])) (pV o) = wayD (setF f w o) := by
  unfold waysN at h
  simp only [List.mem_cons, List.not_mem_nil, or_false] at h
  rcases h with rfl | rfl | rfl | rfl | rfl | rfl <;> rfl
/-- nothing above the first one, nothing below zero -/
def LowL (f0 f : Lvl) : Prop := ∀ i j, i < 3 → j < 3 → i ≠ j → aboveO (f i j) (f0 i j) = false ∧ ∀ v, f i j = some v → 0 ≤ v ∧ (f0 i j = none → v ≤ 10)
theorem LowL.set {f0 f : Lvl} {w : Nat × Nat} {v : Int} (h : LowL f0 f) (e : ∀ u, f0 w.1 w.2 = some u → v ≤ u) (v0 : 0 ≤ v) (v9 : f0 w.1 w.2 = none → v ≤ 10) : LowL f0 (setF f w (some v)) := by
  intro i j hi hj n
  unfold setF
  by_cases q : i = w.1 ∧ j = w.2
  · rw [if_pos q]
    obtain ⟨q1, q2⟩ := q
    subst q1 q2
    refine ⟨?_, fun u eu => by injection eu with eu; subst eu; exact ⟨v0, v9⟩⟩
    cases z : f0 w.1 w.2 with
    | none => rfl
    | some u => exact decide_eq_false (by have := e u z; omega)
  · rw [if_neg q]
    exact h i j hi hj n
theorem osum_nn : ∀ {os : List (Option Int)} {s : Int}, (∀ o ∈ os, ∀ v, o = some v → 0 ≤ v) → osum os = some s → 0 ≤ s
  | [], s, _, e => by injection e with e; omega
  | none :: _, s, _, e => by cases e
  | some a :: r, s, h, e => by
    have e : (osum r).map (a + ·) = some s := e
    obtain ⟨t, et, rfl⟩ := Option.map_eq_some_iff.mp e
    have h1 := h (some a) List.mem_cons_self a rfl
    have h2 := osum_nn (fun o m => h o (List.mem_cons_of_mem _ m)) et
    omega
theorem omin_nn {a b : Option Int} {s : Int} (ha : ∀ v, a = some v → 0 ≤ v) (hb : ∀ v, b = some v → 0 ≤ v) (e : omin a b = some s) : 0 ≤ s := by
  cases a with
  | none => exact hb s e
  | some u =>
    cases b with
    | none =>
      injection e with e
      have := ha u rfl
      omega
    | some v =>
      injection e with e
      have := ha u rfl
      have := hb v rfl
      omega
theorem step_nn {p D : Lvl} (hp : ∀ i j v, i < 3 → j < 3 → i ≠ j → p i j = some v → 0 ≤ v) (hd : ∀ i j v, i < 3 → j < 3 → i ≠ j → D i j = some v → 0 ≤ v) : ∀ i j v, i < 3 → j < 3 → i ≠ j → stepO p D i j = some v → 0 ≤ v := by
  intro i j v hi hj n e
  have ht : 3 - i - j < 3 ∧ i ≠ 3 - i - j ∧ 3 - i - j ≠ j := by omega
  refine omin_nn (fun s es => osum_nn (fun o m u eo => ?_) es) (fun s es => osum_nn (fun o m u eo => ?_) es) e
  · simp only [List.mem_cons, List.not_mem_nil, or_false] at m
    rcases m with rfl | rfl | rfl
    · exact hd _ _ u hi ht.1 ht.2.1 eo
    · exact hp _ _ u hi hj n eo
    · exact hd _ _ u ht.1 hj ht.2.2 eo
  · simp only [List.mem_cons, List.not_mem_nil, or_false] at m
    rcases m with rfl | rfl | rfl | rfl | rfl
    · exact hd _ _ u hi hj n eo
    · exact hp _ _ u hi ht.1 ht.2.1 eo
    · exact hd _ _ u hj hi n.symm eo
    · exact hp _ _ u ht.1 hj ht.2.2 eo
    · exact hd _ _ u hi hj n eo
theorem above_self (o : Option Int) : aboveO o o = false := by
  cases o with
  | none => rfl
  | some a => exact decide_eq_false (Int.lt_irrefl a)
/-- each table is the line's, or lower -/
def LowFs (rows : List (List (Option Int))) (fs : List Lvl) : Prop := fs[0]? = some zeroL ∧ ∀ (k : Nat) r f g, rows.reverse[k]? = some r → fs[k]? = some f → fs[k + 1]? = some g → LowL (stepO (prF r) f) g
/-- new tables under way beside a box -/
def TabO (b : Addr) (H0 H : Hp) (l : Addr) (fs : List Lvl) : Prop := Off b H0 H ∧ (H0 l = none ∧ l ≠ b ∧ ∃ ls : List Addr, H l = some (.lst (ls.map V.ref)) ∧ (ls.length = fs.length ∧ ((∀ (k : Nat) (d : Addr) (f : Lvl), ls[k]? = some d → fs[k]? = some f → H d = some (.dK (wayD f)) ∧ d ≠ b) ∧ (ls.Nodup ∧ l ∉ ls ∧ ∀ d ∈ ls, H0 d = none))))
def sp__law_lowered (K : PySem.W.Frag) : Sp := sp2 fun x y H Q _ => ∃ b m L as rows, x = .ref b ∧ Bx H b m ∧ m ≤ 800000 ∧ y = .ref L ∧ PI H L b as rows ∧ rows.length ≤ 60 ∧ ∀ l fs H', Bx H' b (m + 720) → TabO b H H' l fs → fs.length = rows.length + 1 → LowFs rows fs → Q (.ref l) H'
def t__law_lowered (K : PySem.W.Frag) (E : XK) : TS := (tSeq (tAsg (tLst (tCons (tCB (rDictP K) (tCons (tLc (iSeq K (tC (.ref (He.ga K "WAYS")))) (gName 2) tYes (tTup (tCons (tVar 2) (tCons (tC (.int 0)) tNil))) [2]) tNil)) tNil)) (gName 3)) (tSeq (tFor (iSeq K (tRevL K (tVar 1))) (gName 4) (tSeq (tAsg (tFn (sp__law_level K) E (tCons (tVar 4) (tCons (tOp (uIx K) (tVar 3) (tUn (rU fun i => .int (-i)) (tC (.int 1)))) tNil))) (gName 5)) (tSeq (tFor (iSeq K (tC (.ref (He.ga K "WAYS")))) (gName 2) (tSeq (tPar 6 7 (tCons (tDGet (tVar 5) (tVar 2)) (tCons (tFn (sp__law_take K) E (tCons (tVar 0) (tCons (tC (.int 4)) tNil))) tNil))) (tIfS (tTest (tOp (uEq K) (tVar 7) (tC (.int 0)))) (tAsg (tIf (tTest (tOp uIs (tVar 6) (tC .non))) (tFn (sp__law_take K) E (tCons (tVar 0) (tCons (tC (.int 9)) tNil))) (tCB uMax2 (tCons (tC (.int 0)) (tCons (tOp uSub (tOp uSub (tVar 6) (tC (.int 1))) (tFn (sp__law_take K) E (tCons (tVar 0) (tCons (tC (.int 9)) tNil)))) tNil)))) (gSub (tVar 5) (tVar 2) rSetD)) tNext))) (tDrop (tBM K "list" rAppend (tVar 3) (tCons (tVar 5) tNil)))))) (tRet (tVar 3))))
def Off2 (c t : Addr) (H H' : Hp) : Prop := ∀ b o, b ≠ c → b ≠ t → H b = some o → H' b = some o
theorem Off2.trans {c t : Addr} {H H' H2 : Hp} (h : Off2 c t H H') (g : Off2 c t H' H2) : Off2 c t H H2 := fun b o n m e => g b o n m (h b o n m e)
theorem Off2.c {c t : Addr} {H H' : Hp} (h : Off c H H') : Off2 c t H H' := fun b o n _ e => h b o n e
theorem Off2.t {c t : Addr} {H H' : Hp} (h : Off t H H') : Off2 c t H H' := fun b o _ n e => h b o n e
section
variable {K : PySem.W.Frag} (F : KF K) {vs : List V} {H : Hp} {Q : VK} {E : XK}
local macro_rules | `(tactic| walk_at "w") => `(tactic| try simp only [turnE, lcT, Snoc, tRet, tRetN, tAndV, tOrV, tNotV, tCB, tCons, tVar, tNil, tC, tOp, tSeq, tAsg, gName, gSub, tIfS, tDrop, tFn, tTup, tLst, tNext, tB, tTest, tNot, tAnd, tOr, tIf, tChain, tUn, rU, tFld, tPart, tNoPart, L2.tSl, tBM, tPar, tPar3, tTruth, tDNewK,
  L2.start, List.map_cons, List.map_nil, List.length_cons, List.length_nil, List.replicate_succ, List.replicate_zero, List.append_nil, List.nil_append, List.cons_append, List.singleton_append, Nat.sub_self, Nat.zero_add, Nat.reduceAdd, Nat.reduceSub,
  List.getElem?_cons_zero, List.getElem?_cons_succ, List.set_cons_zero, List.set_cons_succ, Option.some.injEq, exists_eq_left, exists_eq_left', V.int.injEq, V.bl.injEq, V.str.injEq, V.ref.injEq,
  uAdd_int, uAdd_str, uSub_int, uMul_int, uMul_str, uDiv_int, uMod_int, uPow_int, uLt_int, uLe_int, uGt_int, uGe_int, uIs_non, uNis_non, uIs_bl, uNis_bl, sp1, sp2, sp3, sp4, uEq_int, uEq_str, uNe_int, uNe_str, uSl_str, uLen_str, decide_eq_true_eq])
local macro_rules | `(tactic| walk_at "1") => `(tactic| try simp only [turnE, lcT, Snoc, tRet, tRetN, tAndV, tOrV, tNotV, tCB, tCons, tVar, tNil, tC, tOp, tAsg, gName, gSub, tIfS, tDrop, tFn, tTup, tLst, tNext, tB, tTest, tNot, tAnd, tOr, tIf, tChain, tUn, rU, tFld, tPart, tNoPart, L2.tSl, tBM, tPar, tPar3, tTruth, tDNewK,
  L2.start, List.map_cons, List.map_nil, List.length_cons, List.length_nil, List.replicate_succ, List.replicate_zero, List.append_nil, List.nil_append, List.cons_append, List.singleton_append, Nat.sub_self, Nat.zero_add, Nat.reduceAdd, Nat.reduceSub,
  List.getElem?_cons_zero, List.getElem?_cons_succ, List.set_cons_zero, List.set_cons_succ, Option.some.injEq, exists_eq_left, exists_eq_left', V.int.injEq, V.bl.injEq, V.str.injEq, V.ref.injEq,
  uAdd_int, uAdd_str, uSub_int, uMul_int, uMul_str, uDiv_int, uMod_int, uPow_int, uLt_int, uLe_int, uGt_int, uGe_int, uIs_non, uNis_non, uIs_bl, uNis_bl, sp1, sp2, sp3, sp4, uEq_int, uEq_str, uNe_int, uNe_str, uSl_str, uLen_str, decide_eq_true_eq])
local macro_rules | `(tactic| walk_at "s") => `(tactic| ((try dsimp only [turnE]); with_reducible refine seq_ ?_))

theorem tFor_seqT' {t : TE} {g : TG} {tb : TS} {D : Ends} {σ : L2.St} {p : Addr} {xs : List V} (h : SqT K H p xs) (ht : ∀ Q : VK, t σ H Q = Q (.ref p) H) (hc : tFor (fun _ H' R => R (Itt K p) H') g tb D σ H) : tFor (iSeq K t) g tb D σ H := by
  refine .inr ?_
  show t σ H _
  rw [ht]
  exact ⟨p, rfl, ⟨_, h⟩, hc⟩
include F in
theorem lower_ways {b L l d : Addr} {m : Int} {f0 : Lvl} {x2 x4 x6 x7 : Option V} {D : Ends} (hb : Bx H b m) (hm : m ≤ 900000) (hd : H d = some (.dK (wayD f0))) (db : d ≠ b) (low : LowL f0 f0)
    (q : ∀ f x2 x6 x7 H', Off2 b d H H' → Bx H' b (m + 12) → H' d = some (.dK (wayD f)) → LowL f0 f → D.nx [some (.ref b), some (.ref L), x2, some (.ref l), x4, some (.ref d), x6, x7] H') :
    (tFor (iSeq K (tC (.ref (He.ga K "WAYS")))) (gName 2) (tSeq (tPar 6 7 (tCons (tDGet (tVar 5) (tVar 2)) (tCons (tFn (sp__law_take K) E (tCons (tVar 0) (tCons (tC (.int 4)) tNil))) tNil))) (tIfS (tTest (tOp (uEq K) (tVar 7) (tC (.int 0)))) (tAsg (tIf (tTest (tOp uIs (tVar 6) (tC .non))) (tFn (sp__law_take K) E (tCons (tVar 0) (tCons (tC (.int 9)) tNil))) (tCB uMax2 (tCons (tC (.int 0)) (tCons (tOp uSub (tOp uSub (tVar 6) (tC (.int 1))) (tFn (sp__law_take K) E (tCons (tVar 0) (tCons (tC (.int 9)) tNil)))) tNil)))) (gSub (tVar 5) (tVar 2) rSetD)) tNext))) D [some (.ref b), some (.ref L), x2, some (.ref l), x4, some (.ref d), x6, x7] H := by
  refine tFor_seqT' (F.ways H) (fun Q => rfl) ?_
  refine laps_of (plain_T (K := K) (a := He.ga K "WAYS") (xs := waysN.map fun w => V.str (wd [w.1, w.2]))) (fun k τ H' => ∃ f x2 x6 x7, τ = [some (.ref b), some (.ref L), x2, some (.ref l), x4, some (.ref d), x6, x7] ∧ Off2 b d H H' ∧ Bx H' b (m + 2 * (k : Nat)) ∧ H' d = some (.dK (wayD f)) ∧ LowL f0 f)
    ⟨f0, _, _, _, rfl, fun _ _ _ _ e => e, hb.mono (by omega), hd, low⟩ (fun i τ H' _ => ways6V ▸ F.ways H') ?_ ?_
  · rintro k x τ H1 hx ⟨f, y2, y6, y7, rfl, o1, b1, d1, lw⟩
    rw [List.getElem?_map] at hx
    obtain ⟨w, hw, rfl⟩ := Option.map_eq_some_iff.mp hx
    have mw := List.mem_of_getElem? hw
    obtain ⟨w1, w2, w3⟩ := waysN_ok w mw
    have k6 : k < 6 := by have := (List.getElem?_eq_some_iff.mp hw).1; exact this
    simp only [gName, List.set_cons_zero, List.set_cons_succ]
    walk_at "s"
    walk_at "1"
    simp only [tDGet]
    walk_at "1"
    refine ⟨d, _, rfl, dget_wayD d1 w1 w2 w3, ?_⟩
    refine take_of b1 (by omega) (by omega) (by omega) fun t H2 t0 t4 o2 b2 => ?_
    have d2 := o2 _ _ db d1
    have o02 := o1.trans (Off2.c o2)
    walk_at "1"
    refine ⟨_, _, rfl, ?_⟩
    obtain ⟨ab, nn⟩ := lw w.1 w.2 w1 w2 w3
    have e12 : m + 2 * ((k : Nat) : Int) + 1 + 1 = m + 2 * ((k + 1 : Nat) : Int) := by omega
    have put : ∀ {v : Int} {H3 : Hp}, Off b H2 H3 → Bx H3 b (m + 2 * ((k : Nat) : Int) + 1 + 1) → (∀ u, f0 w.1 w.2 = some u → v ≤ u) → 0 ≤ v → (f0 w.1 w.2 = none → v ≤ 10) → rSetD (.ref d) (.str (wd [w.1, w.2])) (.int v) H3 fun H4 => ∃ f' x2 x6 x7,
        [some (.ref b), some (.ref L), some (.str (wd [w.1, w.2])), some (.ref l), x4, some (.ref d), some (pV (f w.1 w.2)), some (.int t)] = [some (V.ref b), some (.ref L), x2, some (.ref l), x4, some (.ref d), x6, x7] ∧ Off2 b d H H4 ∧ Bx H4 b (m + 2 * ((k + 1 : Nat) : Int)) ∧ H4 d = some (.dK (wayD f')) ∧ LowL f0 f' := fun {v H3} o3 b3 le v0 v9 => by
      have d3 := o3 _ _ db d2
      refine ⟨d, _, rfl, DPut.k (k := .inr (wd [w.1, w.2])) d3 (by show 6 < sizeLine; decide), setF f w (some v), _, _, _, rfl, (o02.trans (Off2.c o3)).trans (Off2.t off_upd), ?_, ?_, lw.set le v0 v9⟩
      · rw [← e12]
        exact Bx.upd b3 db
      · rw [upd_same]
        exact congrArg (fun z => some (HO.dK z)) (setF_put (o := some v) mw)
    have stay : ∃ f' x2 x6 x7, [some (.ref b), some (.ref L), some (.str (wd [w.1, w.2])), some (.ref l), x4, some (.ref d), some (pV (f w.1 w.2)), some (.int t)] = [some (V.ref b), some (.ref L), x2, some (.ref l), x4, some (.ref d), x6, x7] ∧ Off2 b d H H2 ∧ Bx H2 b (m + 2 * ((k + 1 : Nat) : Int)) ∧ H2 d = some (.dK (wayD f')) ∧ LowL f0 f' :=
      ⟨f, _, _, _, rfl, o02, b2.mono (by omega), d2, lw⟩
    refine ⟨_, rfl, ?_⟩
    by_cases z : t = 0
    · rw [if_pos (decide_eq_true z)]
      cases e : f w.1 w.2 with
      | none =>
        rw [e] at put ab
        rw [if_pos (show pV none = V.non from rfl)]
        refine take_of b2 (by omega) (by omega) (by omega) fun u H3 u0 u9 o3 b3 => put o3 b3 (fun a ea => ?_) u0 (fun _ => by omega)
        rw [ea] at ab
        cases ab
      | some v =>
        rw [e] at put ab
        rw [if_neg (by intro z; cases z)]
        obtain ⟨v0, v9⟩ := nn v e
        walk_at "1"
        refine take_of (K := K) b2 (by omega) (by omega) (by omega) fun u H3 u0 u9 o3 b3 => ?_
        walk_at "1"
        refine ⟨_, _, rfl, put o3 b3 (fun a ea => ?_) ?_ (fun z => by have := v9 z; split <;> omega)⟩
        · rw [ea] at ab
          have : ¬ a < v := of_decide_eq_false ab
          split <;> omega
        · split <;> omega
    · rw [if_neg (by simpa using z)]
      exact stay
  · rintro τ H1 ⟨f, y2, y6, y7, rfl, o1, b1, d1, lw⟩
    exact q f _ _ _ H1 o1 (b1.mono (by show m + 2 * ((6 : Nat) : Int) ≤ m + 12; omega)) d1 lw
include F in
theorem read__law_lowered (h : sp__law_lowered K vs H Q E) : t__law_lowered K E { nx := fun _ H' => Q .non H', rt := Q } (start ["_law_bag_here", "_law_rows_here", "_law_way", "_law_found", "_law_line", "_law_best", "_law_number", "_law_less"] vs) H := by
  match vs, h with
  | [_, _], ⟨b, m, L, as, rows, rfl, hb, hm, rfl, pi, h60, q⟩ =>
    obtain ⟨p1, p2, p3, p4, p5⟩ := id pi
    unfold t__law_lowered
    walk_at "s"
    simp only [tAsg]
    walk_at "1"
    refine over_ways F (fun Q => rfl) fun J G P hG C nC => ?_
    refine zero_lap (by show 2 < 8; decide) P hG nC fun d0 H2 s2 nd0 gd0 => ?_
    refine ⟨by decide, fun l nl => ?_⟩
    have g1 : TabO b H (upd H2 l (.lst [.ref d0])) l [zeroL] := by
      have dl : d0 ≠ l := by rintro rfl; rw [gd0] at nl; cases nl
      refine ⟨Same.off (s2.trans (same_new nl)), s2.free nl, (hb.same s2).ne nl, [d0], upd_same, rfl, fun k a f e1 e2 => ?_, by simp, by simpa using dl.symm, fun a m => ?_⟩
      · match k, e1, e2 with
        | 0, e1, e2 =>
          cases e1; cases e2
          rw [upd_ne dl]
          exact ⟨gd0, hb.ne nd0⟩
        | k + 1, e1, _ => cases e1
      · rw [List.mem_singleton.mp m]
        exact nd0
    have hb3 : Bx (upd H2 l (.lst [.ref d0])) b m := hb.same (s2.trans (same_new nl))
    generalize upd H2 l (.lst [.ref d0]) = H3 at *
    walk_at "s"
    refine tFor_seqL ?_
    walk_at "1"
    refine ⟨_, rfl, L, _, rfl, .inl (.inl (pi.off g1.1).1), fun R nR => ⟨R, rfl, ⟨_, .inl (.inl upd_same)⟩, ?_⟩⟩
    have g2 : TabO b H (upd H3 R (.lst (as.map V.ref).reverse)) l [zeroL] := by
      obtain ⟨o, n1, n2, ls, h1, h2, h3, h4⟩ := g1
      have sR : Same H3 (upd H3 R (.lst (as.map V.ref).reverse)) := same_new nR
      exact ⟨o.trans (Same.off sR), n1, n2, ls, sR _ _ h1, h2, fun k d f z1 z2 => ⟨sR _ _ (h3 k d f z1 z2).1, (h3 k d f z1 z2).2⟩, h4⟩
    have hb4 : Bx (upd H3 R (.lst (as.map V.ref).reverse)) b m := hb3.same (same_new nR)
    have gR : upd H3 R (.lst (as.map V.ref).reverse) R = some (.lst (as.map V.ref).reverse) := upd_same
    have Rb : R ≠ b := hb3.ne nR
    have Rl : R ≠ l := by
      rintro rfl
      obtain ⟨_, _, _, _, z, _⟩ := g1
      rw [z] at nR
      cases nR
    generalize upd H3 R (.lst (as.map V.ref).reverse) = H4 at *
    refine laps_of (plain_L (K := K) (a := R) (xs := (as.map V.ref).reverse)) (fun k τ H' => ∃ fs x2 x4 x5 x6 x7, τ = [some (.ref b), some (.ref L), x2, some (.ref l), x4, x5, x6, x7] ∧ H' R = some (.lst (as.map V.ref).reverse) ∧ Bx H' b (m + 12 * (k : Nat)) ∧ TabO b H H' l fs ∧ fs.length = k + 1 ∧ fs[0]? = some zeroL ∧
        (∀ (j : Nat) r f g, rows.reverse[j]? = some r → fs[j]? = some f → fs[j + 1]? = some g → LowL (stepO (prF r) f) g) ∧ ∀ f ∈ fs, ∀ i j v, i < 3 → j < 3 → i ≠ j → f i j = some v → 0 ≤ v)
      ⟨[zeroL], _, _, _, _, _, rfl, gR, hb4.mono (by omega), g2, rfl, rfl, (fun j r f g _ _ z => by cases j <;> cases z), fun f mf i j v _ _ _ e => by rw [List.mem_singleton.mp mf] at e; injection e with e; omega⟩ (fun i τ H' z => by
        obtain ⟨_, _, _, _, _, _, _, zR, _⟩ := z
        exact .inl (.inl zR)) ?_ ?_
    · rintro k x τ H5 hx ⟨fs, x2, x4, x5, x6, x7, rfl, gR5, b5, g5, l5, z5, lw5, nn5⟩
      have lk : k < rows.length := by
        have := (List.getElem?_eq_some_iff.mp hx).1
        rw [List.length_reverse, List.length_map] at this
        omega
      rw [← List.map_reverse, List.getElem?_map] at hx
      obtain ⟨a, hka, rfl⟩ := Option.map_eq_some_iff.mp hx
      have ia : as[rows.length - 1 - k]? = some a := by
        rw [List.getElem?_reverse (by omega)] at hka
        rw [← p3]
        exact hka
      obtain ⟨r, hr⟩ : ∃ r, rows[rows.length - 1 - k]? = some r := ⟨_, List.getElem?_eq_getElem (by omega)⟩
      have hrr : rows.reverse[k]? = some r := by rw [List.getElem?_reverse lk]; exact hr
      have mr := List.mem_of_getElem? hr
      obtain ⟨o5, n5, nb5, ls, gl, ll, at5, nd5, nl5, fr5⟩ := id g5
      have sa := ((pi.off o5).2.2.2.2 _ a r ia hr).1
      have r6 := (p4 r mr).1
      have rp : ∀ i j v, i < 3 → j < 3 → i ≠ j → prF r i j = some v → 0 ≤ v := fun i j v _ _ _ e => by
        have := List.all_eq_true.mp (p4 r mr).2 _ (prF_mem e)
        exact Int.le_of_lt (of_decide_eq_true this).1
      have lls : ls.length = k + 1 := by rw [ll, l5]
      have hlast : ls[k]? = some (ls[k]'(by omega)) := List.getElem?_eq_getElem _
      have ef : fs[k]? = some (fs[k]'(by omega)) := List.getElem?_eq_getElem _
      have gd := (at5 k _ _ hlast ef).1
      have nnk := nn5 _ (List.getElem_mem (show k < fs.length by omega))
      generalize hfk : fs[k]'(by omega) = fk at *
      simp only [gName, List.set_cons_zero, List.set_cons_succ]
      walk_at "s"
      walk_at "1"
      refine uIx_lst gl (at_end (n := k) (by rw [List.length_map, lls]) (by rw [List.getElem?_map, hlast]; rfl)) ?_
      refine ⟨a, _, r, fk, rfl, .inl (.inl sa), r6, rfl, tb_way gd, fun d H6 s6 nd gd6 => ?_⟩
      have nn6 := step_nn rp nnk
      have b6 := b5.same s6
      have db : d ≠ b := b5.ne nd
      walk_at "s"
      refine lower_ways F b6 (by omega) gd6 db (fun i j hi hj n => ⟨above_self _, fun v e => ⟨nn6 i j v hi hj n e, fun z => by rw [z] at e; cases e⟩⟩) fun f y2 y6 y7 H7 o7 b7 gd7 low7 => ?_
      have dl : d ≠ l := by rintro rfl; rw [gl] at nd; cases nd
      have dR : d ≠ R := by rintro rfl; rw [gR5] at nd; cases nd
      have dn : d ∉ ls := fun mem => by
        obtain ⟨j, hj, e⟩ := List.mem_iff_getElem.mp mem
        have z := (at5 j d (fs[j]'(by omega)) (by rw [← e]; exact List.getElem?_eq_getElem hj) (List.getElem?_eq_getElem _)).1
        rw [nd] at z
        cases z
      have keep : ∀ {p : Addr} {o : HO}, p ≠ b → p ≠ d → H5 p = some o → H7 p = some o := fun n1 n2 e => o7 _ _ n1 n2 (s6 _ _ e)
      have gl7 := keep nb5 dl.symm gl
      have gR7 := keep Rb dR.symm gR5
      walk_at "1"
      refine ⟨tyL gl7, app_of gl7 (by rw [List.length_map, lls]; omega) ⟨fs ++ [f], _, _, _, _, _, rfl, ?_, ?_, ⟨?_, n5, nb5, ls ++ [d], by rw [upd_same]; simp, by simp [ll], fun j c g e1 e2 => ?_, ?_, ?_, ?_⟩, by simp [l5], ?_, ?_, ?_⟩⟩
      · rw [upd_ne Rl]
        exact gR7
      · have : m + 12 * ((k : Nat) : Int) + 12 = m + 12 * ((k + 1 : Nat) : Int) := by omega
        rw [← this]
        exact Bx.upd b7 nb5.symm.symm
      · intro p o n e
        by_cases pl : p = l
        · subst pl
          rw [n5] at e
          cases e
        · rw [upd_ne pl]
          have e5 := o5 _ _ n e
          exact keep n (by rintro rfl; rw [nd] at e5; cases e5) e5
      · by_cases lt : j < ls.length
        · rw [List.getElem?_append_left lt] at e1
          rw [List.getElem?_append_left (by omega)] at e2
          obtain ⟨z, zb⟩ := at5 j c g e1 e2
          have cd : c ≠ d := fun e => dn (e ▸ List.mem_of_getElem? e1)
          rw [upd_ne (by rintro rfl; rw [gl] at z; cases z)]
          exact ⟨keep zb cd z, zb⟩
        · have ej : j = ls.length := by
            have := (List.getElem?_eq_some_iff.mp e1).1
            simp at this
            omega
          subst ej
          rw [List.getElem?_append_right (Nat.le_refl _), Nat.sub_self] at e1
          rw [List.getElem?_append_right (by omega), ll, Nat.sub_self] at e2
          cases e1
          cases e2
          rw [upd_ne dl]
          exact ⟨gd7, db⟩
      · exact List.nodup_append.mpr ⟨nd5, (by simp), fun a1 m1 a2 m2 => by rw [List.mem_singleton.mp m2]; exact fun e => dn (e ▸ m1)⟩
      · intro mem
        rcases List.mem_append.mp mem with mem | mem
        · exact nl5 mem
        · exact dl (List.mem_singleton.mp mem).symm
      · intro c mem
        rcases List.mem_append.mp mem with mem | mem
        · exact fr5 c mem
        · rw [List.mem_singleton.mp mem]
          cases e : H d with
          | none => rfl
          | some o => have := o5 _ _ db e; rw [nd] at this; cases this
      · rw [List.getElem?_append_left (by omega)]
        exact z5
      · intro j r' f' g' e1 e2 e3
        by_cases lt : j + 1 < fs.length
        · rw [List.getElem?_append_left (by omega)] at e2 e3
          exact lw5 j r' f' g' e1 e2 e3
        · have ej : j = k := by
            have := (List.getElem?_eq_some_iff.mp e3).1
            simp at this
            omega
          subst ej
          rw [List.getElem?_append_left (by omega), ef] at e2
          rw [List.getElem?_append_right (by omega), l5, Nat.sub_self] at e3
          rw [hrr] at e1
          cases e1
          cases e2
          cases e3
          exact low7
      · intro g mg i j v hi hj n e
        rcases List.mem_append.mp mg with mg | mg
        · exact nn5 g mg i j v hi hj n e
        · rw [List.mem_singleton.mp mg] at e
          exact ((low7 i j hi hj n).2 v e).1
    · rintro τ H5 ⟨fs, x2, x4, x5, x6, x7, rfl, gR5, b5, g5, l5, z5, lw5, nn5⟩
      rw [List.length_reverse, List.length_map, p3] at b5 l5
      walk_at "1"
      exact q l fs H5 (b5.mono (by omega)) g5 l5 ⟨z5, lw5⟩
end
end U
namespace U
open PySem PySem.Spec PyProof.Rows L2

/-! ### tables that a law makes are papers -/
theorem lvl_way (f : Lvl) {i j : Nat} (hi : i < 3) (hj : j < 3) (n : i ≠ j) : lvlK (wayD f) i j = f i j := by
  have e : gotV (wayD f) (i, j) = pV (f i j) := by
    unfold gotV
    show (valV (wayD f) (.inr (wd [i, j]))).getD (.bl false) = _
    rw [val_wayD f hi hj n]
    rfl
  unfold lvlK
  rw [e]
  cases f i j <;> rfl
theorem lev_way {f : Lvl} (h : ∀ i j v, i < 3 → j < 3 → i ≠ j → f i j = some v → 0 ≤ v) : levB (wayD f) = true := by
  unfold levB
  rw [show (wayD f).length = 6 from rfl, decide_eq_true rfl, Bool.true_and]
  refine List.all_eq_true.mpr fun w mw => ?_
  obtain ⟨w1, w2, w3⟩ := waysN_ok w mw
  unfold gotV
  rw [val_wayD f w1 w2 w3]
  show okC (pV (f w.1 w.2)) = true
  cases e : f w.1 w.2 with
  | none => rfl
  | some v => exact decide_eq_true (h _ _ v w1 w2 w3 e)
theorem way_nodup (f : Lvl) : ((wayD f).map (·.1)).Nodup := by
  have e : (wayD f).map (·.1) = waysN.map fun w => (Sum.inr (wd [w.1, w.2]) : Key) := by
    unfold wayD
    rw [List.map_map]
    rfl
  rw [e]
  decide +kernel
theorem dc_way {K : PySem.W.Frag} {H : Hp} {d : Addr} {f : Lvl} (h : H d = some (.dK (wayD f))) : DcV K H d (wayD f) := ⟨h, fun p mp => by
  unfold wayD at mp
  obtain ⟨w, _, rfl⟩ := List.mem_map.mp mp
  cases f w.1 w.2 <;> trivial, way_nodup f⟩
theorem lv_tables {K : PySem.W.Frag} {H : Hp} {l : Addr} {fs : List Lvl} (h : LvT H l fs) (nn : ∀ f ∈ fs, ∀ i j v, i < 3 → j < 3 → i ≠ j → f i j = some v → 0 ≤ v) : LvG K H l (fs.map wayD) := by
  obtain ⟨ls, l1, l2, l3, l4⟩ := h
  refine ⟨ls, .inl (.inl (.inl l1)), by rw [List.length_map, l2], fun k d ks e1 e2 => ?_, l4⟩
  rw [List.getElem?_map] at e2
  obtain ⟨f, ef, rfl⟩ := Option.map_eq_some_iff.mp e2
  exact ⟨dc_way (l3 k d f e1 ef), lev_way (nn f (List.mem_of_getElem? ef))⟩
theorem low_paper {rows : List (List (Option Int))} {fs : List Lvl} (ln : fs.length = rows.length + 1) (h : LowFs rows fs) : paperB rows (fs.map wayD) = true := by
  unfold paperB
  refine List.all_eq_true.mpr fun k mk => List.all_eq_true.mpr fun w mw => ?_
  have lk := List.mem_range.mp mk
  obtain ⟨w1, w2, w3⟩ := waysN_ok w mw
  have er : rows.reverse[k]? = some (rows.reverse[k]'(by rw [List.length_reverse]; exact lk)) := List.getElem?_eq_getElem _
  have e0 : fs[k]? = some (fs[k]'(by omega)) := List.getElem?_eq_getElem _
  have e1 : fs[k + 1]? = some (fs[k + 1]'(by omega)) := List.getElem?_eq_getElem _
  have low := (h.2 k _ _ _ er e0 e1 w.1 w.2 w1 w2 w3).1
  rw [List.getElem?_map, List.getElem?_map, e0, e1, er]
  show (!aboveO (lvlK (wayD _) w.1 w.2) (stepO (prF _) (lvlK (wayD _)) w.1 w.2)) = true
  rw [lvl_way _ w1 w2 w3]
  have st : stepO (prF (rows.reverse[k]'(by rw [List.length_reverse]; exact lk))) (lvlK (wayD (fs[k]'(by omega)))) w.1 w.2 = stepO (prF (rows.reverse[k]'(by rw [List.length_reverse]; exact lk))) (fs[k]'(by omega)) w.1 w.2 := by
    have ht : 3 - w.1 - w.2 < 3 ∧ w.1 ≠ 3 - w.1 - w.2 ∧ 3 - w.1 - w.2 ≠ w.2 := by omega
    unfold stepO oline1 oline2
    rw [lvl_way _ w1 ht.1 ht.2.1, lvl_way _ ht.1 w2 ht.2.2, lvl_way _ w1 w2 w3, lvl_way _ w2 w1 w3.symm]
  rw [Option.getD_some, st, low]
  rfl
theorem own_low (rows : List (List (Option Int))) (nn : ∀ f ∈ ownL rows, ∀ i j v, i < 3 → j < 3 → i ≠ j → f i j = some v → 0 ≤ v) : LowFs rows (ownL rows) := by
  refine ⟨by rw [ownL_at (Nat.zero_le _)]; rfl, fun k r f g er e0 e1 => ?_⟩
  have lk : k < rows.length := by have := (List.getElem?_eq_some_iff.mp er).1; rwa [List.length_reverse] at this
  rw [ownL_at (by omega)] at e0 e1
  cases e0
  cases e1
  have me : towO rows (k + 1) ∈ ownL rows := List.mem_of_getElem? (ownL_at (by omega))
  have ng := nn _ me
  rw [towO_succ er] at ng ⊢
  exact fun i j hi hj n => ⟨above_self _, fun v e => ⟨ng i j v hi hj n e, fun z => by rw [z] at e; cases e⟩⟩
end U
namespace U
open PySem PySem.Spec PyProof.Rows L2

section
variable {K : PySem.W.Frag} (F : KF K) {vs : List V} {H : Hp} {Q : VK} {E : XK}
local macro_rules | `(tactic| walk_at "w") => `(tactic| try simp only [turnE, lcT, Snoc, tRet, tRetN, tAndV, tOrV, tNotV, tCB, tCons, tVar, tNil, tC, tOp, tSeq, tAsg, gName, gSub, tIfS, tDrop, tFn, tTup, tLst, tNext, tB, tTest, tNot, tAnd, tOr, tIf, tChain, tUn, rU, tFld, tPart, tNoPart, L2.tSl, tBM, tPar, tPar3, tTruth, tDNewK,
  L2.start, List.map_cons, List.map_nil, List.length_cons, List.length_nil, List.replicate_succ, List.replicate_zero, List.append_nil, List.nil_append, List.cons_append, List.singleton_append, Nat.sub_self, Nat.zero_add, Nat.reduceAdd, Nat.reduceSub,
  List.getElem?_cons_zero, List.getElem?_cons_succ, List.set_cons_zero, List.set_cons_succ, Option.some.injEq, exists_eq_left, exists_eq_left', V.int.injEq, V.bl.injEq, V.str.injEq, V.ref.injEq,
  uAdd_int, uAdd_str, uSub_int, uMul_int, uMul_str, uDiv_int, uMod_int, uPow_int, uLt_int, uLe_int, uGt_int, uGe_int, uIs_non, uNis_non, uIs_bl, uNis_bl, sp1, sp2, sp3, sp4, uEq_int, uEq_str, uNe_int, uNe_str, uSl_str, uLen_str, decide_eq_true_eq])
local macro_rules | `(tactic| walk_at "1") => `(tactic| try simp only [turnE, lcT, Snoc, tRet, tRetN, tAndV, tOrV, tNotV, tCB, tCons, tVar, tNil, tC, tOp, tAsg, gName, gSub, tIfS, tDrop, tFn, tTup, tLst, tNext, tB, tTest, tNot, tAnd, tOr, tIf, tChain, tUn, rU, tFld, tPart, tNoPart, L2.tSl, tBM, tPar, tPar3, tTruth, tDNewK,
  L2.start, List.map_cons, List.map_nil, List.length_cons, List.length_nil, List.replicate_succ, List.replicate_zero, List.append_nil, List.nil_append, List.cons_append, List.singleton_append, Nat.sub_self, Nat.zero_add, Nat.reduceAdd, Nat.reduceSub,
  List.getElem?_cons_zero, List.getElem?_cons_succ, List.set_cons_zero, List.set_cons_succ, Option.some.injEq, exists_eq_left, exists_eq_left', V.int.injEq, V.bl.injEq, V.str.injEq, V.ref.injEq,
  uAdd_int, uAdd_str, uSub_int, uMul_int, uMul_str, uDiv_int, uMod_int, uPow_int, uLt_int, uLe_int, uGt_int, uGe_int, uIs_non, uNis_non, uIs_bl, uNis_bl, sp1, sp2, sp3, sp4, uEq_int, uEq_str, uNe_int, uNe_str, uSl_str, uLen_str, decide_eq_true_eq])
local macro_rules | `(tactic| walk_at "s") => `(tactic| ((try dsimp only [turnE]); with_reducible refine seq_ ?_))

theorem get_ix0 {σ : L2.St} {s p q : Nat} {d : Addr} {f : Nat → Nat → Option Int} {i j k : Nat} (h1 : σ[s]? = some (some (.ref d))) (hp : σ[p]? = some (some (.str (wd [i, j])))) (hq : σ[q]? = some (some (.str (pl k)))) (hd : TbD H d f) (hi : i < 3) (hk : k < 3) (n : i ≠ k)
    (c : Q (pV (f i k)) H) : tDGet (tVar s) (tOp uAdd (tOp (uIx K) (tVar p) (tC (.int 0))) (tVar q)) σ H Q := by
  simp only [tDGet, tVar, tOp, tC]
  exact ⟨_, h1, _, hp, str_at2 (ds := [i, j]) (k := 0) (by show 2 ≤ 60; decide) (by show 0 < 2; decide) ⟨_, hq, by show 1 + 1 ≤ sizeLine; decide, d, _, rfl, hd.get hi hk n, c⟩⟩
theorem get_ix1 {σ : L2.St} {s p q : Nat} {d : Addr} {f : Nat → Nat → Option Int} {i j k : Nat} (h1 : σ[s]? = some (some (.ref d))) (hp : σ[p]? = some (some (.str (wd [i, j])))) (hq : σ[q]? = some (some (.str (pl k)))) (hd : TbD H d f) (hk : k < 3) (hj : j < 3) (n : k ≠ j)
    (c : Q (pV (f k j)) H) : tDGet (tVar s) (tOp uAdd (tVar q) (tOp (uIx K) (tVar p) (tC (.int 1)))) σ H Q := by
  simp only [tDGet, tVar, tOp, tC]
  exact ⟨_, h1, _, hq, _, hp, str_at2 (ds := [i, j]) (k := 1) (by show 2 ≤ 60; decide) (by show 1 < 2; decide) ⟨by show 1 + 1 ≤ sizeLine; decide, d, _, rfl, hd.get hk hj n, c⟩⟩
theorem get_keyv {σ : L2.St} {s p : Nat} {d : Addr} {f : Nat → Nat → Option Int} {i j : Nat} (h1 : σ[s]? = some (some (.ref d))) (hp : σ[p]? = some (some (.str (wd [i, j])))) (hd : TbD H d f) (hi : i < 3) (hj : j < 3) (n : i ≠ j)
    (k : Q (pV (f i j)) H) : tDGet (tVar s) (tVar p) σ H Q := by
  simp only [tDGet]
  exact ⟨_, h1, _, hp, d, _, rfl, hd.get hi hj n, k⟩
include F in
/-- the ways of one line on which a crate goes straight -/
theorem ways_line {a t b l : Addr} {r : List (Option Int)} {f : Lvl} {x0 x1 x2 x3 x4 x9 x10 x11 : Option V} {D : Ends} {H1 : Hp} (ha : SqL K H a (r.map pV)) (h6 : r.length = 6) (ht : TbD H t f) (hb : TbD H b (stepO (prF r) f)) (s1 : Same H H1) (nl : H l = none) (gl : H1 l = some (.lst []))
    (q : ∀ x9 x10 x11 H', Off l H1 H' → H' l = some (.lst ((waysN.filter (strO (prF r) f)).map wayV)) → D.nx [x0, x1, x2, x3, x4, some (.ref a), some (.ref t), some (.ref b), some (.ref l), x9, x10, x11] H') :
    (tFor (iSeq K (tC (.ref (He.ga K "WAYS")))) (gName 9) (tSeq (tAsg (tFn (sp__law_other K) E (tCons (tOp (uIx K) (tVar 9) (tC (.int 0))) (tCons (tOp (uIx K) (tVar 9) (tC (.int 1))) tNil))) (gName 10)) (tSeq (tAsg (tFn (sp__law_sum K) E (tCons (tLst (tCons (tDGet (tVar 6) (tOp uAdd (tOp (uIx K) (tVar 9) (tC (.int 0))) (tVar 10))) (tCons (tFn (sp__law_price K) E (tCons (tVar 5) (tCons (tOp (uIx K) (tVar 9) (tC (.int 0))) (tCons (tOp (uIx K) (tVar 9) (tC (.int 1))) tNil)))) (tCons (tDGet (tVar 6) (tOp uAdd (tVar 10) (tOp (uIx K) (tVar 9) (tC (.int 1))))) tNil)))) tNil)) (gName 11)) (tIfS (tAnd (tTest (tOp uNis (tVar 11) (tC .non))) (tTest (tOp (uEq K) (tVar 11) (tDGet (tVar 7) (tVar 9))))) (tDrop (tBM K "list" rAppend (tVar 8) (tCons (tVar 9) tNil))) tNext)))) D [x0, x1, x2, x3, x4, some (.ref a), some (.ref t), some (.ref b), some (.ref l), x9, x10, x11] H1 := by
  refine tFor_seqT' (F.ways H1) (fun Q => rfl) ?_
  refine laps_of (plain_T (K := K) (a := He.ga K "WAYS") (xs := waysN.map fun w => V.str (wd [w.1, w.2])))
    (fun i τ H' => ∃ o9 o10 o11, τ = [x0, x1, x2, x3, x4, some (.ref a), some (.ref t), some (.ref b), some (.ref l), o9, o10, o11] ∧ (H' l = some (.lst (((waysN.take i).filter (strO (prF r) f)).map wayV)) ∧ Off l H1 H'))
    ⟨_, _, _, rfl, gl, Off.refl⟩ (fun i τ H' _ => ways6V ▸ F.ways H') ?_ ?_
  · rintro i x τ H2 hx ⟨y9, y10, y11, rfl, g2, o2⟩
    rw [List.getElem?_map] at hx
    obtain ⟨w, hw, rfl⟩ := Option.map_eq_some_iff.mp hx
    have ok := waysN_ok w (List.mem_of_getElem? hw)
    obtain ⟨w1, w2, w3⟩ := id ok
    have tk : waysN.take (i + 1) = waysN.take i ++ [w] := by rw [List.take_succ, hw]; rfl
    simp only [gName, List.set_cons_zero, List.set_cons_succ]
    have f0 : ∀ {H : Hp} {Q : VK}, Q (.str (pl w.1)) H → uIx K (.str (wd [w.1, w.2])) (.int 0) H Q := fun {H Q} q => str_at2 (ds := [w.1, w.2]) (k := 0) (by show 2 ≤ 60; decide) (by show 0 < 2; decide) q
    have f1 : ∀ {H : Hp} {Q : VK}, Q (.str (pl w.2)) H → uIx K (.str (wd [w.1, w.2])) (.int 1) H Q := fun {H Q} q => str_at2 (ds := [w.1, w.2]) (k := 1) (by show 2 ≤ 60; decide) (by show 1 < 2; decide) q
    have t3 : 3 - w.1 - w.2 < 3 ∧ w.1 ≠ 3 - w.1 - w.2 ∧ 3 - w.1 - w.2 ≠ w.2 := by omega
    walk_at "s"
    walk_at "1"
    refine f0 (f1 ⟨w.1, w.2, rfl, rfl, w1, w2, w3, fun H3 s3 => ?_⟩)
    have sH : Same H H3 := ((Off.trans (Same.off s1) o2).same nl).trans s3
    walk_at "s"
    walk_at "1"
    refine get_ix0 rfl rfl rfl (ht.same sH) w1 t3.1 t3.2.1 ?_
    refine f0 (f1 ⟨a, r, w.1, w.2, rfl, Same.seq sH ha, h6, rfl, rfl, w1, w2, w3, fun H4 s4 => ?_⟩)
    refine get_ix1 rfl rfl rfl ((ht.same sH).same s4) t3.1 w2 t3.2.2 ?_
    refine ⟨by decide, fun S nS => ?_⟩
    refine ⟨S, [f w.1 (3 - w.1 - w.2), prF r w.1 w.2, f (3 - w.1 - w.2) w.2], rfl, .inl (.inl upd_same), ?_⟩
    have s5 := same_new nS (o := .lst ([f w.1 (3 - w.1 - w.2), prF r w.1 w.2, f (3 - w.1 - w.2) w.2].map pV))
    refine (show (fun H5 => Same H4 H5 → _) (upd H4 S (.lst ([f w.1 (3 - w.1 - w.2), prF r w.1 w.2, f (3 - w.1 - w.2) w.2].map pV))) from ?_) s5
    generalize upd H4 S (.lst ([f w.1 (3 - w.1 - w.2), prF r w.1 w.2, f (3 - w.1 - w.2) w.2].map pV)) = H5
    intro s5
    have s25 := (s3.trans s4).trans s5
    have sH5 := (sH.trans s4).trans s5
    have dg := (hb.same sH5)
    have el : oline1 (prF r) f w.1 w.2 = osum [f w.1 (3 - w.1 - w.2), prF r w.1 w.2, f (3 - w.1 - w.2) w.2] := rfl
    have none_ : oline1 (prF r) f w.1 w.2 = none → strO (prF r) f w = false := fun e => by unfold strO; rw [e]
    have some_ : ∀ v, oline1 (prF r) f w.1 w.2 = some v → strO (prF r) f w = decide (stepO (prF r) f w.1 w.2 = some v) := fun v e => by unfold strO; rw [e]
    rw [el] at none_ some_
    have keep : ∀ x, strO (prF r) f w = false → ∃ o9 o10 o11, [x0, x1, x2, x3, x4, some (V.ref a), some (.ref t), some (.ref b), some (.ref l), some (.str (wd [w.1, w.2])), some (.str (pl (3 - w.1 - w.2))), x] = [x0, x1, x2, x3, x4, some (.ref a), some (.ref t), some (.ref b), some (.ref l), o9, o10, o11] ∧ (H5 l = some (.lst (((waysN.take (i + 1)).filter (strO (prF r) f)).map wayV)) ∧ Off l H1 H5) := fun x e => ⟨_, _, _, rfl, by rw [tk, List.filter_append, List.filter_cons, e]; simpa using s25 _ _ g2, o2.trans (Same.off s25)⟩
    generalize osum [f w.1 (3 - w.1 - w.2), prF r w.1 w.2, f (3 - w.1 - w.2) w.2] = A at *
    cases A with
    | none =>
      rw [if_neg (by decide), if_neg (by decide)]
      exact keep _ (none_ rfl)
    | some va =>
      rw [if_pos (by rfl)]
      refine get_keyv rfl rfl dg w1 w2 w3 ?_
      have so := some_ va rfl
      have few : (((waysN.take i).filter (strO (prF r) f)).map wayV).length ≤ 100000 := by
        rw [List.length_map]
        exact Nat.le_trans (List.length_filter_le _ _) (Nat.le_trans (List.length_take_le _ _) (by
          have := (List.getElem?_eq_some_iff.mp hw).1
          have e6 : waysN.length = 6 := rfl
          omega))
      generalize stepO (prF r) f w.1 w.2 = U at *
      cases U with
      | none =>
        rw [decide_eq_false (fun z => by cases z)] at so
        exact ⟨_, rfl, keep _ so⟩
      | some u =>
        refine ⟨_, rfl, ?_⟩
        by_cases e : va = u
        · (rw [if_pos (decide_eq_true e)])
          rw [decide_eq_true (by rw [e])] at so
          have g5 := s25 _ _ g2
          refine ⟨tyL g5, app_of g5 few ⟨_, _, _, rfl, ?_, (o2.trans (Same.off s25)).trans off_upd⟩⟩
          rw [upd_same, tk, List.filter_append, List.filter_cons, so]
          simp [wayV]
        · rw [if_neg (by simpa using e)]
          rw [decide_eq_false (fun z => e (Option.some.inj z).symm)] at so
          exact keep _ so
  · rintro τ H2 ⟨o9, o10, o11, rfl, g2, o2⟩
    exact q _ _ _ H2 o2 g2
end
end U
namespace U
open PySem PySem.Spec PyProof.Rows L2

/-- xs.insert(k, z) -/
def rInsert : V → List V → Hp → VK → Prop := fun o as H Q => ∃ (p : Addr) (ys : List V) (k : Nat) (z : V), o = .ref p ∧ as = [.int (k : Nat), z] ∧ H p = some (.lst ys) ∧ ys.length ≤ 1000 ∧ k ≤ 1000 ∧ Q .non (upd H p (.lst (ys.take k ++ [z] ++ ys.drop k)))
theorem mt_insertU {X : Cx} : MtR X "list.insert" rInsert := by
  intro pins s σ H x xs v us Q I r1 r2 h
  obtain ⟨p, ys, k, z, e1, e2, hp, few, small, q⟩ := h
  exact mt_insert pins s σ H x xs v us Q I r1 r2 ⟨p, ys, k, z, e1, e2, hp, Nat.lt_of_lt_of_le (show ys.length < 1001 by omega) (by decide), by omega, by omega, q⟩
def sp__law_straight_right (K : PySem.W.Frag) : Sp := sp3 fun x y z H Q _ => ∃ L yd b rows, x = .ref L ∧ y = .ref yd ∧ z = .ref b ∧ GrL K H L rows ∧ rows.length ≤ 60 ∧ (∀ r ∈ rows, r.length = 6) ∧ YdK K H yd rows ∧ LvT H b (ownL rows) ∧
  ∀ H0 H1 H', Same H H0 → Mild K yd H0 H1 → YdK K H1 yd rows → Same H1 H' → Q (.bl true) H'
def t__law_straight_right (K : PySem.W.Frag) (E : XK) : TS := (tSeq (tAsg (tLst tNil) (gName 3)) (tSeq (tFor (iEnumU K (tCons (tRevL K (tVar 0)) tNil)) (gTup K 2 (gCons (gName 4) (gCons (gName 5) gNil))) (tSeq (tPar3 6 7 8 (tCons (tOp (uIx K) (tVar 2) (tVar 4)) (tCons (tOp (uIx K) (tVar 2) (tOp uAdd (tVar 4) (tC (.int 1)))) (tCons (tLst tNil) tNil)))) (tSeq (tFor (iSeq K (tC (.ref (He.ga K "WAYS")))) (gName 9) (tSeq (tAsg (tFn (sp__law_other K) E (tCons (tOp (uIx K) (tVar 9) (tC (.int 0))) (tCons (tOp (uIx K) (tVar 9) (tC (.int 1))) tNil))) (gName 10)) (tSeq (tAsg (tFn (sp__law_sum K) E (tCons (tLst (tCons (tDGet (tVar 6) (tOp uAdd (tOp (uIx K) (tVar 9) (tC (.int 0))) (tVar 10))) (tCons (tFn (sp__law_price K) E (tCons (tVar 5) (tCons (tOp (uIx K) (tVar 9) (tC (.int 0))) (tCons (tOp (uIx K) (tVar 9) (tC (.int 1))) tNil)))) (tCons (tDGet (tVar 6) (tOp uAdd (tVar 10) (tOp (uIx K) (tVar 9) (tC (.int 1))))) tNil)))) tNil)) (gName 11)) (tIfS (tAnd (tTest (tOp uNis (tVar 11) (tC .non))) (tTest (tOp (uEq K) (tVar 11) (tDGet (tVar 7) (tVar 9))))) (tDrop (tBM K "list" rAppend (tVar 8) (tCons (tVar 9) tNil))) tNext)))) (tDrop (tBM K "list" rInsert (tVar 3) (tCons (tC (.int 0)) (tCons (tVar 8) tNil))))))) (tRet (tOp (uEq K) (tFn (sp_straight_ways K) E (tCons (tVar 1) tNil)) (tVar 3)))))
section
variable {K : PySem.W.Frag} (F : KF K) {vs : List V} {H : Hp} {Q : VK} {E : XK}
local macro_rules | `(tactic| walk_at "w") => `(tactic| try simp only [turnE, lcT, Snoc, tRet, tRetN, tAndV, tOrV, tNotV, tCB, tCons, tVar, tNil, tC, tOp, tSeq, tAsg, gName, gSub, tIfS, tDrop, tFn, tTup, tLst, tNext, tB, tTest, tNot, tAnd, tOr, tIf, tChain, tUn, rU, tFld, tPart, tNoPart, L2.tSl, tBM, tPar, tPar3, tTruth, tDNewK,
  L2.start, List.map_cons, List.map_nil, List.length_cons, List.length_nil, List.replicate_succ, List.replicate_zero, List.append_nil, List.nil_append, List.cons_append, List.singleton_append, Nat.sub_self, Nat.zero_add, Nat.reduceAdd, Nat.reduceSub,
  List.getElem?_cons_zero, List.getElem?_cons_succ, List.set_cons_zero, List.set_cons_succ, Option.some.injEq, exists_eq_left, exists_eq_left', V.int.injEq, V.bl.injEq, V.str.injEq, V.ref.injEq,
  uAdd_int, uAdd_str, uSub_int, uMul_int, uMul_str, uDiv_int, uMod_int, uPow_int, uLt_int, uLe_int, uGt_int, uGe_int, uIs_non, uNis_non, uIs_bl, uNis_bl, sp1, sp2, sp3, sp4, uEq_int, uEq_str, uNe_int, uNe_str, uSl_str, uLen_str, decide_eq_true_eq])
local macro_rules | `(tactic| walk_at "1") => `(tactic| try simp only [turnE, lcT, Snoc, tRet, tRetN, tAndV, tOrV, tNotV, tCB, tCons, tVar, tNil, tC, tOp, tAsg, gName, gSub, tIfS, tDrop, tFn, tTup, tLst, tNext, tB, tTest, tNot, tAnd, tOr, tIf, tChain, tUn, rU, tFld, tPart, tNoPart, L2.tSl, tBM, tPar, tPar3, tTruth, tDNewK,
  L2.start, List.map_cons, List.map_nil, List.length_cons, List.length_nil, List.replicate_succ, List.replicate_zero, List.append_nil, List.nil_append, List.cons_append, List.singleton_append, Nat.sub_self, Nat.zero_add, Nat.reduceAdd, Nat.reduceSub,
  List.getElem?_cons_zero, List.getElem?_cons_succ, List.set_cons_zero, List.set_cons_succ, Option.some.injEq, exists_eq_left, exists_eq_left', V.int.injEq, V.bl.injEq, V.str.injEq, V.ref.injEq,
  uAdd_int, uAdd_str, uSub_int, uMul_int, uMul_str, uDiv_int, uMod_int, uPow_int, uLt_int, uLe_int, uGt_int, uGe_int, uIs_non, uNis_non, uIs_bl, uNis_bl, sp1, sp2, sp3, sp4, uEq_int, uEq_str, uNe_int, uNe_str, uSl_str, uLen_str, decide_eq_true_eq])
local macro_rules | `(tactic| walk_at "s") => `(tactic| ((try dsimp only [turnE]); with_reducible refine seq_ ?_))

/-! the data of such lists of ways -/
def strD (ws : List (Nat × Nat)) : PyData := .list ((ws.map fun w => wd [w.1, w.2]).map PyData.str)
theorem ok_ways : ∀ w ∈ waysN, PyData.strOk (wd [w.1, w.2]) = true := by decide +kernel
def allD (wss : List (List (Nat × Nat))) : PyData := .list (wss.map strD)
theorem allD_shaped {wss : List (List (Nat × Nat))} (h : ∀ ws ∈ wss, ∀ w ∈ ws, w ∈ waysN) : SeqAt.shaped (allD wss) = true := by
  have one : ∀ ws : List (Nat × Nat), (∀ w ∈ ws, w ∈ waysN) → PyData.canLayAll0 ((ws.map fun w => wd [w.1, w.2]).map PyData.str) = true ∧ PyData.depthAll ((ws.map fun w => wd [w.1, w.2]).map PyData.str) = 0 := fun ws => by
    induction ws with
    | nil => exact fun _ => ⟨by simp [PyData.canLayAll0], by simp [PyData.depthAll]⟩
    | cons w r ih =>
      intro hw
      have i := ih fun x m => hw x (List.mem_cons_of_mem _ m)
      have o := ok_ways w (hw w List.mem_cons_self)
      rw [List.map_map] at i
      simp [PyData.canLayAll0, PyData.depthAll, PyData.canLay0, PyData.depth, i, o]
  have all : PyData.canLayAll0 (wss.map strD) = true ∧ PyData.depthAll (wss.map strD) ≤ 1 := by
    induction wss with
    | nil => exact ⟨by simp [PyData.canLayAll0], by simp [PyData.depthAll]⟩
    | cons ws t ih =>
      have i := ih fun x m => h x (List.mem_cons_of_mem _ m)
      have o := one ws (h ws List.mem_cons_self)
      unfold strD at i ⊢
      rw [List.map_map] at o
      simp only [List.map_map] at i
      simp [PyData.canLayAll0, PyData.canLay0, PyData.depthAll, PyData.depth, i, o]
  unfold SeqAt.shaped allD
  rw [PyData.canLay0, all.1, PyData.depth]
  (exact decide_eq_true (by omega))
theorem dp_all {l : Addr} {ls : List Addr} {wss : List (List (Nat × Nat))} (h : SqL K H l (ls.map V.ref)) (hl : ls.length = wss.length) (at_ : ∀ (k : Nat) (d : Addr) (ws : List (Nat × Nat)), ls[k]? = some d → wss[k]? = some ws → H d = some (.lst (ws.map wayV))) : Dp K H (.ref l) (allD wss) := by
  refine .lst h ?_
  clear h
  induction ls generalizing wss with
  | nil =>
    cases wss with
    | nil => exact .nil
    | cons b r => cases hl
  | cons d t ih =>
    cases wss with
    | nil => cases hl
    | cons ws r =>
      refine .cons ?_ (ih (Nat.succ.inj hl) fun k x y z1 z2 => at_ (k + 1) x y z1 z2)
      refine dp_strs (.inl (.inl ?_))
      rw [at_ 0 d ws rfl rfl, List.map_map]
      rfl
theorem eq_all {l m : Addr} {ls ms : List Addr} {wss : List (List (Nat × Nat))} (ok : ∀ ws ∈ wss, ∀ w ∈ ws, w ∈ waysN) (h1 : H l = some (.lst (ls.map V.ref))) (h2 : H m = some (.lst (ms.map V.ref))) (l1 : ls.length = wss.length) (l2 : ms.length = wss.length)
    (a1 : ∀ (k : Nat) (d : Addr) (ws : List (Nat × Nat)), ls[k]? = some d → wss[k]? = some ws → H d = some (.lst (ws.map wayV))) (a2 : ∀ (k : Nat) (d : Addr) (ws : List (Nat × Nat)), ms[k]? = some d → wss[k]? = some ws → H d = some (.lst (ws.map wayV))) (q : Q (.bl true) H) : uEq K (.ref l) (.ref m) H Q := by
  refine ⟨_, _, dp_all (.inl (.inl h1)) l1 a1, dp_all (.inl (.inl h2)) l2 a2, allD_shaped ok, allD_shaped ok, ?_⟩
  rw [SeqAt.eqv_refl _ (SeqAt.canLay_of_shaped (allD_shaped ok))]
  exact q
include F in
theorem read__law_straight_right (h : sp__law_straight_right K vs H Q E) : t__law_straight_right K E { nx := fun _ H' => Q .non H', rt := Q } (start ["_law_rows_here", "_law_yard", "_law_own", "_law_due_here", "_law_count", "_law_line", "_law_table", "_law_best", "_law_ways", "_law_way", "_law_other_here", "_law_one"] vs) H := by
  match vs, h with
  | [_, _, _], ⟨L, yd, b, rows, rfl, rfl, rfl, hL, h60, h6, hy, hb, q⟩ =>
    obtain ⟨as, a1, la, a3⟩ := id hL
    obtain ⟨ls, l1, l2, l3, l4⟩ := id hb
    have lw : ls.length = rows.length + 1 := by rw [l2]; simp [ownL]
    unfold t__law_straight_right
    walk_at "s"
    walk_at "1"
    refine ⟨by decide, fun l nl => ?_⟩
    have s1 : Same H (upd H l (.lst [])) := same_new nl
    have gl : upd H l (.lst []) l = some (.lst ([].map V.ref)) := upd_same
    generalize upd H l (.lst []) = H1 at *
    walk_at "s"
    refine tFor_enumL ?_
    walk_at "1"
    refine ⟨_, rfl, L, _, rfl, Same.seq s1 a1, fun R nR => ?_⟩
    have sR : Same H1 (upd H1 R (.lst (as.map V.ref).reverse)) := same_new nR
    have gR : upd H1 R (.lst (as.map V.ref).reverse) R = some (.lst (as.map V.ref).reverse) := upd_same
    have Rl : R ≠ l := by rintro rfl; rw [gl] at nR; cases nR
    refine ⟨R, _, rfl, .inl (.inl gR), ?_⟩
    generalize upd H1 R (.lst (as.map V.ref).reverse) = H2 at *
    have s02 := s1.trans sR
    refine for_pairs (wi := fun _ H' R' => R' (Ite K R) H') (pairs_L (K := K) (a := R) (xs := (as.map V.ref).reverse)) (fun R r => r) (fun k τ H' => Off l H2 H' ∧ (∃ ds : List Addr, H' l = some (.lst (ds.map V.ref)) ∧ (ds.length = k ∧ ∀ (j : Nat) (d : Addr), ds[j]? = some d → H' d = some (.lst ((strW rows (k - 1 - j)).map wayV)) ∧ d ≠ l)) ∧
      ∃ x4 x5 x6 x7 x8 x9 x10 x11, τ = [some (.ref L), some (.ref yd), some (.ref b), some (.ref l), x4, x5, x6, x7, x8, x9, x10, x11]) ⟨Off.refl, ⟨[], sR _ _ gl, rfl, fun j d e => by cases e⟩, _, _, _, _, _, _, _, _, rfl⟩ (fun i τ H' z => .inl (.inl (z.1 _ _ Rl gR))) ?_ ?_
    · rintro k x τ H3 T hx ⟨o3, ⟨ds, g3, ld, at3⟩, x4, x5, x6, x7, x8, x9, x10, x11, rfl⟩ nT
      have lk : k < rows.length := by
        have := (List.getElem?_eq_some_iff.mp hx).1
        rw [List.length_reverse, List.length_map] at this
        omega
      rw [← List.map_reverse, List.getElem?_map] at hx
      obtain ⟨a0, hka, rfl⟩ := Option.map_eq_some_iff.mp hx
      have ia : as[rows.length - 1 - k]? = some a0 := by
        rw [List.getElem?_reverse (by omega)] at hka
        rw [← la]
        exact hka
      obtain ⟨r, hr⟩ : ∃ r, rows[rows.length - 1 - k]? = some r := ⟨_, List.getElem?_eq_getElem (by omega)⟩
      have hrr : rows.reverse[k]? = some r := by rw [List.getElem?_reverse lk]; exact hr
      have sa0 := a3 _ a0 r ia hr
      have r6 := h6 r (List.mem_of_getElem? hr)
      have sT : Same H3 (upd H3 T (.tup [.int (k : Nat), .ref a0])) := same_new nT
      have gT : upd H3 T (.tup [.int (k : Nat), .ref a0]) T = some (.tup [.int (k : Nat), .ref a0]) := upd_same
      generalize upd H3 T (.tup [.int (k : Nat), .ref a0]) = H4 at *
      have s03 : Same H H3 := (Off.trans (Same.off s02) o3).same nl
      have s04 := s03.trans sT
      have ed0 : ls[k]? = some (ls[k]'(by omega)) := List.getElem?_eq_getElem _
      have ed1 : ls[k + 1]? = some (ls[k + 1]'(by omega)) := List.getElem?_eq_getElem _
      have t0 := l3 _ _ _ ed0 (ownL_at (rows := rows) (k := k) (by omega))
      have t1 := l3 _ _ _ ed1 (ownL_at (rows := rows) (k := k + 1) (by omega))
      rw [towO_succ hrr] at t1
      refine ⟨T, _, rfl, .inl (.inl gT), rfl, ?_⟩
      refine ⟨_, _, rfl, _, _, rfl, rfl, ?_⟩
      simp only [List.set_cons_zero, List.set_cons_succ]
      walk_at "s"
      walk_at "1"
      refine uIx_lst (s04 _ _ l1) (at_nat (by rw [List.getElem?_map, ed0]; rfl)) ?_
      refine uIx_lst (s04 _ _ l1) (show atI (ls.map V.ref) (((k : Nat) : Int) + 1) = _ from by
                  rw [show ((k : Nat) : Int) + 1 = ((k + 1 : Nat) : Int) by omega]
                  exact at_nat (by rw [List.getElem?_map, ed1]; rfl)) ?_
      refine ⟨by decide, fun W nW => ?_⟩
      have sW : Same H4 (upd H4 W (.lst [])) := same_new nW
      have gW : upd H4 W (.lst []) W = some (.lst []) := upd_same
      refine ⟨_, _, _, rfl, ?_⟩
      refine (show tSeq _ _ _ _ (upd H4 W (.lst [])) from ?_)
      generalize upd H4 W (.lst []) = H5 at *
      walk_at "s"
      refine ways_line F (H := H4) (r := r) (f := towO rows k) (Same.seq s04 sa0) r6 (tb_way (s04 _ _ t0)) (tb_way (s04 _ _ t1)) sW nW gW fun x9 x10 x11 H6 o6 g6 => ?_
      have s46 : Same H4 H6 := (Off.trans (Same.off sW) o6).same nW
      have s36 := sT.trans s46
      have g36 := s36 _ _ g3
      have Wl : W ≠ l := by rintro rfl; rw [sT _ _ g3] at nW; cases nW
      walk_at "1"
      refine ⟨tyL g36, ⟨l, _, 0, .ref W, rfl, rfl, g36, by rw [List.length_map]; omega, by omega, ?_⟩⟩
      refine ⟨(o3.trans (Same.off s36)).trans off_upd, ⟨W :: ds, by rw [upd_same]; rfl, by simp [ld], fun j d e => ?_⟩, _, _, _, _, _, _, _, _, rfl⟩
      cases j with
      | zero =>
        cases e
        refine ⟨?_, Wl⟩
        rw [upd_ne Wl, g6]
        unfold strW
        rw [show k + 1 - 1 - 0 = k by omega, hrr]
        rfl
      | succ j =>
        obtain ⟨z1, z2⟩ := at3 j d e
        refine ⟨?_, z2⟩
        rw [upd_ne z2, show k + 1 - 1 - (j + 1) = k - 1 - j by omega]
        exact s36 _ _ z1
    · rintro τ H3 ⟨o3, ⟨ds, g3, ld, at3⟩, x4, x5, x6, x7, x8, x9, x10, x11, rfl⟩
      have s03 : Same H H3 := (Off.trans (Same.off s02) o3).same nl
      rw [List.length_reverse, List.length_map, la] at ld at3
      walk_at "1"
      refine .inr ⟨yd, rows, rfl, hy.same s03, fun m H4 H5 mild y4 s45 wm => ?_⟩
      obtain ⟨ms, m1, m2, m3, _⟩ := wm
      have keep : ∀ (p : Addr) (xs : List V), H3 p = some (.lst xs) → H5 p = some (.lst xs) := fun p xs e => s45 _ _ (mild.fl p _ (fun _ _ _ z => nomatch z) e)
      let wss : List (List (Nat × Nat)) := (List.range rows.length).map fun k => strW rows (rows.length - 1 - k)
      have wl : wss.length = rows.length := by simp [wss]
      have wat : ∀ (k : Nat) (ws : List (Nat × Nat)), wss[k]? = some ws → ws = strW rows (rows.length - 1 - k) := fun k ws e => by
        rw [List.getElem?_map] at e
        obtain ⟨j, hj, rfl⟩ := Option.map_eq_some_iff.mp e
        obtain ⟨lt, e⟩ := List.getElem?_eq_some_iff.mp hj
        rw [List.getElem_range] at e
        rw [e]
      have wok : ∀ ws ∈ wss, ∀ w ∈ ws, w ∈ waysN := fun ws m w mw => by
        obtain ⟨k, _, rfl⟩ := List.mem_map.mp m
        exact (List.mem_filter.mp mw).1
      refine eq_all (ls := ms) (ms := ds) (wss := wss) wok m1 (keep _ _ g3) (by rw [m2, wl]) (by rw [ld, wl]) (fun k d ws e1 e2 => ?_) (fun k d ws e1 e2 => ?_) (q H3 H4 H5 s03 mild y4 s45)
      · rw [wat k ws e2]
        exact m3 k d e1
      · rw [wat k ws e2]
        exact keep _ _ (at3 k d e1).1
end
end U
namespace U
open PySem PySem.Spec PyProof.Rows L2

/-- dict(d): a copy -/
def rDictC : List V → Hp → VK → Prop := fun xs H Q => ∃ (a : Addr) (kvs : List (L2.Key × V)), xs = [.ref a] ∧ Rd H a (.dK kvs) ∧ ∀ p, H p = none → Q (.ref p) (upd H p (.dK kvs))
theorem call_dictC {X : Cx} : CallR X (.type "dict") rDictC := call_dictD
/-- d.pop(k), there -/
def rPopD : V → List V → Hp → VK → Prop := fun x xs H Q => ∃ (a : Addr) (kvs : List (L2.Key × V)) (k : L2.Key) (v : V), x = .ref a ∧ xs = [kV k] ∧ H a = some (.dK kvs) ∧ valV kvs k = some v ∧ Q v (upd H a (.dK (dropK kvs k)))
theorem mt_popD {X : Cx} : MtR X "dict.pop" rPopD := by
  intro ps s σ H x xs v us R I same args rd
  obtain ⟨a, kvs, k, w, rfl, rfl, ha, hv, q⟩ := rd
  cases same
  obtain ⟨u1, rfl, r1⟩ := vals1 args
  refine d_pop I ha r1 hv (.inl rfl) fun w' s' I' r' => ?_
  exact ⟨_, _, I', r', q⟩
end U
namespace U
open PySem PySem.Spec PyProof.Rows L2

section
variable {K : PySem.W.Frag} (F : KF K) {vs : List V} {H : Hp} {Q : VK} {E : XK}
local macro_rules | `(tactic| walk_at "w") => `(tactic| try simp only [turnE, lcT, Snoc, tRet, tRetN, tAndV, tOrV, tNotV, tCB, tCons, tVar, tNil, tC, tOp, tSeq, tAsg, gName, gSub, tIfS, tDrop, tFn, tTup, tLst, tNext, tB, tTest, tNot, tAnd, tOr, tIf, tChain, tUn, rU, tFld, tPart, tNoPart, L2.tSl, tBM, tPar, tPar3, tTruth, tDNewK,
  L2.start, List.map_cons, List.map_nil, List.length_cons, List.length_nil, List.replicate_succ, List.replicate_zero, List.append_nil, List.nil_append, List.cons_append, List.singleton_append, Nat.sub_self, Nat.zero_add, Nat.reduceAdd, Nat.reduceSub,
  List.getElem?_cons_zero, List.getElem?_cons_succ, List.set_cons_zero, List.set_cons_succ, Option.some.injEq, exists_eq_left, exists_eq_left', V.int.injEq, V.bl.injEq, V.str.injEq, V.ref.injEq,
  uAdd_int, uAdd_str, uSub_int, uMul_int, uMul_str, uDiv_int, uMod_int, uPow_int, uLt_int, uLe_int, uGt_int, uGe_int, uIs_non, uNis_non, uIs_bl, uNis_bl, sp1, sp2, sp3, sp4, uEq_int, uEq_str, uNe_int, uNe_str, uSl_str, uLen_str, decide_eq_true_eq])
local macro_rules | `(tactic| walk_at "1") => `(tactic| try simp only [turnE, lcT, Snoc, tRet, tRetN, tAndV, tOrV, tNotV, tCB, tCons, tVar, tNil, tC, tOp, tAsg, gName, gSub, tIfS, tDrop, tFn, tTup, tLst, tNext, tB, tTest, tNot, tAnd, tOr, tIf, tChain, tUn, rU, tFld, tPart, tNoPart, L2.tSl, tBM, tPar, tPar3, tTruth, tDNewK,
  L2.start, List.map_cons, List.map_nil, List.length_cons, List.length_nil, List.replicate_succ, List.replicate_zero, List.append_nil, List.nil_append, List.cons_append, List.singleton_append, Nat.sub_self, Nat.zero_add, Nat.reduceAdd, Nat.reduceSub,
  List.getElem?_cons_zero, List.getElem?_cons_succ, List.set_cons_zero, List.set_cons_succ, Option.some.injEq, exists_eq_left, exists_eq_left', V.int.injEq, V.bl.injEq, V.str.injEq, V.ref.injEq,
  uAdd_int, uAdd_str, uSub_int, uMul_int, uMul_str, uDiv_int, uMod_int, uPow_int, uLt_int, uLe_int, uGt_int, uGe_int, uIs_non, uNis_non, uIs_bl, uNis_bl, sp1, sp2, sp3, sp4, uEq_int, uEq_str, uNe_int, uNe_str, uSl_str, uLen_str, decide_eq_true_eq])
local macro_rules | `(tactic| walk_at "s") => `(tactic| ((try dsimp only [turnE]); with_reducible refine seq_ ?_))

/-- copies of tables, in a new list -/
theorem bent_copies {σ : L2.St} {l : Addr} {fs : List Lvl} (h1 : σ[1]? = some (some (.ref l))) (hj : 7 < σ.length) (hb : LvT H l fs) (few : fs.length ≤ 1000) (q : ∀ d H', TabF H H' d fs → Q (.ref d) H') :
    tLc (iSeq K (tVar 1)) (gName 7) tYes (tCB rDictC (tCons (tVar 7) tNil)) [7] σ H Q := by
  obtain ⟨ls, l1, l2, l3, l4⟩ := id hb
  refine .inl ⟨_, h1, l, rfl, ⟨_, .inl (.inl l1)⟩, fun D nD => ?_⟩
  refine lc_freshO (plain_L (K := K) (a := l) (xs := ls.map V.ref)) (fun i => .dK (wayD ((fs[i]?).getD zeroL))) nD (by rw [List.length_map, l2]; exact few) (fun H' s => .inl (.inl (s _ _ l1))) ?_ ?_
  · intro i x H2 Q2 hx s2 k
    rw [List.getElem?_map] at hx
    obtain ⟨d, hd, ed⟩ := Option.map_eq_some_iff.mp hx
    subst ed
    have lt : i < fs.length := by have := (List.getElem?_eq_some_iff.mp hd).1; omega
    have ef : fs[i]? = some fs[i] := List.getElem?_eq_getElem lt
    have gd := s2 _ _ (l3 i d _ hd ef)
    refine ⟨_, by rw [List.getElem?_set_self hj], ?_⟩
    refine ⟨d, _, rfl, .inl gd, fun p np => k p _ np (same_new np) ?_⟩
    rw [upd_same, ef]
    rfl
  · intro H2 ms s2 hl gD at_ nd nD fr
    rw [List.length_map, l2] at hl
    refine q D H2 ⟨s2, ‹H D = none›, ms, gD, hl, fun k d f e1 e2 => ?_, nd, nD, fr⟩
    have := at_ k d e1
    rw [e2] at this
    exact this
end
end U
namespace U
open PySem PySem.Spec PyProof.Rows L2

/-! ### a list of items that may be tables: it is a law's tables, or it is none -/
section
variable {K : PySem.W.Frag} {H : Hp}
theorem some_bools : ∀ {xs : List V}, (∀ v ∈ xs, ∃ b, ItB K H v b) → ∃ bs : List Bool, bs.length = xs.length ∧ ∀ (i : Nat) v b, xs[i]? = some v → bs[i]? = some b → ItB K H v b
  | [], _ => ⟨[], rfl, fun i v b e => by cases e⟩
  | x :: xs, h => by
    obtain ⟨b, hb⟩ := h x List.mem_cons_self
    obtain ⟨bs, e, hs⟩ := some_bools (xs := xs) fun v m => h v (List.mem_cons_of_mem _ m)
    refine ⟨b :: bs, by simp [e], fun i v c e1 e2 => ?_⟩
    cases i with
    | zero => cases e1; cases e2; exact hb
    | succ i => exact hs i v c e1 e2
theorem ItB.tab {v : V} (h : ItB K H v true) : ∃ d ks, v = .ref d ∧ DcV K H d ks ∧ levB ks = true := by
  rcases h with ⟨a, _, _, e⟩ | ⟨d, ks, e, dc, l⟩
  · cases e
  · exact ⟨d, ks, e, dc, l.symm⟩
theorem all_tables : ∀ {xs : List V} {bs : List Bool}, bs.length = xs.length → bs.all id = true → (∀ (i : Nat) v b, xs[i]? = some v → bs[i]? = some b → ItB K H v b) →
    ∃ (ls : List Addr) (kss : List (List (Key × V))), xs = ls.map V.ref ∧ ls.length = kss.length ∧ ∀ (k : Nat) (d : Addr) ks, ls[k]? = some d → kss[k]? = some ks → DcV K H d ks ∧ levB ks = true
  | [], [], _, _, _ => ⟨[], [], rfl, rfl, fun k d ks e => by cases e⟩
  | [], _ :: _, e, _, _ => by cases e
  | _ :: _, [], e, _, _ => by cases e
  | x :: xs, b :: bs, e, al, h => by
    rw [List.all_cons, Bool.and_eq_true] at al
    obtain ⟨ls, kss, e1, e2, e3⟩ := all_tables (Nat.succ.inj e) al.2 fun i v b z1 z2 => h (i + 1) v b z1 z2
    have hx := h 0 x b rfl rfl
    rw [show b = true from al.1] at hx
    obtain ⟨d, ks, rfl, dc, lv⟩ := hx.tab
    refine ⟨d :: ls, ks :: kss, by rw [e1]; rfl, by simp [e2], fun k a as z1 z2 => ?_⟩
    cases k with
    | zero => cases z1; cases z2; exact ⟨dc, lv⟩
    | succ k => exact e3 k a as z1 z2
/-- what a law hands to a yard as its tables -/
def Tabs (K : PySem.W.Frag) (H : Hp) (n : Nat) (x : V) : Prop := ∃ l kss, x = .ref l ∧ LvG K H l kss ∧ kss.length = n + 1 ∧ ∃ k0, kss[0]? = some k0 ∧ ∀ w ∈ waysN, zeroB (gotV k0 w) = true
theorem tabs_or {l : Addr} {xs : List V} {n : Nat} (h : SqA K H l xs) (few : xs.length ≤ 1000) (it : ∀ v ∈ xs, ∃ b, ItB K H v b) (nd : xs.Nodup) : NoLv K H n (.ref l) ∨ Tabs K H n (.ref l) := by
  obtain ⟨bs, e, hs⟩ := some_bools it
  by_cases c : (bs.length : Int) = (n : Int) + 1
  · cases al : bs.all id with
    | false => exact .inl (.inr ⟨l, xs, bs, [], rfl, h, few, e, hs, fun v _ z => (Bool.noConfusion (al.symm.trans z)), by unfold levsB; rw [al, Bool.false_and, Bool.and_false]⟩)
    | true =>
      obtain ⟨ls, kss, rfl, e2, e3⟩ := all_tables e al hs
      have lk : kss.length = n + 1 := by rw [← e2]; rw [e, List.length_map] at c; omega
      have k0 : kss[0]? = some (kss[0]'(by omega)) := List.getElem?_eq_getElem _
      have d0 : ls[0]? = some (ls[0]'(by omega)) := List.getElem?_eq_getElem _
      obtain ⟨dc, lv⟩ := e3 0 _ _ d0 k0
      cases z : waysN.all fun w => zeroB (gotV (kss[0]'(by omega)) w) with
      | false =>
        refine .inl (.inr ⟨l, _, bs, kss[0]'(by omega), rfl, h, few, e, hs, fun v ev _ _ => ?_, by unfold levsB; rw [z, Bool.and_false, Bool.and_false]⟩)
        rw [List.getElem?_map, d0] at ev
        injection ev with ev
        exact ⟨_, ev.symm, dc⟩
      | true =>
        refine .inr ⟨l, kss, rfl, ⟨ls, h, e2, e3, ?_⟩, lk, _, k0, fun w mw => List.all_eq_true.mp z w mw⟩
        exact List.Pairwise.of_map _ (fun a b n e => n (congrArg V.ref e)) nd
  · exact .inl (.inr ⟨l, xs, bs, [], rfl, h, few, e, hs, fun v _ _ z => absurd z c, by unfold levsB; rw [decide_eq_false c, Bool.false_and]⟩)
end
end U
namespace U
open PySem PySem.Spec PyProof.Rows L2

/-! ### tables of a list, one of them changed -/
section
variable {K : PySem.W.Frag} {H H' : Hp}
theorem OkV.offD {d : Addr} {kvs : List (Key × V)} {v : V} (hd : H d = some (.dK kvs)) (o : Off d H H') (h : OkV K H v) : OkV K H' v := by
  cases v with
  | ref p =>
    obtain ⟨xs, h1⟩ := h
    exact ⟨xs, o _ _ (by rintro rfl; rw [hd] at h1; cases h1) h1⟩
  | _ => exact h
theorem DcV.offD {c d : Addr} {ks kvs : List (Key × V)} (hd : H d = some (.dK kvs)) (o : Off d H H') (n : c ≠ d) (h : DcV K H c ks) : DcV K H' c ks := ⟨o _ _ n h.1, fun p m => (h.2.1 p m).offD hd o, h.2.2⟩
/-- a list of tables -/
def Fnd (K : PySem.W.Frag) (H : Hp) (D : Addr) (ds : List Addr) (kss : List (List (Key × V))) : Prop := H D = some (.lst (ds.map V.ref)) ∧ ds.length = kss.length ∧ (∀ (k : Nat) (d : Addr) ks, ds[k]? = some d → kss[k]? = some ks → DcV K H d ks) ∧ ds.Nodup ∧ D ∉ ds
theorem Fnd.items {D : Addr} {ds : List Addr} {kss : List (List (Key × V))} (h : Fnd K H D ds kss) : ∀ v ∈ ds.map V.ref, ∃ b, ItB K H v b := by
  intro v m
  obtain ⟨d, md, rfl⟩ := List.mem_map.mp m
  obtain ⟨k, lk, e⟩ := List.mem_iff_getElem.mp md
  have e1 : ds[k]? = some d := by rw [← e]; exact List.getElem?_eq_getElem lk
  have l := h.2.1
  have e2 : kss[k]? = some (kss[k]'(by omega)) := List.getElem?_eq_getElem _
  exact ⟨_, .inr ⟨d, _, rfl, h.2.2.1 k d _ e1 e2, rfl⟩⟩
theorem Fnd.nodupV {D : Addr} {ds : List Addr} {kss : List (List (Key × V))} (h : Fnd K H D ds kss) : (ds.map V.ref).Nodup :=
  List.Pairwise.map V.ref (fun a b n e => n (by injection e)) h.2.2.2.1
/-- the list itself is tables or none -/
theorem Fnd.told {D : Addr} {ds : List Addr} {kss : List (List (Key × V))} {n : Nat} (h : Fnd K H D ds kss) (few : ds.length ≤ 1000) : NoLv K H n (.ref D) ∨ Tabs K H n (.ref D) :=
  tabs_or (.inl (.inl (.inl h.1))) (by rw [List.length_map]; exact few) h.items h.nodupV
theorem Fnd.put {D d : Addr} {ds : List Addr} {kss : List (List (Key × V))} {kvs : List (Key × V)} {k : Nat} (h : Fnd K H D ds kss) (e : ds[k]? = some d) (o : Off d H H') (new : DcV K H' d kvs) : Fnd K H' D ds (kss.set k kvs) := by
  obtain ⟨h1, h2, h3, h4, h5⟩ := h
  have md := List.mem_of_getElem? e
  have lk : k < kss.length := by have := (List.getElem?_eq_some_iff.mp e).1; omega
  have old := h3 k d _ e (List.getElem?_eq_getElem lk)
  refine ⟨o _ _ (fun z => h5 (z ▸ md)) h1, by rw [List.length_set, h2], fun j c ks e1 e2 => ?_, h4, h5⟩
  by_cases z : j = k
  · subst z
    rw [e] at e1
    rw [List.getElem?_set_self lk] at e2
    cases e1
    cases e2
    exact new
  · rw [List.getElem?_set_ne (Ne.symm z)] at e2
    refine (h3 j c ks e1 e2).offD old.1 o ?_
    rintro rfl
    obtain ⟨l1, g1⟩ := List.getElem?_eq_some_iff.mp e1
    obtain ⟨l2, g2⟩ := List.getElem?_eq_some_iff.mp e
    exact z ((List.getElem_inj h4).mp (g1.trans g2.symm))
end
end U
namespace U
open PySem PySem.Spec PyProof.Rows L2

/-! ### keys of a changed dict -/
theorem putK_keys {kvs : List (Key × V)} {k : Key} {v : V} (h : (kvs.map (·.1)).Nodup) : ((putK kvs k v).map (·.1)).Nodup ∧ ∀ p ∈ putK kvs k v, p ∈ kvs ∨ p.2 = v := by
  unfold putK
  split
  case isTrue =>
    refine ⟨?_, fun p m => ?_⟩
    · have e : (kvs.map fun kv => if kv.1 = k then (kv.1, v) else kv).map (·.1) = kvs.map (·.1) := by
        rw [List.map_map]
        refine List.map_congr_left fun p _ => ?_
        show (if p.1 = k then (p.1, v) else p).1 = p.1
        split <;> rfl
      rw [e]
      exact h
    · obtain ⟨q, mq, rfl⟩ := List.mem_map.mp m
      by_cases c : q.1 = k <;> simp [c, mq]
  case isFalse c =>
    refine ⟨?_, fun p m => ?_⟩
    · rw [List.map_append]
      refine List.nodup_append.mpr ⟨h, by simp, fun a ma b mb => ?_⟩
      rw [List.map_cons, List.map_nil, List.mem_singleton] at mb
      subst mb
      rintro rfl
      obtain ⟨q, mq, e⟩ := List.mem_map.mp ma
      exact c (List.any_eq_true.mpr ⟨q, mq, decide_eq_true e⟩)
    · rcases List.mem_append.mp m with m | m
      · exact .inl m
      · exact .inr (by rw [List.mem_singleton.mp m])
theorem dropK_keys {kvs : List (Key × V)} {k : Key} (h : (kvs.map (·.1)).Nodup) : ((dropK kvs k).map (·.1)).Nodup := by
  unfold dropK
  exact h.sublist (List.Sublist.map _ List.filter_sublist)
section
variable {K : PySem.W.Frag} {H H' : Hp}
theorem DcV.put {d : Addr} {kvs : List (Key × V)} {k : Key} {v : V} (h : DcV K H d kvs) (ov : OkV K H v) : DcV K (upd H d (.dK (putK kvs k v))) d (putK kvs k v) := by
  obtain ⟨h1, h2, h3⟩ := h
  obtain ⟨p1, p2⟩ := putK_keys (k := k) (v := v) h3
  refine ⟨upd_same, fun p m => ?_, p1⟩
  rcases p2 p m with m | e
  · exact (h2 p m).offD h1 off_upd
  · rw [e]
    exact ov.offD h1 off_upd
theorem DcV.drop {d : Addr} {kvs : List (Key × V)} {k : Key} (h : DcV K H d kvs) : DcV K (upd H d (.dK (dropK kvs k))) d (dropK kvs k) := by
  obtain ⟨h1, h2, h3⟩ := h
  exact ⟨upd_same, fun p m => (h2 p (List.mem_filter.mp m).1).offD h1 off_upd, dropK_keys h3⟩
theorem rev_keys {kvs : List (Key × V)} (h : (kvs.map (·.1)).Nodup) : (kvs.reverse.map (·.1)).Nodup := by
  rw [List.map_reverse]
  exact List.pairwise_reverse.mpr (List.Pairwise.imp (fun n => Ne.symm n) h)
theorem DcV.rev {d c : Addr} {kvs : List (Key × V)} (h : DcV K H d kvs) (s : Same H H') (g : H' c = some (.dK kvs.reverse)) : DcV K H' c kvs.reverse :=
  ⟨g, fun p m => (h.2.1 p (List.mem_reverse.mp m)).same s, rev_keys h.2.2⟩
/-- one table set or without a key -/
theorem Fnd.putK {D d : Addr} {ds : List Addr} {kss : List (List (Key × V))} {kvs : List (Key × V)} {i : Nat} {k : Key} {v : V} (h : Fnd K H D ds kss) (e : ds[i]? = some d) (e2 : kss[i]? = some kvs) (ov : OkV K H v) : Fnd K (upd H d (.dK (L2.putK kvs k v))) D ds (kss.set i (L2.putK kvs k v)) :=
  h.put e off_upd ((h.2.2.1 i d kvs e e2).put ov)
theorem Fnd.dropK {D d : Addr} {ds : List Addr} {kss : List (List (Key × V))} {kvs : List (Key × V)} {i : Nat} {k : Key} (h : Fnd K H D ds kss) (e : ds[i]? = some d) (e2 : kss[i]? = some kvs) : Fnd K (upd H d (.dK (L2.dropK kvs k))) D ds (kss.set i (L2.dropK kvs k)) :=
  h.put e off_upd (h.2.2.1 i d kvs e e2).drop
end
end U
namespace U
open PySem PySem.Spec PyProof.Rows L2

/-! ### dicts by the length of their text -/
theorem app3 (a b c : Str) : (a ++ b ++ c).length = a.length + b.length + c.length := by
  show (a.cps ++ b.cps ++ c.cps).size = a.cps.size + b.cps.size + c.cps.size
  simp only [Array.size_append]
theorem slim_kv {A B D : Nat} : ∀ {es : List (PyData × PyData)}, (∀ p ∈ es, Slim A D p.1 ∧ Slim B D p.2) → PyData.showableKv es = true ∧ PyData.depthKv es ≤ D ∧ ((PyData.shownKv es).map (·.length)).sum ≤ (A + B + 2) * es.length ∧ (PyData.shownKv es).length = es.length ∧ fineKv es = true
  | [], _ => ⟨by simp [PyData.showableKv], by simp [PyData.depthKv], by simp [PyData.shownKv], by simp [PyData.shownKv], by simp [fineKv]⟩
  | (k, v) :: r, h => by
    obtain ⟨⟨a1, a2, a3, a4⟩, c1, c2, c3, c4⟩ := h (k, v) List.mem_cons_self
    obtain ⟨b1, b2, b3, b4, b5⟩ := slim_kv (es := r) fun p m => h p (List.mem_cons_of_mem _ m)
    refine ⟨?_, ?_, ?_, ?_, ?_⟩
    · simp [PyData.showableKv, a1, c1, b1]
    · simp only [PyData.depthKv]
      dsimp only at a2 c2
      omega
    · rw [PyData.shownKv, List.map_cons, List.sum_cons, List.length_cons, Nat.mul_succ]
      have e : (PyData.shown k ++ ": " ++ PyData.shown v : Str).length = k.shown.length + 2 + v.shown.length := by
        rw [app3]
        rfl
      dsimp only at a3 c3
      omega
    · rw [PyData.shownKv, List.length_cons, List.length_cons, b4]
    · rw [fineKv, a4, c4, b5]; rfl
theorem slim_dict {A B D n : Nat} {es : List (PyData × PyData)} (h : ∀ p ∈ es, Slim A D p.1 ∧ Slim B D p.2) (hn : es.length ≤ n) : Slim ((A + B + 4) * n + 2) (D + 1) (.dict es) := by
  obtain ⟨k1, k2, k3, k4, k5⟩ := slim_kv h
  refine ⟨?_, ?_, ?_, ?_⟩
  · rw [PyData.showable]; exact k1
  · rw [PyData.depth]; omega
  · have h1 := StrLaws.join_length_le ", " (PyData.shownKv es)
    have e : (PyData.dict es).shown = ("{" ++ Str.join ", " (PyData.shownKv es) ++ "}" : Str) := by
      simp only [PyData.shown]
      rfl
    have m1 : (A + B + 2) * es.length + 2 * es.length ≤ (A + B + 4) * n := by
      have := Nat.mul_le_mul_left (A + B + 4) hn
      rw [← Nat.add_mul]
      exact this
    have h3 : (", " : Str).length = 2 := by decide
    have h4 : ("{" : Str).length = 1 := by decide
    have h5 : ("}" : Str).length = 1 := by decide
    rw [h3, k4] at h1
    rw [e, app3, h4, h5]
    omega
  · rw [fine]; exact k5
end U
namespace U
open PySem PySem.Spec PyProof.Rows L2

/-! ### how great a table's numbers are -/
def Below (M : Int) (f : Lvl) : Prop := ∀ i j v, i < 3 → j < 3 → i ≠ j → f i j = some v → 0 ≤ v ∧ v ≤ M
theorem osum_cons {a : Option Int} {r : List (Option Int)} {s : Int} (e : osum (a :: r) = some s) : ∃ u t, a = some u ∧ osum r = some t ∧ s = u + t := by
  cases a with
  | none => cases e
  | some u =>
    have e : (osum r).map (u + ·) = some s := e
    obtain ⟨t, et, rfl⟩ := Option.map_eq_some_iff.mp e
    exact ⟨u, t, rfl, et, rfl⟩
theorem omin_of {a b : Option Int} {s : Int} (e : omin a b = some s) : a = some s ∨ b = some s := by
  cases a with
  | none => exact .inr e
  | some u =>
    cases b with
    | none => exact .inl e
    | some v =>
      injection e with e
      rcases Int.le_total u v with h | h
      · rw [Int.min_eq_left h] at e
        exact .inl (by rw [e])
      · rw [Int.min_eq_right h] at e
        exact .inr (by rw [e])
theorem step_le {p D : Lvl} {P M : Int} (hp : Below P p) (hd : Below M D) (P0 : 0 ≤ P) (M0 : 0 ≤ M) : Below (3 * M + 2 * P) (stepO p D) := by
  intro i j v hi hj n e
  have ht : 3 - i - j < 3 ∧ i ≠ 3 - i - j ∧ 3 - i - j ≠ j := by omega
  rcases omin_of e with e | e
  · obtain ⟨a, t1, ea, e, q1⟩ := osum_cons e
    obtain ⟨b, t2, eb, e, q2⟩ := osum_cons e
    obtain ⟨c, t3, ec, e, q3⟩ := osum_cons e
    injection e with e
    have h1 := hd _ _ a hi ht.1 ht.2.1 ea
    have h2 := hp _ _ b hi hj n eb
    have h3 := hd _ _ c ht.1 hj ht.2.2 ec
    omega
  · obtain ⟨a, t1, ea, e, q1⟩ := osum_cons e
    obtain ⟨b, t2, eb, e, q2⟩ := osum_cons e
    obtain ⟨c, t3, ec, e, q3⟩ := osum_cons e
    obtain ⟨d, t4, ed, e, q4⟩ := osum_cons e
    obtain ⟨g, t5, eg, e, q5⟩ := osum_cons e
    injection e with e
    have h1 := hd _ _ a hi hj n ea
    have h2 := hp _ _ b hi ht.1 ht.2.1 eb
    have h3 := hd _ _ c hj hi n.symm ec
    have h4 := hp _ _ d ht.1 hj ht.2.2 ed
    have h5 := hd _ _ g hi hj n eg
    omega
theorem prF_low {r : List (Option Int)} (h : r.all lowP = true) : Below (10 ^ 32) (prF r) := by
  intro i j v hi hj n e
  unfold prF at e
  cases c : r[colN i j]? with
  | none => rw [c] at e; cases e
  | some o =>
    rw [c] at e
    have e : o = some v := e
    subst e
    have := of_decide_eq_true (List.all_eq_true.mp h _ (List.mem_of_getElem? c))
    omega
theorem tow_le {rows : List (List (Option Int))} (h : ∀ r ∈ rows, r.all lowP = true) : ∀ k, k ≤ rows.length → Below (10 ^ 32 * (3 ^ k - 1)) (towO rows k)
  | 0, _ => fun i j v hi hj n e => by
    injection e with e
    subst e
    exact ⟨Int.le_refl _, by decide⟩
  | k + 1, hk => by
    have ih := tow_le h k (by omega)
    have er : rows.reverse[k]? = some (rows.reverse[k]'(by rw [List.length_reverse]; omega)) := List.getElem?_eq_getElem _
    rw [towO_succ er]
    have pos : (1 : Int) ≤ 3 ^ k := (show (0 : Int) < 3 ^ k from Int.pow_pos (by decide))
    have := step_le (prF_low (h _ (List.mem_reverse.mp (List.mem_of_getElem? er)))) ih (by decide) (by omega)
    rw [show (3 * (10 ^ 32 * (3 ^ k - 1)) + 2 * 10 ^ 32 : Int) = 10 ^ 32 * (3 ^ (k + 1) - 1) by rw [Int.pow_succ]; omega] at this
    exact this
theorem slim_big {i : Int} (h : i.natAbs < 10 ^ 62) : Slim 70 1 (.int i) := by
  refine ⟨?_, by simp [PyData.depth], ?_, by simp [fine]⟩
  · rw [PyData.showable]
    have : i.natAbs.log2 < 256 := by
      by_cases z : i.natAbs = 0
      · rw [z]; decide
      · exact (Nat.log2_lt z).mpr (Nat.lt_of_lt_of_le h (by decide))
    refine decide_eq_true (by omega)
  · rw [PyData.shown_int]
    have e := int_text_length_le10 (k := 62) (by decide) h
    show (Str.ofString (toString i)).length ≤ 70
    rw [PySem.ofString_length]
    omega
/-- the own tables' numbers have at most 61 figures -/
theorem own_le {rows : List (List (Option Int))} (h : ∀ r ∈ rows, r.all lowP = true) (h60 : rows.length ≤ 60) : ∀ f ∈ ownL rows, Below (10 ^ 61) f := by
  intro f m i j v hi hj n e
  obtain ⟨k, hk, rfl⟩ := List.mem_map.mp m
  have lk := List.mem_range.mp hk
  obtain ⟨v0, v1⟩ := tow_le h k (by omega) i j v hi hj n e
  refine ⟨v0, Int.le_trans v1 ?_⟩
  have : (3 : Int) ^ k ≤ 3 ^ 60 := by
    have := Nat.pow_le_pow_right (show 0 < 3 by decide) (show k ≤ 60 by omega)
    exact_mod_cast this
  have e60 : (10 : Int) ^ 32 * (3 ^ 60 - 1) ≤ 10 ^ 61 := by decide
  omega
/-- .. and the lowered ones' too -/
theorem low_le {rows : List (List (Option Int))} {fs : List Lvl} (h : ∀ r ∈ rows, r.all lowP = true) (ln : fs.length = rows.length + 1) (low : LowFs rows fs) : ∀ (k : Nat) f, k ≤ rows.length → fs[k]? = some f → Below (10 ^ 32 * (3 ^ k - 1)) f
  | 0, f, _, ef => fun i j v hi hj n e => by
    rw [low.1] at ef
    injection ef with ef
    rw [← ef] at e
    injection e with e
    subst e
    exact ⟨Int.le_refl _, by decide⟩
  | k + 1, f, hk, ef => by
    have eg : fs[k]? = some (fs[k]'(by omega)) := List.getElem?_eq_getElem _
    have ih := low_le h ln low k _ (by omega) eg
    have er : rows.reverse[k]? = some (rows.reverse[k]'(by rw [List.length_reverse]; omega)) := List.getElem?_eq_getElem _
    have pos : (1 : Int) ≤ 3 ^ k := (show (0 : Int) < 3 ^ k from Int.pow_pos (by decide))
    have st := step_le (prF_low (h _ (List.mem_reverse.mp (List.mem_of_getElem? er)))) ih (by decide) (by omega)
    rw [show (3 * (10 ^ 32 * (3 ^ k - 1)) + 2 * 10 ^ 32 : Int) = 10 ^ 32 * (3 ^ (k + 1) - 1) by rw [Int.pow_succ]; omega] at st
    intro i j v hi hj n e
    obtain ⟨ab, nn⟩ := low.2 k _ _ f er eg ef i j hi hj n
    obtain ⟨v0, v9⟩ := nn v e
    refine ⟨v0, ?_⟩
    have big : (10 : Int) ≤ 10 ^ 32 * (3 ^ (k + 1) - 1) := by rw [Int.pow_succ]; omega
    cases z : stepO (prF (rows.reverse[k]'(by rw [List.length_reverse]; omega))) (fs[k]'(by omega)) i j with
    | none => exact Int.le_trans (v9 z) big
    | some u =>
      have := (st i j u hi hj n z).2
      rw [z, e] at ab
      have ab : ¬ u < v := of_decide_eq_false ab
      omega
theorem low_le2 {rows : List (List (Option Int))} {fs : List Lvl} (h : ∀ r ∈ rows, r.all lowP = true) (h60 : rows.length ≤ 60) (ln : fs.length = rows.length + 1) (low : LowFs rows fs) : ∀ f ∈ fs, Below (10 ^ 61) f := by
  intro f m i j v hi hj n e
  obtain ⟨k, lk, ek⟩ := List.mem_iff_getElem.mp m
  have ef : fs[k]? = some f := by rw [← ek]; exact List.getElem?_eq_getElem lk
  obtain ⟨v0, v1⟩ := low_le h ln low k f (by omega) ef i j v hi hj n e
  refine ⟨v0, Int.le_trans v1 ?_⟩
  have : (3 : Int) ^ k ≤ 3 ^ 60 := by
    have := Nat.pow_le_pow_right (show 0 < 3 by decide) (show k ≤ 60 by omega)
    exact_mod_cast this
  have e60 : (10 : Int) ^ 32 * (3 ^ 60 - 1) ≤ 10 ^ 61 := by decide
  omega
end U
namespace U
open PySem PySem.Spec PyProof.Rows L2

/-! ### the data of a dict of texts and small values -/
section
variable {K : PySem.W.Frag} {H : Hp}
def ValQ (K : PySem.W.Frag) (H : Hp) (v : V) : Prop := ∃ d, Dq K H v d ∧ Slim 80 2 d
def KeyQ (k : Key) : Prop := Slim 62 2 (kD k)
theorem dq_vals : ∀ {kvs : List (Key × V)}, (∀ p ∈ kvs, KeyQ p.1 ∧ ValQ K H p.2) → ∃ es : List (PyData × PyData), es.map (·.1) = kvs.map (fun p => kD p.1) ∧ DqAll K H (kvs.map (·.2)) (es.map (·.2)) ∧ es.length = kvs.length ∧ ∀ p ∈ es, Slim 62 2 p.1 ∧ Slim 80 2 p.2
  | [], _ => ⟨[], rfl, .qnil, rfl, fun p m => by cases m⟩
  | (k, v) :: r, h => by
    obtain ⟨kq, d, dq, ds⟩ := h (k, v) List.mem_cons_self
    obtain ⟨es, e1, e2, e3, e4⟩ := dq_vals (kvs := r) fun p m => h p (List.mem_cons_of_mem _ m)
    refine ⟨(kD k, d) :: es, by simp [e1], .qcons dq e2, by simp [e3], fun p m => ?_⟩
    rcases List.mem_cons.mp m with rfl | m
    · exact ⟨kq, ds⟩
    · exact e4 p m
theorem dq_dict {d : Addr} {kvs : List (Key × V)} (h : H d = some (.dK kvs)) (n : kvs.length ≤ 7) (ok : ∀ p ∈ kvs, KeyQ p.1 ∧ ValQ K H p.2) : ∃ dd, Dq K H (.ref d) dd ∧ Slim 1024 3 dd := by
  obtain ⟨es, e1, e2, e3, e4⟩ := dq_vals ok
  exact ⟨.dict es, .qdct h e1 e2, slim_dict (A := 62) (B := 80) (D := 2) (n := 7) e4 (by omega)⟩
theorem key_way {w : Nat × Nat} (m : w ∈ waysN) : KeyQ (.inr (wd [w.1, w.2])) := by
  have all : (waysN.all fun w => slimB 62 2 (.str (wd [w.1, w.2]))) = true := by decide +kernel
  exact slimB_ok (List.all_eq_true.mp all w m)
theorem key_aa : KeyQ (.inr "aa") := slimB_ok (by decide +kernel)
theorem val_cost {o : Option Int} (h : ∀ v, o = some v → 0 ≤ v ∧ v ≤ 10 ^ 61 + 10) : ValQ K H (pV o) := by
  cases o with
  | none => exact ⟨.none, .qnon, slimB_ok (by decide +kernel)⟩
  | some v =>
    obtain ⟨h1, h2⟩ := h v rfl
    refine ⟨.int v, .qint v, (slim_big ?_).mono (by decide) (by decide)⟩
    have e : (10 : Int) ^ 61 + 10 < 10 ^ 62 := by decide
    have : (v.natAbs : Int) = v := Int.natAbs_of_nonneg h1
    have z : (v.natAbs : Int) < ((10 ^ 62 : Nat) : Int) := by rw [this]; exact Int.lt_of_le_of_lt h2 e
    exact_mod_cast z
theorem val_lvl {f : Lvl} (h : Below (10 ^ 61) f) : ∀ p ∈ wayD f, KeyQ p.1 ∧ ValQ K H p.2 := by
  intro p m
  obtain ⟨w, mw, rfl⟩ := List.mem_map.mp m
  obtain ⟨w1, w2, w3⟩ := waysN_ok w mw
  refine ⟨key_way mw, val_cost fun v e => ?_⟩
  obtain ⟨a, b⟩ := h w.1 w.2 v w1 w2 w3 e
  exact ⟨a, by omega⟩
end
end U
namespace U
open PySem PySem.Spec PyProof.Rows L2

/-! ### the data of a list of items -/
section
variable {K : PySem.W.Frag} {H : Hp}
def ItQ (K : PySem.W.Frag) (H : Hp) (v : V) : Prop := ∃ d, Dq K H v d ∧ Slim 1024 3 d
theorem dq_items : ∀ {xs : List V}, (∀ v ∈ xs, ItQ K H v) → ∃ es : List PyData, DqAll K H xs es ∧ es.length = xs.length ∧ ∀ d ∈ es, Slim 1024 3 d
  | [], _ => ⟨[], .qnil, rfl, fun p m => by cases m⟩
  | x :: r, h => by
    obtain ⟨d, dq, ds⟩ := h x List.mem_cons_self
    obtain ⟨es, e1, e2, e3⟩ := dq_items (xs := r) fun p m => h p (List.mem_cons_of_mem _ m)
    refine ⟨d :: es, .qcons dq e1, by simp [e2], fun p m => ?_⟩
    rcases List.mem_cons.mp m with rfl | m
    · exact ds
    · exact e3 p m
theorem dq_list {l : Addr} {xs : List V} (h : SqL K H l xs) (n : xs.length ≤ 62) (ok : ∀ v ∈ xs, ItQ K H v) : ∃ d, Dq K H (.ref l) d ∧ Slim 63615 4 d := by
  obtain ⟨es, e1, e2, e3⟩ := dq_items ok
  exact ⟨.list es, .qlst h e1, slim_list (B := 1024) (D := 3) (n := 62) e3 (by omega)⟩
theorem itq_dict {d : Addr} {kvs : List (Key × V)} (h : H d = some (.dK kvs)) (n : kvs.length ≤ 7) (ok : ∀ p ∈ kvs, KeyQ p.1 ∧ ValQ K H p.2) : ItQ K H (.ref d) := dq_dict h n ok
theorem itq_small {v : V} {d : PyData} (q : Dq K H v d) (s : slimB 80 2 d = true) : ItQ K H v := ⟨d, q, (slimB_ok s).mono (by decide) (by decide)⟩
/-- changed: keys and values stay of the kind -/
theorem kinds_put {kvs : List (Key × V)} {k : Key} {v : V} (h : ∀ p ∈ kvs, KeyQ p.1 ∧ ValQ K H p.2) (hk : KeyQ k) (hv : ValQ K H v) : ∀ p ∈ putK kvs k v, KeyQ p.1 ∧ ValQ K H p.2 := by
  unfold putK
  split
  case isTrue =>
    intro p m
    obtain ⟨q, mq, rfl⟩ := List.mem_map.mp m
    by_cases c : q.1 = k
    · rw [if_pos c]
      exact ⟨(h q mq).1, hv⟩
    · rw [if_neg c]
      exact h q mq
  case isFalse =>
    intro p m
    rcases List.mem_append.mp m with m | m
    · exact h p m
    · rw [List.mem_singleton.mp m]
      exact ⟨hk, hv⟩
theorem kinds_drop {kvs : List (Key × V)} {k : Key} (h : ∀ p ∈ kvs, KeyQ p.1 ∧ ValQ K H p.2) : ∀ p ∈ dropK kvs k, KeyQ p.1 ∧ ValQ K H p.2 := fun p m => h p (List.mem_filter.mp m).1
end
end U
namespace U
open PySem PySem.Spec PyProof.Rows L2

section
variable {K : PySem.W.Frag} (F : KF K) {vs : List V} {H : Hp} {Q : VK} {E : XK}
local macro_rules | `(tactic| walk_at "w") => `(tactic| try simp only [turnE, lcT, Snoc, tRet, tRetN, tAndV, tOrV, tNotV, tCB, tCons, tVar, tNil, tC, tOp, tSeq, tAsg, gName, gSub, tIfS, tDrop, tFn, tTup, tLst, tNext, tB, tTest, tNot, tAnd, tOr, tIf, tChain, tUn, rU, tFld, tPart, tNoPart, L2.tSl, tBM, tPar, tPar3, tTruth, tDNewK,
  L2.start, List.map_cons, List.map_nil, List.length_cons, List.length_nil, List.replicate_succ, List.replicate_zero, List.append_nil, List.nil_append, List.cons_append, List.singleton_append, Nat.sub_self, Nat.zero_add, Nat.reduceAdd, Nat.reduceSub,
  List.getElem?_cons_zero, List.getElem?_cons_succ, List.set_cons_zero, List.set_cons_succ, Option.some.injEq, exists_eq_left, exists_eq_left', V.int.injEq, V.bl.injEq, V.str.injEq, V.ref.injEq,
  uAdd_int, uAdd_str, uSub_int, uMul_int, uMul_str, uDiv_int, uMod_int, uPow_int, uLt_int, uLe_int, uGt_int, uGe_int, uIs_non, uNis_non, uIs_bl, uNis_bl, sp1, sp2, sp3, sp4, uEq_int, uEq_str, uNe_int, uNe_str, uSl_str, uLen_str, decide_eq_true_eq])
local macro_rules | `(tactic| walk_at "1") => `(tactic| try simp only [turnE, lcT, Snoc, tRet, tRetN, tAndV, tOrV, tNotV, tCB, tCons, tVar, tNil, tC, tOp, tAsg, gName, gSub, tIfS, tDrop, tFn, tTup, tLst, tNext, tB, tTest, tNot, tAnd, tOr, tIf, tChain, tUn, rU, tFld, tPart, tNoPart, L2.tSl, tBM, tPar, tPar3, tTruth, tDNewK,
  L2.start, List.map_cons, List.map_nil, List.length_cons, List.length_nil, List.replicate_succ, List.replicate_zero, List.append_nil, List.nil_append, List.cons_append, List.singleton_append, Nat.sub_self, Nat.zero_add, Nat.reduceAdd, Nat.reduceSub,
  List.getElem?_cons_zero, List.getElem?_cons_succ, List.set_cons_zero, List.set_cons_succ, Option.some.injEq, exists_eq_left, exists_eq_left', V.int.injEq, V.bl.injEq, V.str.injEq, V.ref.injEq,
  uAdd_int, uAdd_str, uSub_int, uMul_int, uMul_str, uDiv_int, uMod_int, uPow_int, uLt_int, uLe_int, uGt_int, uGe_int, uIs_non, uNis_non, uIs_bl, uNis_bl, sp1, sp2, sp3, sp4, uEq_int, uEq_str, uNe_int, uNe_str, uSl_str, uLen_str, decide_eq_true_eq])
local macro_rules | `(tactic| walk_at "s") => `(tactic| ((try dsimp only [turnE]); with_reducible refine seq_ ?_))

include F in
theorem bent_head {b l : Addr} {m : Int} {fs : List Lvl} {x2 x3 x4 x5 x6 x7 : Option V} {D : Ends} (hb : Bx H b m) (hm : m ≤ 900000) (hl : LvT H l fs) (f1 : 1 ≤ fs.length) (few : fs.length ≤ 61)
    (q : ∀ c way k w x7 H1 H', TabF H H1 c fs → Off b H1 H' → Bx H' b (m + 3) → 0 ≤ way → way < 10 → k < fs.length → w ∈ waysN → D.nx [some (.ref b), some (.ref l), some (.ref c), some (.int way), some (.int (k : Nat)), some (.str (wd [w.1, w.2])), some (pV (((fs[k]?).getD zeroL) w.1 w.2)), x7] H') :
    (tSeq (tPar 2 3 (tCons (tLc (iSeq K (tVar 1)) (gName 7) tYes (tCB rDictC (tCons (tVar 7) tNil)) [7]) (tCons (tFn (sp__law_take K) E (tCons (tVar 0) (tCons (tC (.int 10)) tNil))) tNil))) (tSeq (tPar 4 5 (tCons (tFn (sp__law_take K) E (tCons (tVar 0) (tCons (tCB (uLen K) (tCons (tVar 2) tNil)) tNil))) (tCons (tOp (uIx K) (tC (.ref (He.ga K "WAYS"))) (tFn (sp__law_take K) E (tCons (tVar 0) (tCons (tC (.int 6)) tNil)))) tNil))) (tAsg (tDGet (tOp (uIx K) (tVar 2) (tVar 4)) (tVar 5)) (gName 6)))) D [some (.ref b), some (.ref l), x2, x3, x4, x5, x6, x7] H := by
  walk_at "s"
  walk_at "1"
  refine bent_copies rfl (by show 7 < 8; decide) hl (by omega) fun c H1 tab => ?_
  have b1 : Bx H1 b m := hb.same tab.1
  refine take_of b1 (by omega) (by omega) (by omega) fun way H2 w0 w10 o2 b2 => ?_
  refine ⟨_, _, rfl, ?_⟩
  walk_at "s"
  walk_at "1"
  obtain ⟨s01, nc, ds, gc, ld, at_, nd, ncd, fr⟩ := id tab
  have cb := hb.ne nc
  refine uLen_seq (xs := ds.map V.ref) (.inl (.inl (.inl (o2 _ _ cb gc)))) ?_
  rw [List.length_map, ld]
  refine take_of b2 (by omega) (by omega) (by omega) fun a H3 a0 a1 o3 b3 => ?_
  obtain ⟨k, rfl⟩ := Int.eq_ofNat_of_zero_le a0
  refine take_of b3 (by omega) (by omega) (by omega) fun y H4 y0 y6 o4 b4 => ?_
  obtain ⟨j, rfl⟩ := Int.eq_ofNat_of_zero_le y0
  obtain ⟨w, hw⟩ : ∃ w, waysN[j]? = some w := ⟨_, List.getElem?_eq_getElem (by show j < 6; omega)⟩
  have o14 := o2.trans (o3.trans o4)
  refine ⟨waysN.map fun w => V.str (wd [w.1, w.2]), .str (wd [w.1, w.2]), .inr (ways6V ▸ F.ways H4), at_nat (by rw [List.getElem?_map, hw]; rfl), ?_⟩
  refine ⟨_, _, rfl, ?_⟩
  simp only [tDGet]
  walk_at "1"
  have lk : k < fs.length := by omega
  have ed : ds[k]? = some (ds[k]'(by omega)) := List.getElem?_eq_getElem _
  have ef : fs[k]? = some fs[k] := List.getElem?_eq_getElem lk
  have mw := List.mem_of_getElem? hw
  obtain ⟨w1, w2, w3⟩ := waysN_ok w mw
  have db := hb.ne (fr _ (List.mem_of_getElem? ed))
  refine uIx_lst (o14 _ _ cb gc) (at_nat (by rw [List.getElem?_map, ed]; rfl)) ?_
  refine ⟨_, _, rfl, dget_wayD (o14 _ _ db (at_ k _ _ ed ef)) w1 w2 w3, ?_⟩
  have := q c way k w x7 H1 H4 tab o14 (b4.mono (by omega)) w0 w10 lk mw
  rw [ef] at this
  exact this
end
end U
namespace U
open PySem PySem.Spec PyProof.Rows L2

section
variable {K : PySem.W.Frag} (F : KF K) {vs : List V} {H : Hp} {Q : VK} {E : XK}
local macro_rules | `(tactic| walk_at "w") => `(tactic| try simp only [turnE, lcT, Snoc, tRet, tRetN, tAndV, tOrV, tNotV, tCB, tCons, tVar, tNil, tC, tOp, tSeq, tAsg, gName, gSub, tIfS, tDrop, tFn, tTup, tLst, tNext, tB, tTest, tNot, tAnd, tOr, tIf, tChain, tUn, rU, tFld, tPart, tNoPart, L2.tSl, tBM, tPar, tPar3, tTruth, tDNewK,
  L2.start, List.map_cons, List.map_nil, List.length_cons, List.length_nil, List.replicate_succ, List.replicate_zero, List.append_nil, List.nil_append, List.cons_append, List.singleton_append, Nat.sub_self, Nat.zero_add, Nat.reduceAdd, Nat.reduceSub,
  List.getElem?_cons_zero, List.getElem?_cons_succ, List.set_cons_zero, List.set_cons_succ, Option.some.injEq, exists_eq_left, exists_eq_left', V.int.injEq, V.bl.injEq, V.str.injEq, V.ref.injEq,
  uAdd_int, uAdd_str, uSub_int, uMul_int, uMul_str, uDiv_int, uMod_int, uPow_int, uLt_int, uLe_int, uGt_int, uGe_int, uIs_non, uNis_non, uIs_bl, uNis_bl, sp1, sp2, sp3, sp4, uEq_int, uEq_str, uNe_int, uNe_str, uSl_str, uLen_str, decide_eq_true_eq])
local macro_rules | `(tactic| walk_at "1") => `(tactic| try simp only [turnE, lcT, Snoc, tRet, tRetN, tAndV, tOrV, tNotV, tCB, tCons, tVar, tNil, tC, tOp, tAsg, gName, gSub, tIfS, tDrop, tFn, tTup, tLst, tNext, tB, tTest, tNot, tAnd, tOr, tIf, tChain, tUn, rU, tFld, tPart, tNoPart, L2.tSl, tBM, tPar, tPar3, tTruth, tDNewK,
  L2.start, List.map_cons, List.map_nil, List.length_cons, List.length_nil, List.replicate_succ, List.replicate_zero, List.append_nil, List.nil_append, List.cons_append, List.singleton_append, Nat.sub_self, Nat.zero_add, Nat.reduceAdd, Nat.reduceSub,
  List.getElem?_cons_zero, List.getElem?_cons_succ, List.set_cons_zero, List.set_cons_succ, Option.some.injEq, exists_eq_left, exists_eq_left', V.int.injEq, V.bl.injEq, V.str.injEq, V.ref.injEq,
  uAdd_int, uAdd_str, uSub_int, uMul_int, uMul_str, uDiv_int, uMod_int, uPow_int, uLt_int, uLe_int, uGt_int, uGe_int, uIs_non, uNis_non, uIs_bl, uNis_bl, sp1, sp2, sp3, sp4, uEq_int, uEq_str, uNe_int, uNe_str, uSl_str, uLen_str, decide_eq_true_eq])
local macro_rules | `(tactic| walk_at "s") => `(tactic| ((try dsimp only [turnE]); with_reducible refine seq_ ?_))

theorem if_skip {σ : L2.St} {S : TS} {D : Ends} {way n : Int} (h3 : σ[3]? = some (some (.int way))) (ne : way ≠ n) (q : D.nx σ H) : tIfS (tTest (tOp (uEq K) (tVar 3) (tC (.int n)))) S tNext D σ H := by
  simp only [tIfS, tTest, tOp, tVar, tC, tNext]
  refine ⟨_, h3, _, rfl, ?_⟩
  rw [if_neg (by simpa using ne)]
  exact q
theorem if_take {σ : L2.St} {S : TS} {D : Ends} {way n : Int} (h3 : σ[3]? = some (some (.int way))) (e : way = n) (q : S D σ H) : tIfS (tTest (tOp (uEq K) (tVar 3) (tC (.int n)))) S tNext D σ H := by
  simp only [tIfS, tTest, tOp, tVar, tC, tNext]
  refine ⟨_, h3, _, rfl, ?_⟩
  rw [if_pos (by simpa using e)]
  exact q
/-- kind 1: no cost -/
theorem bent_1 {b l c : Addr} {k : Nat} {w : Nat × Nat} {x6 x7 : Option V} {ds : List Addr} {kss : List (List (Key × V))} {kvs : List (Key × V)} {d : Addr} {D : Ends} (f : Fnd K H c ds kss) (e : ds[k]? = some d) (e2 : kss[k]? = some kvs) (few : kvs.length < sizeLine)
    (q : D.nx [some (.ref b), some (.ref l), some (.ref c), some (.int 1), some (.int (k : Nat)), some (.str (wd [w.1, w.2])), x6, x7] (upd H d (.dK (putK kvs (.inr (wd [w.1, w.2])) .non)))) :
    (tIfS (tTest (tOp (uEq K) (tVar 3) (tC (.int 1)))) (tAsg (tC .non) (gSub (tOp (uIx K) (tVar 2) (tVar 4)) (tVar 5) rSetD)) tNext) D [some (.ref b), some (.ref l), some (.ref c), some (.int 1), some (.int (k : Nat)), some (.str (wd [w.1, w.2])), x6, x7] H := by
  refine if_take rfl rfl ?_
  have dc := f.2.2.1 k d kvs e e2
  walk_at "1"
  refine uIx_lst f.1 (at_nat (by rw [List.getElem?_map, e]; rfl)) ?_
  exact ⟨d, _, rfl, DPut.k (k := .inr (wd [w.1, w.2])) dc.1 few, q⟩
/-- kind 3: a key less -/
theorem bent_3 {b l c : Addr} {k : Nat} {w : Nat × Nat} {x6 x7 : Option V} {ds : List Addr} {kss : List (List (Key × V))} {kvs : List (Key × V)} {v : V} {d : Addr} {D : Ends} (f : Fnd K H c ds kss) (e : ds[k]? = some d) (e2 : kss[k]? = some kvs) (ev : valV kvs (.inr (wd [w.1, w.2])) = some v)
    (q : D.nx [some (.ref b), some (.ref l), some (.ref c), some (.int 3), some (.int (k : Nat)), some (.str (wd [w.1, w.2])), x6, x7] (upd H d (.dK (dropK kvs (.inr (wd [w.1, w.2])))))) :
    (tIfS (tTest (tOp (uEq K) (tVar 3) (tC (.int 3)))) (tDrop (tBM K "dict" rPopD (tOp (uIx K) (tVar 2) (tVar 4)) (tCons (tVar 5) tNil))) tNext) D [some (.ref b), some (.ref l), some (.ref c), some (.int 3), some (.int (k : Nat)), some (.str (wd [w.1, w.2])), x6, x7] H := by
  refine if_take rfl rfl ?_
  have dc := f.2.2.1 k d kvs e e2
  walk_at "1"
  refine uIx_lst f.1 (at_nat (by rw [List.getElem?_map, e]; rfl)) ?_
  exact ⟨.inr (.inr (.inl ⟨rfl, .inl ⟨_, dc.1⟩⟩)), d, kvs, .inr (wd [w.1, w.2]), v, rfl, rfl, dc.1, ev, q⟩
/-- kind 6: a tuple of them -/
theorem bent_6 {b l c : Addr} {k : Nat} {w : Nat × Nat} {x6 x7 : Option V} {ds : List Addr} {kss : List (List (Key × V))} {D : Ends} (f : Fnd K H c ds kss)
    (q : ∀ t H', Same H H' → H t = none → H' t = some (.tup (ds.map V.ref)) → D.rt (.ref t) H') :
    (tIfS (tTest (tOp (uEq K) (tVar 3) (tC (.int 6)))) (tRet (tCB (uTup K) (tCons (tVar 2) tNil))) tNext) D [some (.ref b), some (.ref l), some (.ref c), some (.int 6), some (.int (k : Nat)), some (.str (wd [w.1, w.2])), x6, x7] H := by
  refine if_take rfl rfl ?_
  walk_at "1"
  exact ⟨ds.map V.ref, .inl ⟨.inl (.inl f.1), fun t nt => q t _ (same_new nt) nt upd_same⟩⟩
end
end U
namespace U
open PySem PySem.Spec PyProof.Rows L2

section
variable {K : PySem.W.Frag} (F : KF K) {vs : List V} {H : Hp} {Q : VK} {E : XK}
local macro_rules | `(tactic| walk_at "w") => `(tactic| try simp only [turnE, lcT, Snoc, tRet, tRetN, tAndV, tOrV, tNotV, tCB, tCons, tVar, tNil, tC, tOp, tSeq, tAsg, gName, gSub, tIfS, tDrop, tFn, tTup, tLst, tNext, tB, tTest, tNot, tAnd, tOr, tIf, tChain, tUn, rU, tFld, tPart, tNoPart, L2.tSl, tBM, tPar, tPar3, tTruth, tDNewK,
  L2.start, List.map_cons, List.map_nil, List.length_cons, List.length_nil, List.replicate_succ, List.replicate_zero, List.append_nil, List.nil_append, List.cons_append, List.singleton_append, Nat.sub_self, Nat.zero_add, Nat.reduceAdd, Nat.reduceSub,
  List.getElem?_cons_zero, List.getElem?_cons_succ, List.set_cons_zero, List.set_cons_succ, Option.some.injEq, exists_eq_left, exists_eq_left', V.int.injEq, V.bl.injEq, V.str.injEq, V.ref.injEq,
  uAdd_int, uAdd_str, uSub_int, uMul_int, uMul_str, uDiv_int, uMod_int, uPow_int, uLt_int, uLe_int, uGt_int, uGe_int, uIs_non, uNis_non, uIs_bl, uNis_bl, sp1, sp2, sp3, sp4, uEq_int, uEq_str, uNe_int, uNe_str, uSl_str, uLen_str, decide_eq_true_eq])
local macro_rules | `(tactic| walk_at "1") => `(tactic| try simp only [turnE, lcT, Snoc, tRet, tRetN, tAndV, tOrV, tNotV, tCB, tCons, tVar, tNil, tC, tOp, tAsg, gName, gSub, tIfS, tDrop, tFn, tTup, tLst, tNext, tB, tTest, tNot, tAnd, tOr, tIf, tChain, tUn, rU, tFld, tPart, tNoPart, L2.tSl, tBM, tPar, tPar3, tTruth, tDNewK,
  L2.start, List.map_cons, List.map_nil, List.length_cons, List.length_nil, List.replicate_succ, List.replicate_zero, List.append_nil, List.nil_append, List.cons_append, List.singleton_append, Nat.sub_self, Nat.zero_add, Nat.reduceAdd, Nat.reduceSub,
  List.getElem?_cons_zero, List.getElem?_cons_succ, List.set_cons_zero, List.set_cons_succ, Option.some.injEq, exists_eq_left, exists_eq_left', V.int.injEq, V.bl.injEq, V.str.injEq, V.ref.injEq,
  uAdd_int, uAdd_str, uSub_int, uMul_int, uMul_str, uDiv_int, uMod_int, uPow_int, uLt_int, uLe_int, uGt_int, uGe_int, uIs_non, uNis_non, uIs_bl, uNis_bl, sp1, sp2, sp3, sp4, uEq_int, uEq_str, uNe_int, uNe_str, uSl_str, uLen_str, decide_eq_true_eq])
local macro_rules | `(tactic| walk_at "s") => `(tactic| ((try dsimp only [turnE]); with_reducible refine seq_ ?_))

/-- kind 5: one table twice -/
theorem bent_5 {b l c d : Addr} {k : Nat} {w : Nat × Nat} {x6 x7 : Option V} {ds : List Addr} {kss : List (List (Key × V))} {kvs : List (Key × V)} {D : Ends} (f : Fnd K H c ds kss) (e : ds[k]? = some d) (e2 : kss[k]? = some kvs) (few : ds.length ≤ 1000)
    (q : ∀ p H1, Same H H1 → H p = none → DcV K H1 p kvs → D.nx [some (.ref b), some (.ref l), some (.ref c), some (.int 5), some (.int (k : Nat)), some (.str (wd [w.1, w.2])), x6, x7] (upd H1 c (.lst ((ds.take k ++ [p] ++ ds.drop k).map V.ref)))) :
    (tIfS (tTest (tOp (uEq K) (tVar 3) (tC (.int 5)))) (tDrop (tBM K "list" rInsert (tVar 2) (tCons (tVar 4) (tCons (tCB rDictC (tCons (tOp (uIx K) (tVar 2) (tVar 4)) tNil)) tNil)))) tNext) D [some (.ref b), some (.ref l), some (.ref c), some (.int 5), some (.int (k : Nat)), some (.str (wd [w.1, w.2])), x6, x7] H := by
  refine if_take rfl rfl ?_
  have dc := f.2.2.1 k d kvs e e2
  have lk := (List.getElem?_eq_some_iff.mp e).1
  walk_at "1"
  refine ⟨tyL f.1, ?_⟩
  refine uIx_lst f.1 (at_nat (by rw [List.getElem?_map, e]; rfl)) ?_
  refine ⟨d, kvs, rfl, .inl dc.1, fun p np => ?_⟩
  have s1 : Same H (upd H p (.dK kvs)) := same_new np
  have d1 : DcV K (upd H p (.dK kvs)) p kvs := ⟨upd_same, fun x m => (dc.2.1 x m).same s1, dc.2.2⟩
  have c1 := s1 _ _ f.1
  refine ⟨c, _, k, .ref p, rfl, rfl, c1, by rw [List.length_map]; exact few, by omega, ?_⟩
  have := q p _ s1 np d1
  rw [List.map_append, List.map_append, List.map_take, List.map_drop] at this
  exact this
end
end U
namespace U
open PySem PySem.Spec PyProof.Rows L2

section
variable {K : PySem.W.Frag} (F : KF K) {vs : List V} {H : Hp} {Q : VK} {E : XK}
local macro_rules | `(tactic| walk_at "w") => `(tactic| try simp only [turnE, lcT, Snoc, tRet, tRetN, tAndV, tOrV, tNotV, tCB, tCons, tVar, tNil, tC, tOp, tSeq, tAsg, gName, gSub, tIfS, tDrop, tFn, tTup, tLst, tNext, tB, tTest, tNot, tAnd, tOr, tIf, tChain, tUn, rU, tFld, tPart, tNoPart, L2.tSl, tBM, tPar, tPar3, tTruth, tDNewK,
  L2.start, List.map_cons, List.map_nil, List.length_cons, List.length_nil, List.replicate_succ, List.replicate_zero, List.append_nil, List.nil_append, List.cons_append, List.singleton_append, Nat.sub_self, Nat.zero_add, Nat.reduceAdd, Nat.reduceSub,
  List.getElem?_cons_zero, List.getElem?_cons_succ, List.set_cons_zero, List.set_cons_succ, Option.some.injEq, exists_eq_left, exists_eq_left', V.int.injEq, V.bl.injEq, V.str.injEq, V.ref.injEq,
  uAdd_int, uAdd_str, uSub_int, uMul_int, uMul_str, uDiv_int, uMod_int, uPow_int, uLt_int, uLe_int, uGt_int, uGe_int, uIs_non, uNis_non, uIs_bl, uNis_bl, sp1, sp2, sp3, sp4, uEq_int, uEq_str, uNe_int, uNe_str, uSl_str, uLen_str, decide_eq_true_eq])
local macro_rules | `(tactic| walk_at "1") => `(tactic| try simp only [turnE, lcT, Snoc, tRet, tRetN, tAndV, tOrV, tNotV, tCB, tCons, tVar, tNil, tC, tOp, tAsg, gName, gSub, tIfS, tDrop, tFn, tTup, tLst, tNext, tB, tTest, tNot, tAnd, tOr, tIf, tChain, tUn, rU, tFld, tPart, tNoPart, L2.tSl, tBM, tPar, tPar3, tTruth, tDNewK,
  L2.start, List.map_cons, List.map_nil, List.length_cons, List.length_nil, List.replicate_succ, List.replicate_zero, List.append_nil, List.nil_append, List.cons_append, List.singleton_append, Nat.sub_self, Nat.zero_add, Nat.reduceAdd, Nat.reduceSub,
  List.getElem?_cons_zero, List.getElem?_cons_succ, List.set_cons_zero, List.set_cons_succ, Option.some.injEq, exists_eq_left, exists_eq_left', V.int.injEq, V.bl.injEq, V.str.injEq, V.ref.injEq,
  uAdd_int, uAdd_str, uSub_int, uMul_int, uMul_str, uDiv_int, uMod_int, uPow_int, uLt_int, uLe_int, uGt_int, uGe_int, uIs_non, uNis_non, uIs_bl, uNis_bl, sp1, sp2, sp3, sp4, uEq_int, uEq_str, uNe_int, uNe_str, uSl_str, uLen_str, decide_eq_true_eq])
local macro_rules | `(tactic| walk_at "s") => `(tactic| ((try dsimp only [turnE]); with_reducible refine seq_ ?_))

/-- kind 0: a greater number -/
theorem bent_0 {b l c d : Addr} {m : Int} {k : Nat} {w : Nat × Nat} {o : Option Int} {x7 : Option V} {ds : List Addr} {kss : List (List (Key × V))} {kvs : List (Key × V)} {D : Ends} (hb : Bx H b m) (hm : m ≤ 900000) (cb : c ≠ b) (db : d ≠ b) (f : Fnd K H c ds kss) (e : ds[k]? = some d) (e2 : kss[k]? = some kvs) (few : kvs.length < sizeLine)
    (q : ∀ t H1, 0 ≤ t → t < 9 → Off b H H1 → Bx H1 b (m + 1) → D.nx [some (.ref b), some (.ref l), some (.ref c), some (.int 0), some (.int (k : Nat)), some (.str (wd [w.1, w.2])), some (pV o), x7] (upd H1 d (.dK (putK kvs (.inr (wd [w.1, w.2])) (.int (1 + t + o.getD 0)))))) :
    (tIfS (tTest (tOp (uEq K) (tVar 3) (tC (.int 0)))) (tAsg (tOp uAdd (tOp uAdd (tC (.int 1)) (tFn (sp__law_take K) E (tCons (tVar 0) (tCons (tC (.int 9)) tNil)))) (tIf (tTest (tOp uIs (tVar 6) (tC .non))) (tC (.int 0)) (tVar 6))) (gSub (tOp (uIx K) (tVar 2) (tVar 4)) (tVar 5) rSetD)) tNext) D [some (.ref b), some (.ref l), some (.ref c), some (.int 0), some (.int (k : Nat)), some (.str (wd [w.1, w.2])), some (pV o), x7] H := by
  refine if_take rfl rfl ?_
  have dc := f.2.2.1 k d kvs e e2
  walk_at "1"
  refine take_of hb (by omega) (by omega) (by omega) fun t H1 t0 t9 o1 b1 => ?_
  have go : uIx K (.ref c) (.int (k : Nat)) H1 fun x H2 => rSetD x (.str (wd [w.1, w.2])) (.int (1 + t + o.getD 0)) H2 (D.nx [some (.ref b), some (.ref l), some (.ref c), some (.int 0), some (.int (k : Nat)), some (.str (wd [w.1, w.2])), some (pV o), x7]) := by
    refine uIx_lst (o1 _ _ cb f.1) (at_nat (by rw [List.getElem?_map, e]; rfl)) ?_
    exact ⟨d, _, rfl, DPut.k (k := .inr (wd [w.1, w.2])) (o1 _ _ db dc.1) few, q t H1 t0 t9 o1 b1⟩
  cases o with
  | none =>
    walk_at "1"
    rw [if_pos (show pV none = V.non from rfl)]
    exact go
  | some v =>
    walk_at "1"
    rw [if_neg (by intro z; cases z)]
    exact go
/-- kind 4: a key that no table has, and a key less or not -/
theorem bent_4 {b l c d : Addr} {m : Int} {k : Nat} {w : Nat × Nat} {x6 x7 : Option V} {ds : List Addr} {kss : List (List (Key × V))} {kvs : List (Key × V)} {v : V} {D : Ends} (hb : Bx H b m) (hm : m ≤ 900000) (cb : c ≠ b) (db : d ≠ b) (dd : d ≠ c) (f : Fnd K H c ds kss) (e : ds[k]? = some d) (e2 : kss[k]? = some kvs) (few : kvs.length < sizeLine) (ev : valV (putK kvs (.inr "aa") (.int 0)) (.inr (wd [w.1, w.2])) = some v)
    (q : ∀ H1 ks, ks = putK kvs (.inr "aa") (.int 0) ∨ ks = dropK (putK kvs (.inr "aa") (.int 0)) (.inr (wd [w.1, w.2])) → Off b (upd H d (.dK (putK kvs (.inr "aa") (.int 0)))) H1 → Bx H1 b (m + 1) → D.nx [some (.ref b), some (.ref l), some (.ref c), some (.int 4), some (.int (k : Nat)), some (.str (wd [w.1, w.2])), x6, x7] (upd H1 d (.dK ks))) :
    (tIfS (tTest (tOp (uEq K) (tVar 3) (tC (.int 4)))) (tSeq (tAsg (tC (.int 0)) (gSub (tOp (uIx K) (tVar 2) (tVar 4)) (tC (.str "aa")) rSetD)) (tIfS (tTest (tOp (uEq K) (tFn (sp__law_take K) E (tCons (tVar 0) (tCons (tC (.int 2)) tNil))) (tC (.int 0)))) (tDrop (tBM K "dict" rPopD (tOp (uIx K) (tVar 2) (tVar 4)) (tCons (tVar 5) tNil))) tNext)) tNext) D [some (.ref b), some (.ref l), some (.ref c), some (.int 4), some (.int (k : Nat)), some (.str (wd [w.1, w.2])), x6, x7] H := by
  refine if_take rfl rfl ?_
  have dc := f.2.2.1 k d kvs e e2
  walk_at "s"
  walk_at "1"
  refine uIx_lst f.1 (at_nat (by rw [List.getElem?_map, e]; rfl)) ?_
  refine ⟨d, _, rfl, DPut.k (k := .inr "aa") dc.1 few, ?_⟩
  have b0 : Bx (upd H d (.dK (putK kvs (.inr "aa") (.int 0)))) b m := hb.upd db
  refine take_of b0 (by omega) (by omega) (by omega) fun t H1 t0 t9 o1 b1 => ?_
  have gd := o1 _ _ db upd_same
  have gc := o1 _ _ cb (show upd H d (.dK (putK kvs (.inr "aa") (.int 0))) c = _ from (upd_ne (Ne.symm dd)).trans f.1)
  refine ⟨_, rfl, ?_⟩
  by_cases z : t = 0
  · rw [if_pos (decide_eq_true z)]
    refine uIx_lst gc (at_nat (by rw [List.getElem?_map, e]; rfl)) ?_
    exact ⟨.inr (.inr (.inl ⟨rfl, .inl ⟨_, gd⟩⟩)), d, _, .inr (wd [w.1, w.2]), v, rfl, rfl, gd, ev, q H1 _ (.inr rfl) o1 b1⟩
  · rw [if_neg (by simpa using z)]
    have := q H1 _ (.inl rfl) o1 b1
    rw [show upd H1 d (.dK (putK kvs (.inr "aa") (.int 0))) = H1 from funext fun a => by
      by_cases x : a = d
      · rw [x, upd_same, gd]
      · rw [upd_ne x]] at this
    exact this
end
end U
namespace U
open PySem PySem.Spec PyProof.Rows L2 LiI

/-! ### what stands in the place of a number or of a table -/
theorem five_at {α : Type} {x0 x1 x2 x3 x4 : α} {P : α → Prop} {t : Int} (t0 : 0 ≤ t) (t5 : t < 5) (h0 : P x0) (h1 : P x1) (h2 : P x2) (h3 : P x3) (h4 : P x4) : ∃ v, atI [x0, x1, x2, x3, x4] t = some v ∧ P v := by
  obtain rfl | rfl | rfl | rfl | rfl : t = 0 ∨ t = 1 ∨ t = 2 ∨ t = 3 ∨ t = 4 := by omega
  · exact ⟨_, rfl, h0⟩
  · exact ⟨_, rfl, h1⟩
  · exact ⟨_, rfl, h2⟩
  · exact ⟨_, rfl, h3⟩
  · exact ⟨_, rfl, h4⟩
theorem four_at {α : Type} {x0 x1 x2 x3 : α} {P : α → Prop} {t : Int} (t0 : 0 ≤ t) (t4 : t < 4) (h0 : P x0) (h1 : P x1) (h2 : P x2) (h3 : P x3) : ∃ v, atI [x0, x1, x2, x3] t = some v ∧ P v := by
  obtain rfl | rfl | rfl | rfl : t = 0 ∨ t = 1 ∨ t = 2 ∨ t = 3 := by omega
  · exact ⟨_, rfl, h0⟩
  · exact ⟨_, rfl, h1⟩
  · exact ⟨_, rfl, h2⟩
  · exact ⟨_, rfl, h3⟩
theorem merge_nodup : ∀ {more acc : List (Key × V)}, ((acc ++ more).map (·.1)).Nodup → mergeK acc more = acc ++ more
  | [], acc, _ => (List.append_nil acc).symm
  | p :: r, acc, h => by
    have e : putK acc p.1 p.2 = acc ++ [p] := by
      unfold putK
      rw [if_neg]
      intro z
      obtain ⟨q, mq, e⟩ := List.any_eq_true.mp z
      have e : q.1 = p.1 := of_decide_eq_true e
      rw [List.map_append] at h
      exact (List.nodup_append.mp h).2.2 q.1 (List.mem_map_of_mem mq) p.1 (by simp) e
    show mergeK (putK acc p.1 p.2) r = _
    rw [e, merge_nodup (by simpa using h), List.append_assoc]
    rfl
theorem paired_snoc {α β : Type} {F : α → β → Prop} {a : α} {b : β} : ∀ {xs : List α} {ys : List β}, Paired F xs ys → F a b → Paired F (xs ++ [a]) (ys ++ [b])
  | _, _, .nil, h => (.cons h .nil)
  | _, _, .cons g t, h => .cons g (paired_snoc t h)
theorem paired_rev {α β : Type} {F : α → β → Prop} : ∀ {xs : List α} {ys : List β}, Paired F xs ys → Paired F xs.reverse ys.reverse
  | _, _, .nil => .nil
  | _, _, .cons g t => by
    (rw [List.reverse_cons, List.reverse_cons])
    exact paired_snoc (paired_rev t) g
theorem paired_mono {α β : Type} {F G : α → β → Prop} (k : ∀ a b, F a b → G a b) : ∀ {xs : List α} {ys : List β}, Paired F xs ys → Paired G xs ys
  | _, _, .nil => .nil
  | _, _, .cons g t => .cons (k _ _ g) (paired_mono k t)
theorem ix_in {n k : Nat} (h : k < n) : ixN n (k : Int) = some k := by
  unfold ixN
  (rw [if_pos (by omega), if_pos (by omega)])
  rfl
section
variable {K : PySem.W.Frag} (F : KF K) {vs : List V} {H : Hp} {Q : VK} {E : XK}
local macro_rules | `(tactic| walk_at "w") => `(tactic| try simp only [turnE, lcT, Snoc, tRet, tRetN, tAndV, tOrV, tNotV, tCB, tCons, tVar, tNil, tC, tOp, tSeq, tAsg, gName, gSub, tIfS, tDrop, tFn, tTup, tLst, tNext, tB, tTest, tNot, tAnd, tOr, tIf, tChain, tUn, rU, tFld, tPart, tNoPart, L2.tSl, tBM, tPar, tPar3, tTruth, tDNewK,
  L2.start, List.map_cons, List.map_nil, List.length_cons, List.length_nil, List.replicate_succ, List.replicate_zero, List.append_nil, List.nil_append, List.cons_append, List.singleton_append, Nat.sub_self, Nat.zero_add, Nat.reduceAdd, Nat.reduceSub,
  List.getElem?_cons_zero, List.getElem?_cons_succ, List.set_cons_zero, List.set_cons_succ, Option.some.injEq, exists_eq_left, exists_eq_left', V.int.injEq, V.bl.injEq, V.str.injEq, V.ref.injEq,
  uAdd_int, uAdd_str, uSub_int, uMul_int, uMul_str, uDiv_int, uMod_int, uPow_int, uLt_int, uLe_int, uGt_int, uGe_int, uIs_non, uNis_non, uIs_bl, uNis_bl, sp1, sp2, sp3, sp4, uEq_int, uEq_str, uNe_int, uNe_str, uSl_str, uLen_str, decide_eq_true_eq])
local macro_rules | `(tactic| walk_at "1") => `(tactic| try simp only [turnE, lcT, Snoc, tRet, tRetN, tAndV, tOrV, tNotV, tCB, tCons, tVar, tNil, tC, tOp, tAsg, gName, gSub, tIfS, tDrop, tFn, tTup, tLst, tNext, tB, tTest, tNot, tAnd, tOr, tIf, tChain, tUn, rU, tFld, tPart, tNoPart, L2.tSl, tBM, tPar, tPar3, tTruth, tDNewK,
  L2.start, List.map_cons, List.map_nil, List.length_cons, List.length_nil, List.replicate_succ, List.replicate_zero, List.append_nil, List.nil_append, List.cons_append, List.singleton_append, Nat.sub_self, Nat.zero_add, Nat.reduceAdd, Nat.reduceSub,
  List.getElem?_cons_zero, List.getElem?_cons_succ, List.set_cons_zero, List.set_cons_succ, Option.some.injEq, exists_eq_left, exists_eq_left', V.int.injEq, V.bl.injEq, V.str.injEq, V.ref.injEq,
  uAdd_int, uAdd_str, uSub_int, uMul_int, uMul_str, uDiv_int, uMod_int, uPow_int, uLt_int, uLe_int, uGt_int, uGe_int, uIs_non, uNis_non, uIs_bl, uNis_bl, sp1, sp2, sp3, sp4, uEq_int, uEq_str, uNe_int, uNe_str, uSl_str, uLen_str, decide_eq_true_eq])
local macro_rules | `(tactic| walk_at "s") => `(tactic| ((try dsimp only [turnE]); with_reducible refine seq_ ?_))

theorem valq_small {v : V} {d : PyData} (q : Dq K H v d) (s : slimB 80 2 d = true) : ValQ K H v := ⟨d, q, slimB_ok s⟩
/-- kind 2: another thing in the place of a number -/
theorem bent_2 {b l c d : Addr} {m : Int} {k : Nat} {w : Nat × Nat} {x6 x7 : Option V} {ds : List Addr} {kss : List (List (Key × V))} {kvs : List (Key × V)} {D : Ends} (hb : Bx H b m) (hm : m ≤ 900000) (cb : c ≠ b) (db : d ≠ b) (f : Fnd K H c ds kss) (e : ds[k]? = some d) (e2 : kss[k]? = some kvs) (few : kvs.length < sizeLine)
    (q : ∀ v H1, Off b H H1 → Bx H1 b (m + 1) → (∀ H', Off2 d b H1 H' → OkV K H' v ∧ ValQ K H' v) → D.nx [some (.ref b), some (.ref l), some (.ref c), some (.int 2), some (.int (k : Nat)), some (.str (wd [w.1, w.2])), x6, x7] (upd H1 d (.dK (putK kvs (.inr (wd [w.1, w.2])) v)))) :
    (tIfS (tTest (tOp (uEq K) (tVar 3) (tC (.int 2)))) (tAsg (tOp (uIx K) (tLst (tCons (tC (.bl true)) (tCons (tUn (rU fun i => .int (-i)) (tC (.int 1))) (tCons (tC (.str "1")) (tCons (tLst (tCons (tC (.int 0)) tNil)) (tCons (tC (.int 0)) tNil)))))) (tFn (sp__law_take K) E (tCons (tVar 0) (tCons (tC (.int 5)) tNil)))) (gSub (tOp (uIx K) (tVar 2) (tVar 4)) (tVar 5) rSetD)) tNext) D [some (.ref b), some (.ref l), some (.ref c), some (.int 2), some (.int (k : Nat)), some (.str (wd [w.1, w.2])), x6, x7] H := by
  refine if_take rfl rfl ?_
  have dc := f.2.2.1 k d kvs e e2
  walk_at "1"
  refine ⟨by decide, fun p np => ?_⟩
  have s1 : Same H (upd H p (.lst [.int 0])) := same_new np
  have gp : upd H p (.lst [.int 0]) p = some (.lst [.int 0]) := upd_same
  have pd : p ≠ d := by rintro rfl; rw [dc.1] at np; cases np
  have b1 := hb.same s1
  have pb : p ≠ b := hb.ne np
  generalize upd H p (.lst [.int 0]) = H1 at *
  refine ⟨by decide, fun t5 n5 => ?_⟩
  have s2 : Same H1 (upd H1 t5 (.lst [.bl true, .int (-1), .str "1", .ref p, .int 0])) := same_new n5
  have g5 : upd H1 t5 (.lst [.bl true, .int (-1), .str "1", .ref p, .int 0]) t5 = some (.lst [.bl true, .int (-1), .str "1", .ref p, .int 0]) := upd_same
  have b2 := b1.same s2
  have tb : t5 ≠ b := b1.ne n5
  refine (show sp__law_take K [.ref b, .int 5] (upd H1 t5 (.lst [.bl true, .int (-1), .str "1", .ref p, .int 0])) _ _ from ?_)
  generalize upd H1 t5 (.lst [.bl true, .int (-1), .str "1", .ref p, .int 0]) = H2 at *
  refine take_of b2 (by omega) (by omega) (by omega) fun t H3 t0 t9 o3 b3 => ?_
  have o13 := Off.trans (Same.off (D := b) (s1.trans s2)) o3
  have gp3 := o3 _ _ pb (s2 _ _ gp)
  obtain ⟨v, hv, pv⟩ := five_at (α := V) (P := fun v => ∀ H', Off2 d b H3 H' → OkV K H' v ∧ ValQ K H' v) (x0 := .bl true) (x1 := .int (-1)) (x2 := .str "1") (x3 := .ref p) (x4 := .int 0) t0 t9
    (fun H' _ => ⟨(trivial : OkV K H' (.bl true)), valq_small (.qbl true) (by decide +kernel)⟩) (fun H' _ => ⟨(trivial : OkV K H' (.int (-1))), valq_small (.qint (-1)) (by decide +kernel)⟩) (fun H' _ => ⟨(trivial : OkV K H' (.str "1")), valq_small (.qstr "1") (by decide +kernel)⟩)
    (fun H' o => ⟨⟨_, o _ _ pd pb gp3⟩, valq_small (d := .list [.int 0]) (.qlst (.inl (.inl (o _ _ pd pb gp3))) (.qcons (.qint 0) .qnil)) (by decide +kernel)⟩) (fun H' _ => ⟨(trivial : OkV K H' (.int 0)), valq_small (.qint 0) (by decide +kernel)⟩)
  refine uIx_lst (o3 _ _ tb g5) hv ?_
  refine uIx_lst (o13 _ _ cb f.1) (at_nat (by rw [List.getElem?_map, e]; rfl)) ?_
  exact ⟨d, _, rfl, DPut.k (k := .inr (wd [w.1, w.2])) (o13 _ _ db dc.1) few, q v H3 o13 b3 pv⟩
/-- kind 9: another thing in the place of a table -/
theorem bent_9 {b l c d : Addr} {m : Int} {k : Nat} {w : Nat × Nat} {x6 x7 : Option V} {ds : List Addr} {kss : List (List (Key × V))} {kvs : List (Key × V)} {D : Ends} (hb : Bx H b m) (hm : m ≤ 900000) (cb : c ≠ b) (f : Fnd K H c ds kss) (e : ds[k]? = some d) (e2 : kss[k]? = some kvs) (few : kvs.length ≤ 7) (ok : ∀ p ∈ kvs, KeyQ p.1)
    (q : ∀ v H1, Off b H H1 → Bx H1 b (m + 1) → v ∉ ds.map V.ref → (∀ H', Off2 c b H1 H' → (∃ a, Is K H' v a ∧ a ≠ .dct) ∧ ItQ K H' v) → D.nx [some (.ref b), some (.ref l), some (.ref c), some (.int 9), some (.int (k : Nat)), some (.str (wd [w.1, w.2])), x6, x7] (upd H1 c (.lst ((ds.map V.ref).set k v)))) :
    (tIfS (tTest (tOp (uEq K) (tVar 3) (tC (.int 9)))) (tAsg (tOp (uIx K) (tLst (tCons (tC .non) (tCons (tC (.int 5)) (tCons (tCB rListD (tCons (tOp (uIx K) (tVar 2) (tVar 4)) tNil)) (tCons (tC (.str "ab")) tNil))))) (tFn (sp__law_take K) E (tCons (tVar 0) (tCons (tC (.int 4)) tNil)))) (gSub (tVar 2) (tVar 4) rSetL)) tNext) D [some (.ref b), some (.ref l), some (.ref c), some (.int 9), some (.int (k : Nat)), some (.str (wd [w.1, w.2])), x6, x7] H := by
  refine if_take rfl rfl ?_
  have dc := f.2.2.1 k d kvs e e2
  have lk := (List.getElem?_eq_some_iff.mp e).1
  walk_at "1"
  refine uIx_lst f.1 (at_nat (by rw [List.getElem?_map, e]; rfl)) ?_
  refine ⟨d, kvs, rfl, dc.1, fun p np => ?_⟩
  have s1 : Same H (upd H p (.lst (kvs.map fun p => kV p.1))) := same_new np
  have gp : upd H p (.lst (kvs.map fun p => kV p.1)) p = some (.lst (kvs.map fun p => kV p.1)) := upd_same
  have pc : p ≠ c := by rintro rfl; rw [f.1] at np; cases np
  have pn : p ∉ ds := fun mp => by
    obtain ⟨j, lj, ej⟩ := List.mem_iff_getElem.mp mp
    have ll := f.2.1
    have := (f.2.2.1 j p (kss[j]'(by omega)) (by rw [← ej]; exact List.getElem?_eq_getElem lj) (List.getElem?_eq_getElem _)).1
    rw [np] at this
    cases this
  have b1 := hb.same s1
  have pb : p ≠ b := hb.ne np
  generalize upd H p (.lst (kvs.map fun p => kV p.1)) = H1 at *
  walk_at "1"
  refine ⟨by decide, fun t4 n4 => ?_⟩
  have s2 : Same H1 (upd H1 t4 (.lst [.non, .int 5, .ref p, .str "ab"])) := same_new n4
  have g4 : upd H1 t4 (.lst [.non, .int 5, .ref p, .str "ab"]) t4 = some (.lst [.non, .int 5, .ref p, .str "ab"]) := upd_same
  have b2 := b1.same s2
  have tb : t4 ≠ b := b1.ne n4
  refine (show sp__law_take K [.ref b, .int 4] (upd H1 t4 (.lst [.non, .int 5, .ref p, .str "ab"])) _ _ from ?_)
  generalize upd H1 t4 (.lst [.non, .int 5, .ref p, .str "ab"]) = H2 at *
  refine take_of b2 (by omega) (by omega) (by omega) fun t H3 t0 t9 o3 b3 => ?_
  have o13 := Off.trans (Same.off (D := b) (s1.trans s2)) o3
  have gp3 := o3 _ _ pb (s2 _ _ gp)
  have keys : ∀ H' : Hp, H' p = some (.lst (kvs.map fun p => kV p.1)) → ItQ K H' (.ref p) := fun H' g => by
    refine ⟨.list (kvs.map fun p => kD p.1), .qlst (.inl (.inl g)) (dq_all fun x _ => ?_), (slim_list (B := 62) (D := 2) (n := 7) (fun d m => ?_) (by rw [List.length_map]; exact few)).mono (by decide) (by decide)⟩
    · cases x.1 with
      | inl i => exact .qint i
      | inr z => exact .qstr z
    · obtain ⟨x, mx, rfl⟩ := List.mem_map.mp m
      exact ok x mx
  obtain ⟨v, hv, pv⟩ := four_at (α := V) (P := fun v => v ∉ ds.map V.ref ∧ ∀ H', Off2 c b H3 H' → (∃ a, Is K H' v a ∧ a ≠ .dct) ∧ ItQ K H' v) (x0 := .non) (x1 := .int 5) (x2 := .ref p) (x3 := .str "ab") t0 t9
    ⟨by simp, fun H' _ => ⟨⟨_, is_non, by decide⟩, itq_small .qnon (by decide +kernel)⟩⟩ ⟨by simp, fun H' _ => ⟨⟨_, is_int _, by decide⟩, itq_small (.qint 5) (by decide +kernel)⟩⟩
    ⟨by simpa using pn, fun H' o => ⟨⟨_, is_lst (o _ _ pc pb gp3), by decide⟩, keys H' (o _ _ pc pb gp3)⟩⟩ ⟨by simp, fun H' _ => ⟨⟨_, is_str _, by decide⟩, itq_small (.qstr "ab") (by decide +kernel)⟩⟩
  refine uIx_lst (o3 _ _ tb g4) hv ?_
  exact rSetL_of (o13 _ _ cb f.1) (ix_in (by rw [List.length_map]; exact lk)) (q v H3 o13 b3 pv.1 pv.2)
/-- kind 8: the same dict, its keys the other way round -/
theorem bent_8 {b l c d : Addr} {k : Nat} {w : Nat × Nat} {x6 x7 : Option V} {ds : List Addr} {kss : List (List (Key × V))} {kvs : List (Key × V)} {D : Ends} (f : Fnd K H c ds kss) (e : ds[k]? = some d) (e2 : kss[k]? = some kvs)
    (q : ∀ p H1, Same H H1 → H p = none → H1 p = some (.dK kvs.reverse) → D.nx [some (.ref b), some (.ref l), some (.ref c), some (.int 8), some (.int (k : Nat)), some (.str (wd [w.1, w.2])), x6, x7] (upd H1 c (.lst ((ds.map V.ref).set k (.ref p))))) :
    (tIfS (tTest (tOp (uEq K) (tVar 3) (tC (.int 8)))) (tAsg (tCB (rDictP K) (tCons (tRevL K (tListItems (tOp (uIx K) (tVar 2) (tVar 4)))) tNil)) (gSub (tVar 2) (tVar 4) rSetL)) tNext) D [some (.ref b), some (.ref l), some (.ref c), some (.int 8), some (.int (k : Nat)), some (.str (wd [w.1, w.2])), x6, x7] H := by
  refine if_take rfl rfl ?_
  have dc := f.2.2.1 k d kvs e e2
  have lk := (List.getElem?_eq_some_iff.mp e).1
  simp only [tAsg, tCB, tCons, tNil, tRevL, tListItems]
  walk_at "1"
  refine uIx_lst f.1 (at_nat (by rw [List.getElem?_map, e]; rfl)) ?_
  refine ⟨d, kvs, rfl, dc.1, fun H1 p ts s1 np nts pts gp pr => ?_⟩
  have s1 : Same H H1 := s1
  refine ⟨p, _, rfl, .inl (.inl gp), fun r nr => ?_⟩
  have s2 : Same H1 (upd H1 r (.lst (ts.map V.ref).reverse)) := same_new nr
  have gr : upd H1 r (.lst (ts.map V.ref).reverse) r = some (.lst (ts.reverse.map V.ref)) := by rw [upd_same, List.map_reverse]
  generalize upd H1 r (.lst (ts.map V.ref).reverse) = H2 at *
  refine ⟨r, ts.reverse, kvs.reverse, rfl, .inl (.inl gr), paired_mono (fun a x h => .inl (.inl (s2 _ _ h))) (paired_rev pr), fun p2 np2 => ?_⟩
  have s3 : Same H2 (upd H2 p2 (.dK (mergeK [] kvs.reverse))) := same_new np2
  have g3 : upd H2 p2 (.dK (mergeK [] kvs.reverse)) p2 = some (.dK kvs.reverse) := by
    rw [upd_same, merge_nodup (by rw [List.nil_append]; exact rev_keys dc.2.2)]
    rfl
  generalize upd H2 p2 (.dK (mergeK [] kvs.reverse)) = H3 at *
  have s13 := s1.trans (s2.trans s3)
  exact rSetL_of (s13 _ _ f.1) (ix_in (by rw [List.length_map]; exact lk)) (q p2 H3 s13 ((s1.trans s2).free np2) g3)
end
end U
namespace U
open PySem PySem.Spec PyProof.Rows L2

/-! ### what a law hands to a yard: tables or none, and its text -/
theorem slim_tup {ds : List PyData} {B D n : Nat} (h : ∀ d ∈ ds, Slim B D d) (hn : ds.length ≤ n) : Slim ((B + 2) * n + 3) (D + 1) (.tuple ds) := by
  obtain ⟨l1, l2, _, l4⟩ := slim_list h hn
  have key : ∀ l : List PyData, (∀ d ∈ l, Slim B D d) → ((PyData.shownAll l).map (·.length)).sum ≤ B * l.length := by
    intro l
    induction l with
    | nil => intro _; simp [PyData.shownAll]
    | cons x r ih =>
      intro h
      have a3 := (h x List.mem_cons_self).2.2.1
      have b3 := ih fun d m => h d (List.mem_cons_of_mem _ m)
      rw [PyData.shownAll, List.map_cons, List.sum_cons, List.length_cons, Nat.mul_succ]
      omega
  refine ⟨?_, ?_, ?_, ?_⟩
  · rw [PyData.showable]; rw [PyData.showable] at l1; exact l1
  · rw [PyData.depth]; rw [PyData.depth] at l2; exact l2
  · have k3 := key ds h
    have c := PyData.shownAll_length ds
    have h1 := StrLaws.join_length_le ", " (PyData.shownAll ds)
    have h3 : (", " : Str).length = 2 := by decide
    have h4 : ("(" : Str).length = 1 := by decide
    have h5 : ((if ds.length == 1 then ",)" else ")" : String) : Str).length ≤ 2 := by split <;> decide
    have m1 : (B + 2) * ds.length ≤ (B + 2) * n := Nat.mul_le_mul_left _ hn
    rw [Nat.add_mul] at m1
    rw [PyData.shown_tuple, app3, h4]
    rw [h3, c] at h1
    omega
  · rw [fine]; rw [fine] at l4; exact l4
section
variable {H H' : Hp}
def Wo (H : Hp) (b : Addr) : Hp := fun a => if a = b then none else H a
theorem Wo.of {b : Addr} (o : Off b H H') : Same (Wo H b) H' := fun a u e => by
  unfold Wo at e
  by_cases n : a = b
  · rw [if_pos n] at e; cases e
  · rw [if_neg n] at e; exact o a u n e
theorem Wo.back {b : Addr} (s : Same (Wo H b) H') : Off b H H' := fun a u n e => s a u (by unfold Wo; rw [if_neg n]; exact e)
theorem Wo.non {a b : Addr} (n : H a = none) : Wo H b a = none := by
  unfold Wo
  split
  · rfl
  · exact n
theorem Wo.at_ {a b : Addr} {o : HO} (h : H a = some o) (n : a ≠ b) : Wo H b a = some o := by
  unfold Wo
  rw [if_neg n]
  exact h
end
/-- a value that is tables of a yard of n crates or none, and whose text is not too long -/
def BentV (K : PySem.W.Frag) (H : Hp) (n : Nat) (v : V) : Prop := (NoLv K H n v ∨ Tabs K H n v) ∧ ∃ d, Dq K H v d ∧ Slim 63615 4 d
theorem nodup_in {α : Type} {x : α} {xs ys : List α} (h : (xs ++ ys).Nodup) (n : x ∉ xs ++ ys) : (xs ++ x :: ys).Nodup := by
  refine List.Perm.nodup_iff (List.perm_middle) |>.mpr ?_
  exact List.nodup_cons.mpr ⟨n, h⟩
theorem nodup_set {α : Type} {x : α} {xs : List α} {k : Nat} (h : xs.Nodup) (n : x ∉ xs) : (xs.set k x).Nodup := by
  by_cases lt : k < xs.length
  · rw [List.set_eq_take_append_cons_drop, if_pos lt]
    refine nodup_in (h.sublist ?_) (fun m => n ?_)
    · have := List.Sublist.append (List.Sublist.refl (xs.take k)) (List.drop_sublist_drop_left xs (Nat.le_succ k))
      rw [List.take_append_drop] at this
      exact this
    · rcases List.mem_append.mp m with m | m
      · exact List.mem_of_mem_take m
      · exact List.mem_of_mem_drop m
  · rw [List.set_eq_of_length_le (by omega)]
    exact h
section
variable {K : PySem.W.Frag} (F : KF K) {vs : List V} {H H' : Hp} {Q : VK} {E : XK}
local macro_rules | `(tactic| walk_at "w") => `(tactic| try simp only [turnE, lcT, Snoc, tRet, tRetN, tAndV, tOrV, tNotV, tCB, tCons, tVar, tNil, tC, tOp, tSeq, tAsg, gName, gSub, tIfS, tDrop, tFn, tTup, tLst, tNext, tB, tTest, tNot, tAnd, tOr, tIf, tChain, tUn, rU, tFld, tPart, tNoPart, L2.tSl, tBM, tPar, tPar3, tTruth, tDNewK,
  L2.start, List.map_cons, List.map_nil, List.length_cons, List.length_nil, List.replicate_succ, List.replicate_zero, List.append_nil, List.nil_append, List.cons_append, List.singleton_append, Nat.sub_self, Nat.zero_add, Nat.reduceAdd, Nat.reduceSub,
  List.getElem?_cons_zero, List.getElem?_cons_succ, List.set_cons_zero, List.set_cons_succ, Option.some.injEq, exists_eq_left, exists_eq_left', V.int.injEq, V.bl.injEq, V.str.injEq, V.ref.injEq,
  uAdd_int, uAdd_str, uSub_int, uMul_int, uMul_str, uDiv_int, uMod_int, uPow_int, uLt_int, uLe_int, uGt_int, uGe_int, uIs_non, uNis_non, uIs_bl, uNis_bl, sp1, sp2, sp3, sp4, uEq_int, uEq_str, uNe_int, uNe_str, uSl_str, uLen_str, decide_eq_true_eq])
local macro_rules | `(tactic| walk_at "1") => `(tactic| try simp only [turnE, lcT, Snoc, tRet, tRetN, tAndV, tOrV, tNotV, tCB, tCons, tVar, tNil, tC, tOp, tAsg, gName, gSub, tIfS, tDrop, tFn, tTup, tLst, tNext, tB, tTest, tNot, tAnd, tOr, tIf, tChain, tUn, rU, tFld, tPart, tNoPart, L2.tSl, tBM, tPar, tPar3, tTruth, tDNewK,
  L2.start, List.map_cons, List.map_nil, List.length_cons, List.length_nil, List.replicate_succ, List.replicate_zero, List.append_nil, List.nil_append, List.cons_append, List.singleton_append, Nat.sub_self, Nat.zero_add, Nat.reduceAdd, Nat.reduceSub,
  List.getElem?_cons_zero, List.getElem?_cons_succ, List.set_cons_zero, List.set_cons_succ, Option.some.injEq, exists_eq_left, exists_eq_left', V.int.injEq, V.bl.injEq, V.str.injEq, V.ref.injEq,
  uAdd_int, uAdd_str, uSub_int, uMul_int, uMul_str, uDiv_int, uMod_int, uPow_int, uLt_int, uLe_int, uGt_int, uGe_int, uIs_non, uNis_non, uIs_bl, uNis_bl, sp1, sp2, sp3, sp4, uEq_int, uEq_str, uNe_int, uNe_str, uSl_str, uLen_str, decide_eq_true_eq])
local macro_rules | `(tactic| walk_at "s") => `(tactic| ((try dsimp only [turnE]); with_reducible refine seq_ ?_))

theorem bent_seq {l : Addr} {xs : List V} {n : Nat} (h : SqA K H l xs) (few : xs.length ≤ 62) (it : ∀ v ∈ xs, (∃ b, ItB K H v b) ∧ ItQ K H v) (nd : xs.Nodup) : BentV K H n (.ref l) := by
  refine ⟨tabs_or h (by omega) (fun v m => (it v m).1) nd, ?_⟩
  rcases h with h | h
  · exact dq_list h few fun v m => (it v m).2
  · obtain ⟨es, e1, e2, e3⟩ := dq_items fun v m => (it v m).2
    exact ⟨.tuple es, .qtup h e1, slim_tup (B := 1024) (D := 3) (n := 62) e3 (by omega)⟩
theorem bent_none {v : V} {n : Nat} {a : Ty} {d : PyData} (h : Is K H v a) (nl : a ≠ .lst) (nt : a ≠ .tup) (q : Dq K H v d) (s : Slim 1024 3 d) : BentV K H n v := ⟨.inl (.inl ⟨a, h, nl, nt⟩), d, q, s.mono (by decide) (by decide)⟩
def Kinds (K : PySem.W.Frag) (H : Hp) (kvs : List (Key × V)) : Prop := kvs.length ≤ 7 ∧ (∀ p ∈ kvs, KeyQ p.1 ∧ ValQ K H p.2) ∧ ∀ p ∈ kvs, OkV K H p.2
theorem Fnd.eachAt {G : Hp} {c : Addr} {ds : List Addr} {kss : List (List (Key × V))} (f : Fnd K H c ds kss) (g : ∀ d ∈ ds, ∀ o, H d = some o → G d = some o) (ok : ∀ kvs ∈ kss, Kinds K G kvs) : ∀ v ∈ ds.map V.ref, (∃ b, ItB K G v b) ∧ ItQ K G v := by
  intro v m
  obtain ⟨d, md, rfl⟩ := List.mem_map.mp m
  obtain ⟨k, lk, e⟩ := List.mem_iff_getElem.mp md
  have e1 : ds[k]? = some d := by rw [← e]; exact List.getElem?_eq_getElem lk
  have l := f.2.1
  have e2 : kss[k]? = some (kss[k]'(by omega)) := List.getElem?_eq_getElem _
  obtain ⟨n7, ok, okv⟩ := ok _ (List.mem_of_getElem? e2)
  obtain ⟨h1, h2, h3⟩ := f.2.2.1 k d _ e1 e2
  exact ⟨⟨_, .inr ⟨d, _, rfl, ⟨g d md _ h1, okv, h3⟩, rfl⟩⟩, itq_dict (g d md _ h1) n7 ok⟩
theorem Fnd.bentW {b c : Addr} {ds : List Addr} {kss : List (List (Key × V))} {n : Nat} (f : Fnd K H c ds kss) (cb : c ≠ b) (db : ∀ d ∈ ds, d ≠ b) (few : ds.length ≤ 62) (ok : ∀ kvs ∈ kss, Kinds K (Wo H b) kvs) : BentV K (Wo H b) n (.ref c) :=
  bent_seq (.inl (.inl (.inl (Wo.at_ f.1 cb)))) (by rw [List.length_map]; exact few) (f.eachAt (fun d m o e => Wo.at_ e (db d m)) ok) f.nodupV
theorem OkV.offL {b : Addr} {v : V} (o : Off b H H') (hb : ∃ l, H' b = some (.lst l)) (h : OkV K H v) : OkV K H' v := by
  cases v with
  | ref p =>
    obtain ⟨xs, h1⟩ := h
    by_cases e : p = b
    · subst e
      exact hb
    · exact ⟨xs, o _ _ e h1⟩
  | _ => exact h
theorem Fnd.offb {b c : Addr} {ds : List Addr} {kss : List (List (Key × V))} (f : Fnd K H c ds kss) (o : Off b H H') (hb : ∃ l, H' b = some (.lst l)) (cb : c ≠ b) (db : ∀ d ∈ ds, d ≠ b) : Fnd K H' c ds kss :=
  ⟨o _ _ cb f.1, f.2.1, fun k d ks e1 e2 => by
    have dc := f.2.2.1 k d ks e1 e2
    exact ⟨o _ _ (db d (List.mem_of_getElem? e1)) dc.1, fun p m => (dc.2.1 p m).offL o hb, dc.2.2⟩, f.2.2.2⟩
theorem kinds_way {f : Lvl} (h : Below (10 ^ 61) f) : Kinds K H (wayD f) := ⟨by show 6 ≤ 7; decide, val_lvl h, fun p mp => by
  unfold wayD at mp
  obtain ⟨w, _, rfl⟩ := List.mem_map.mp mp
  cases f w.1 w.2 <;> trivial⟩
theorem seven_at {α : Type} {x0 x1 x2 x3 x4 x5 x6 : α} {P : α → Prop} {t : Int} (t0 : 0 ≤ t) (t7 : t < 7) (h0 : P x0) (h1 : P x1) (h2 : P x2) (h3 : P x3) (h4 : P x4) (h5 : P x5) (h6 : P x6) : ∃ v, atI [x0, x1, x2, x3, x4, x5, x6] t = some v ∧ P v := by
  obtain rfl | rfl | rfl | rfl | rfl | rfl | rfl : t = 0 ∨ t = 1 ∨ t = 2 ∨ t = 3 ∨ t = 4 ∨ t = 5 ∨ t = 6 := by omega
  · exact ⟨_, rfl, h0⟩
  · exact ⟨_, rfl, h1⟩
  · exact ⟨_, rfl, h2⟩
  · exact ⟨_, rfl, h3⟩
  · exact ⟨_, rfl, h4⟩
  · exact ⟨_, rfl, h5⟩
  · exact ⟨_, rfl, h6⟩
theorem cut_last' {xs : List V} : cutV xs none (some (-1)) = xs.take (xs.length - 1) := by
  unfold cutV
  have e1 : HT.sIx xs.length 0 (none : Option Int) = 0 := rfl
  have e2 : HT.sIx xs.length xs.length (some (-1)) = xs.length - 1 := by
    show (if (-1 : Int) < 0 then ((-1 : Int) + (xs.length : Int)).toNat else min (-1 : Int).toNat xs.length) = _
    rw [if_pos (by decide)]
    omega
  rw [e1, e2]
  rfl
/-- kind 7: no list of tables at all, or a part of them -/
theorem bent_7 {b l c : Addr} {m : Int} {n k : Nat} {w : Nat × Nat} {x6 x7 : Option V} {ds : List Addr} {kss : List (List (Key × V))} {D : Ends} (hb : Bx H b m) (hm : m ≤ 900000) (cb : c ≠ b) (db : ∀ d ∈ ds, d ≠ b) (f : Fnd K H c ds kss) (f1 : 1 ≤ ds.length) (few : ds.length ≤ 62) (ok : ∀ H' : Hp, ∀ kvs ∈ kss, Kinds K H' kvs)
    (q : ∀ v H1, Off b H H1 → Bx H1 b (m + 1) → BentV K (Wo H1 b) n v → D.rt v H1) :
    (tIfS (tTest (tOp (uEq K) (tVar 3) (tC (.int 7)))) (tRet (tOp (uIx K) (tLst (tCons (tC .non) (tCons (tC (.int 5)) (tCons tDNewK (tCons (tLst tNil) (tCons (tC (.str "tables")) (tCons (tSl (uSl K) (tVar 2) tNoPart (tPart (tUn (rU fun i => .int (-i)) (tC (.int 1))))) (tCons (tOp (uIx K) (tVar 2) (tC (.int 0))) tNil)))))))) (tFn (sp__law_take K) E (tCons (tVar 0) (tCons (tC (.int 7)) tNil))))) tNext) D [some (.ref b), some (.ref l), some (.ref c), some (.int 7), some (.int (k : Nat)), some (.str (wd [w.1, w.2])), x6, x7] H := by
  refine if_take rfl rfl ?_
  match ds, f, f1 with
  | d0 :: dr, f, _ =>
  walk_at "1"
  intro e ne
  have s1 : Same H (upd H e (.dK [])) := same_new ne
  have ge : upd H e (.dK []) e = some (.dK []) := upd_same
  have b1 := hb.same s1
  have eb : e ≠ b := hb.ne ne
  generalize upd H e (.dK []) = H1 at *
  refine ⟨by decide, fun z nz => ?_⟩
  have s2 : Same H1 (upd H1 z (.lst [])) := same_new nz
  have gz : upd H1 z (.lst []) z = some (.lst []) := upd_same
  have b2 := b1.same s2
  have zb : z ≠ b := b1.ne nz
  generalize upd H1 z (.lst []) = H2 at *
  have c2 := s2 _ _ (s1 _ _ f.1)
  refine .inl ⟨c, _, rfl, .inl (.inl c2), fun s ns => ?_⟩
  rw [cut_last']
  have s3 : Same H2 (upd H2 s (.lst (((d0 :: dr).map V.ref).take (((d0 :: dr).map V.ref).length - 1)))) := same_new ns
  have gs : upd H2 s (.lst (((d0 :: dr).map V.ref).take (((d0 :: dr).map V.ref).length - 1))) s = some (.lst (((d0 :: dr).map V.ref).take (((d0 :: dr).map V.ref).length - 1))) := upd_same
  have b3 := b2.same s3
  have sb : s ≠ b := b2.ne ns
  generalize upd H2 s (.lst (((d0 :: dr).map V.ref).take (((d0 :: dr).map V.ref).length - 1))) = H3 at *
  refine uIx_lst (s3 _ _ c2) (show atI (V.ref d0 :: dr.map V.ref) ((0 : Nat) : Int) = some (V.ref d0) from at_nat rfl) ?_
  walk_at "1"
  refine ⟨by decide, fun t7 n7 => ?_⟩
  have s4 : Same H3 (upd H3 t7 (.lst [.non, .int 5, .ref e, .ref z, .str "tables", .ref s, .ref d0])) := same_new n7
  have g7 : upd H3 t7 (.lst [.non, .int 5, .ref e, .ref z, .str "tables", .ref s, .ref d0]) t7 = some (.lst [.non, .int 5, .ref e, .ref z, .str "tables", .ref s, .ref d0]) := upd_same
  have b4 := b3.same s4
  have tb : t7 ≠ b := b3.ne n7
  refine (show sp__law_take K [.ref b, .int 7] (upd H3 t7 (.lst [.non, .int 5, .ref e, .ref z, .str "tables", .ref s, .ref d0])) _ _ from ?_)
  generalize upd H3 t7 (.lst [.non, .int 5, .ref e, .ref z, .str "tables", .ref s, .ref d0]) = H4 at *
  refine take_of b4 (by omega) (by omega) (by omega) fun t H5 t0 t9 o5 b5 => ?_
  have o15 := Off.trans (Same.off (D := b) (s1.trans (s2.trans (s3.trans s4)))) o5
  have f5 := f.offb o15 b5.at_ cb db
  have it := f5.eachAt (G := Wo H5 b) (fun d m o e => Wo.at_ e (db d m)) (ok _)
  obtain ⟨v, hv, pv⟩ := seven_at (α := V) (P := fun v => BentV K (Wo H5 b) n v) (x0 := .non) (x1 := .int 5) (x2 := .ref e) (x3 := .ref z) (x4 := .str "tables") (x5 := .ref s) (x6 := .ref d0) t0 t9
    (bent_none is_non (by decide) (by decide) .qnon ((slimB_ok (B := 80) (D := 2) (by decide +kernel)).mono (by decide) (by decide))) (bent_none (is_int 5) (by decide) (by decide) (.qint 5) ((slimB_ok (B := 80) (D := 2) (by decide +kernel)).mono (by decide) (by decide)))
    (bent_none (is_dct (Wo.at_ (o5 _ _ eb (s4 _ _ (s3 _ _ (s2 _ _ ge)))) eb)) (by decide) (by decide) (.qdct (es := []) (Wo.at_ (o5 _ _ eb (s4 _ _ (s3 _ _ (s2 _ _ ge)))) eb) rfl .qnil) ((slimB_ok (B := 80) (D := 2) (by decide +kernel)).mono (by decide) (by decide)))
    (bent_seq (.inl (.inl (.inl (Wo.at_ (o5 _ _ zb (s4 _ _ (s3 _ _ gz))) zb)))) (by decide) (fun v m => nomatch m) .nil)
    (bent_none (is_str _) (by decide) (by decide) (.qstr "tables") ((slimB_ok (B := 80) (D := 2) (by decide +kernel)).mono (by decide) (by decide)))
    (bent_seq (.inl (.inl (.inl (Wo.at_ (o5 _ _ sb (s4 _ _ gs)) sb)))) (by rw [List.length_take, List.length_map]; omega) (fun v m => it v (List.mem_of_mem_take m)) (f5.nodupV.sublist (List.take_sublist _ _)))
    (by
      obtain ⟨k0, e0⟩ : ∃ k0, kss[0]? = some k0 := ⟨_, List.getElem?_eq_getElem (by have := f.2.1; rw [List.length_cons] at this; omega)⟩
      obtain ⟨dd, q1, q2⟩ := (it (.ref d0) (by simp)).2
      exact bent_none (is_dct (Wo.at_ (f5.2.2.1 0 d0 k0 rfl e0).1 (db d0 List.mem_cons_self))) (by decide) (by decide) q1 q2)
  refine uIx_lst (o5 _ _ tb g7) hv ?_
  exact q v H5 o15 b5 pv
end
end U
namespace U
open PySem PySem.Spec PyProof.Rows L2 LiI

def sp__law_bent (K : PySem.W.Frag) : Sp := sp2 fun x y H Q _ => ∃ (b : Addr) (m : Int) (l : Addr) (fs : List Lvl) (n : Nat), x = .ref b ∧ Bx H b m ∧ m ≤ 800000 ∧ y = .ref l ∧ LvT H l fs ∧ fs.length = n + 1 ∧ n ≤ 60 ∧ (∀ f ∈ fs, Below (10 ^ 61) f) ∧ ∀ v H', Off b H H' → Bx H' b (m + 4) → BentV K (Wo H' b) n v → Q v H'
def t__law_bent (K : PySem.W.Frag) (E : XK) : TS := (tSeq (tPar 2 3 (tCons (tLc (iSeq K (tVar 1)) (gName 7) tYes (tCB rDictC (tCons (tVar 7) tNil)) [7]) (tCons (tFn (sp__law_take K) E (tCons (tVar 0) (tCons (tC (.int 10)) tNil))) tNil))) (tSeq (tPar 4 5 (tCons (tFn (sp__law_take K) E (tCons (tVar 0) (tCons (tCB (uLen K) (tCons (tVar 2) tNil)) tNil))) (tCons (tOp (uIx K) (tC (.ref (He.ga K "WAYS"))) (tFn (sp__law_take K) E (tCons (tVar 0) (tCons (tC (.int 6)) tNil)))) tNil))) (tSeq (tAsg (tDGet (tOp (uIx K) (tVar 2) (tVar 4)) (tVar 5)) (gName 6)) (tSeq (tIfS (tTest (tOp (uEq K) (tVar 3) (tC (.int 0)))) (tAsg (tOp uAdd (tOp uAdd (tC (.int 1)) (tFn (sp__law_take K) E (tCons (tVar 0) (tCons (tC (.int 9)) tNil)))) (tIf (tTest (tOp uIs (tVar 6) (tC .non))) (tC (.int 0)) (tVar 6))) (gSub (tOp (uIx K) (tVar 2) (tVar 4)) (tVar 5) rSetD)) tNext) (tSeq (tIfS (tTest (tOp (uEq K) (tVar 3) (tC (.int 1)))) (tAsg (tC .non) (gSub (tOp (uIx K) (tVar 2) (tVar 4)) (tVar 5) rSetD)) tNext) (tSeq (tIfS (tTest (tOp (uEq K) (tVar 3) (tC (.int 2)))) (tAsg (tOp (uIx K) (tLst (tCons (tC (.bl true)) (tCons (tUn (rU fun i => .int (-i)) (tC (.int 1))) (tCons (tC (.str "1")) (tCons (tLst (tCons (tC (.int 0)) tNil)) (tCons (tC (.int 0)) tNil)))))) (tFn (sp__law_take K) E (tCons (tVar 0) (tCons (tC (.int 5)) tNil)))) (gSub (tOp (uIx K) (tVar 2) (tVar 4)) (tVar 5) rSetD)) tNext) (tSeq (tIfS (tTest (tOp (uEq K) (tVar 3) (tC (.int 3)))) (tDrop (tBM K "dict" rPopD (tOp (uIx K) (tVar 2) (tVar 4)) (tCons (tVar 5) tNil))) tNext) (tSeq (tIfS (tTest (tOp (uEq K) (tVar 3) (tC (.int 4)))) (tSeq (tAsg (tC (.int 0)) (gSub (tOp (uIx K) (tVar 2) (tVar 4)) (tC (.str "aa")) rSetD)) (tIfS (tTest (tOp (uEq K) (tFn (sp__law_take K) E (tCons (tVar 0) (tCons (tC (.int 2)) tNil))) (tC (.int 0)))) (tDrop (tBM K "dict" rPopD (tOp (uIx K) (tVar 2) (tVar 4)) (tCons (tVar 5) tNil))) tNext)) tNext) (tSeq (tIfS (tTest (tOp (uEq K) (tVar 3) (tC (.int 5)))) (tDrop (tBM K "list" rInsert (tVar 2) (tCons (tVar 4) (tCons (tCB rDictC (tCons (tOp (uIx K) (tVar 2) (tVar 4)) tNil)) tNil)))) tNext) (tSeq (tIfS (tTest (tOp (uEq K) (tVar 3) (tC (.int 6)))) (tRet (tCB (uTup K) (tCons (tVar 2) tNil))) tNext) (tSeq (tIfS (tTest (tOp (uEq K) (tVar 3) (tC (.int 9)))) (tAsg (tOp (uIx K) (tLst (tCons (tC .non) (tCons (tC (.int 5)) (tCons (tCB rListD (tCons (tOp (uIx K) (tVar 2) (tVar 4)) tNil)) (tCons (tC (.str "ab")) tNil))))) (tFn (sp__law_take K) E (tCons (tVar 0) (tCons (tC (.int 4)) tNil)))) (gSub (tVar 2) (tVar 4) rSetL)) tNext) (tSeq (tIfS (tTest (tOp (uEq K) (tVar 3) (tC (.int 8)))) (tAsg (tCB (rDictP K) (tCons (tRevL K (tListItems (tOp (uIx K) (tVar 2) (tVar 4)))) tNil)) (gSub (tVar 2) (tVar 4) rSetL)) tNext) (tSeq (tIfS (tTest (tOp (uEq K) (tVar 3) (tC (.int 7)))) (tRet (tOp (uIx K) (tLst (tCons (tC .non) (tCons (tC (.int 5)) (tCons tDNewK (tCons (tLst tNil) (tCons (tC (.str "tables")) (tCons (tSl (uSl K) (tVar 2) tNoPart (tPart (tUn (rU fun i => .int (-i)) (tC (.int 1))))) (tCons (tOp (uIx K) (tVar 2) (tC (.int 0))) tNil)))))))) (tFn (sp__law_take K) E (tCons (tVar 0) (tCons (tC (.int 7)) tNil))))) tNext) (tRet (tVar 2)))))))))))))))
theorem all_set {α : Type} {P : α → Prop} {xs : List α} {k : Nat} {y : α} (h : ∀ x ∈ xs, P x) (hy : P y) : ∀ x ∈ xs.set k y, P x := fun x m => (List.mem_or_eq_of_mem_set m).elim (h x) fun e => e ▸ hy
theorem putK_len {kvs : List (Key × V)} {k : Key} {v : V} : (putK kvs k v).length ≤ kvs.length + 1 := by
  unfold putK
  split
  · rw [List.length_map]; omega
  · rw [List.length_append]; exact Nat.le_refl _
theorem dropK_len {kvs : List (Key × V)} {k : Key} : (dropK kvs k).length ≤ kvs.length := List.length_filter_le _ _
theorem val_aa {f : Lvl} {w : Nat × Nat} (h : w ∈ waysN) : valV (putK (wayD f) (.inr "aa") (.int 0)) (.inr (wd [w.1, w.2])) = some (pV (f w.1 w.2)) := by
  unfold waysN at h
  simp only [List.mem_cons, List.not_mem_nil, or_false] at h
  rcases h with rfl | rfl | rfl | rfl | rfl | rfl <;> rfl
section
variable {K : PySem.W.Frag} (F : KF K) {vs : List V} {H H' : Hp} {Q : VK} {E : XK}
local macro_rules | `(tactic| walk_at "w") => `(tactic| try simp only [turnE, lcT, Snoc, tRet, tRetN, tAndV, tOrV, tNotV, tCB, tCons, tVar, tNil, tC, tOp, tSeq, tAsg, gName, gSub, tIfS, tDrop, tFn, tTup, tLst, tNext, tB, tTest, tNot, tAnd, tOr, tIf, tChain, tUn, rU, tFld, tPart, tNoPart, L2.tSl, tBM, tPar, tPar3, tTruth, tDNewK,
  L2.start, List.map_cons, List.map_nil, List.length_cons, List.length_nil, List.replicate_succ, List.replicate_zero, List.append_nil, List.nil_append, List.cons_append, List.singleton_append, Nat.sub_self, Nat.zero_add, Nat.reduceAdd, Nat.reduceSub,
  List.getElem?_cons_zero, List.getElem?_cons_succ, List.set_cons_zero, List.set_cons_succ, Option.some.injEq, exists_eq_left, exists_eq_left', V.int.injEq, V.bl.injEq, V.str.injEq, V.ref.injEq,
  uAdd_int, uAdd_str, uSub_int, uMul_int, uMul_str, uDiv_int, uMod_int, uPow_int, uLt_int, uLe_int, uGt_int, uGe_int, uIs_non, uNis_non, uIs_bl, uNis_bl, sp1, sp2, sp3, sp4, uEq_int, uEq_str, uNe_int, uNe_str, uSl_str, uLen_str, decide_eq_true_eq])
local macro_rules | `(tactic| walk_at "1") => `(tactic| try simp only [turnE, lcT, Snoc, tRet, tRetN, tAndV, tOrV, tNotV, tCB, tCons, tVar, tNil, tC, tOp, tAsg, gName, gSub, tIfS, tDrop, tFn, tTup, tLst, tNext, tB, tTest, tNot, tAnd, tOr, tIf, tChain, tUn, rU, tFld, tPart, tNoPart, L2.tSl, tBM, tPar, tPar3, tTruth, tDNewK,
  L2.start, List.map_cons, List.map_nil, List.length_cons, List.length_nil, List.replicate_succ, List.replicate_zero, List.append_nil, List.nil_append, List.cons_append, List.singleton_append, Nat.sub_self, Nat.zero_add, Nat.reduceAdd, Nat.reduceSub,
  List.getElem?_cons_zero, List.getElem?_cons_succ, List.set_cons_zero, List.set_cons_succ, Option.some.injEq, exists_eq_left, exists_eq_left', V.int.injEq, V.bl.injEq, V.str.injEq, V.ref.injEq,
  uAdd_int, uAdd_str, uSub_int, uMul_int, uMul_str, uDiv_int, uMod_int, uPow_int, uLt_int, uLe_int, uGt_int, uGe_int, uIs_non, uNis_non, uIs_bl, uNis_bl, sp1, sp2, sp3, sp4, uEq_int, uEq_str, uNe_int, uNe_str, uSl_str, uLen_str, decide_eq_true_eq])
local macro_rules | `(tactic| walk_at "s") => `(tactic| ((try dsimp only [turnE]); with_reducible refine seq_ ?_))

theorem Kinds.put {kvs : List (Key × V)} {k : Key} {v : V} (h : Kinds K H kvs) (six : kvs.length ≤ 6) (hk : KeyQ k) (hv : ValQ K H v) (ov : OkV K H v) : Kinds K H (putK kvs k v) := ⟨by have := putK_len (kvs := kvs) (k := k) (v := v); omega, kinds_put h.2.1 hk hv, fun p m => by
  unfold putK at m
  split at m
  · obtain ⟨q, mq, rfl⟩ := List.mem_map.mp m
    by_cases c : q.1 = k
    · rw [if_pos c]; exact ov
    · rw [if_neg c]; exact h.2.2 q mq
  · rcases List.mem_append.mp m with m | m
    · exact h.2.2 p m
    · rw [List.mem_singleton.mp m]; exact ov⟩
theorem Kinds.drop {kvs : List (Key × V)} {k : Key} (h : Kinds K H kvs) : Kinds K H (dropK kvs k) := ⟨by have := dropK_len (kvs := kvs) (k := k); have := h.1; omega, kinds_drop h.2.1, fun p m => h.2.2 p (List.mem_filter.mp m).1⟩
theorem Kinds.rev {kvs : List (Key × V)} (h : Kinds K H kvs) : Kinds K H kvs.reverse := ⟨by rw [List.length_reverse]; exact h.1, fun p m => h.2.1 p (List.mem_reverse.mp m), fun p m => h.2.2 p (List.mem_reverse.mp m)⟩
include F in
theorem read__law_bent (h : sp__law_bent K vs H Q E) : t__law_bent K E { nx := fun _ H' => Q .non H', rt := Q } (start ["_law_bag_here", "_law_told", "_law_found", "_law_way", "_law_at", "_law_key", "_law_number", "_law_table"] vs) H := by
  match vs, h with
  | [_, _], ⟨b, m, l, fs, n, rfl, hb, hm, rfl, hl, ln, n60, low, q⟩ =>
    unfold t__law_bent
    refine (show ∀ {a b c f : TS} {D : Ends} {σ : L2.St}, tSeq a (tSeq b c) { D with nx := f D } σ H → tSeq a (tSeq b (tSeq c f)) D σ H from fun h => h) ?_
    refine bent_head F hb (by omega) hl (by omega) (by omega) fun c way k w x7 H1 H4 tab o14 b4 w0 w10 lk mw => ?_
    obtain ⟨s01, nc, ds, gc, ld, at_, nd, ncd, fr⟩ := id tab
    have cb : c ≠ b := hb.ne nc
    have db : ∀ d ∈ ds, d ≠ b := fun d m => hb.ne (fr d m)
    have f1 : Fnd K H1 c ds (fs.map wayD) := ⟨gc, by rw [List.length_map, ld], fun j d ks e1 e2 => by
      rw [List.getElem?_map] at e2
      obtain ⟨f, ef, rfl⟩ := Option.map_eq_some_iff.mp e2
      exact dc_way (at_ j d f e1 ef), nd, ncd⟩
    have f4 : Fnd K H4 c ds (fs.map wayD) := f1.offb o14 b4.at_ cb db
    have ok : ∀ G : Hp, ∀ kvs ∈ fs.map wayD, Kinds K G kvs := fun G kvs mk => by
      obtain ⟨f, mf, rfl⟩ := List.mem_map.mp mk
      exact kinds_way (low f mf)
    have ef : fs[k]? = some fs[k] := List.getElem?_eq_getElem lk
    have e2 : (fs.map wayD)[k]? = some (wayD fs[k]) := by rw [List.getElem?_map, ef]; rfl
    have bel : Below (10 ^ 61) fs[k] := low _ (List.getElem_mem lk)
    have ed : ds[k]? = some (ds[k]'(by omega)) := List.getElem?_eq_getElem _
    rw [ef, Option.getD_some]
    generalize fs[k] = fk at *
    generalize hd : ds[k]'(by omega) = d at *
    have md := List.mem_of_getElem? ed
    have dbd := db d md
    have nd0 := fr d md
    have o04 : Off b H H4 := Off.trans (Same.off s01) o14
    have few : ds.length ≤ 61 := by omega
    have six : (wayD fk).length ≤ 6 := by show 6 ≤ 6; decide
    have lt6 : (wayD fk).length < sizeLine := by show 6 < sizeLine; decide
    obtain ⟨w1, w2, w3⟩ := waysN_ok w mw
    have kin : ∀ G : Hp, Kinds K G (wayD fk) := fun G => kinds_way bel
    have kw := key_way mw
    have noc : ∀ {p : Addr}, H4 p = none → p ≠ c ∧ p ∉ ds := fun {p} np => ⟨(fun z => by rw [z, f4.1] at np; cases np), fun mp => by
      obtain ⟨j, lj, ej⟩ := List.mem_iff_getElem.mp mp
      have ll := f4.2.1
      have := (f4.2.2.1 j p ((fs.map wayD)[j]'(by omega)) (by rw [← ej]; exact List.getElem?_eq_getElem lj) (List.getElem?_eq_getElem _)).1
      rw [np] at this
      cases this⟩
    obtain rfl | rfl | rfl | rfl | rfl | rfl | rfl | rfl | rfl | rfl : way = 0 ∨ way = 1 ∨ way = 2 ∨ way = 3 ∨ way = 4 ∨ way = 5 ∨ way = 6 ∨ way = 7 ∨ way = 8 ∨ way = 9 := by omega
    · walk_at "s"
      refine bent_0 b4 (by omega) cb dbd f4 ed e2 lt6 fun t H5 t0 t9 o5 b5 => ?_
      have f6 := (f4.offb o5 b5.at_ cb db).putK (k := .inr (wd [w.1, w.2])) (v := .int (1 + t + (fk w.1 w.2).getD 0)) ed e2 trivial
      iterate 9 (walk_at "s"; refine if_skip rfl (by decide) ?_)
      walk_at "1"
      refine q _ _ ((o04.trans o5).new nd0) ((b5.upd dbd).mono (by omega)) (f6.bentW cb db (by omega) (all_set (ok _) ((kin _).put six kw ?_ trivial)))
      refine val_cost (o := some (1 + t + (fk w.1 w.2).getD 0)) fun v ev => ?_
      injection ev with ev
      subst ev
      cases e : fk w.1 w.2 with
      | none =>
        have : (0 : Int) ≤ 10 ^ 61 := by decide
        show 0 ≤ 1 + t + 0 ∧ 1 + t + 0 ≤ 10 ^ 61 + 10
        omega
      | some u =>
        obtain ⟨u0, u1⟩ := bel w.1 w.2 u w1 w2 w3 e
        show 0 ≤ 1 + t + u ∧ 1 + t + u ≤ 10 ^ 61 + 10
        omega
    · walk_at "s"
      refine if_skip rfl (by decide) ?_
      walk_at "s"
      refine bent_1 f4 ed e2 lt6 ?_
      have f6 := f4.putK (k := .inr (wd [w.1, w.2])) (v := .non) ed e2 trivial
      iterate 8 (walk_at "s"; refine if_skip rfl (by decide) ?_)
      walk_at "1"
      exact q _ _ (o04.new nd0) ((b4.upd dbd).mono (by omega)) (f6.bentW cb db (by omega) (all_set (ok _) ((kin _).put six kw (val_cost (o := none) fun v ev => nomatch ev) trivial)))
    · iterate 2 (walk_at "s"; refine if_skip rfl (by decide) ?_)
      walk_at "s"
      refine bent_2 b4 (by omega) cb dbd f4 ed e2 lt6 fun v H5 o5 b5 pv => ?_
      obtain ⟨ov, _⟩ := pv (upd H5 d (.dK (putK (wayD fk) (.inr (wd [w.1, w.2])) v))) (fun a o n1 _ e => by rw [upd_ne n1]; exact e)
      obtain ⟨ovw, vq⟩ := pv (Wo (upd H5 d (.dK (putK (wayD fk) (.inr (wd [w.1, w.2])) v))) b) (fun a o n1 n2 e => Wo.at_ (by rw [upd_ne n1]; exact e) n2)
      have f5 := f4.offb o5 b5.at_ cb db
      have f6 : Fnd K (upd H5 d (.dK (putK (wayD fk) (.inr (wd [w.1, w.2])) v))) c ds ((fs.map wayD).set k (putK (wayD fk) (.inr (wd [w.1, w.2])) v)) := f5.put ed off_upd (by
        obtain ⟨h1, h2, h3⟩ := f5.2.2.1 k d _ ed e2
        obtain ⟨p1, p2⟩ := putK_keys (k := .inr (wd [w.1, w.2])) (v := v) h3
        refine ⟨upd_same, fun p m => ?_, p1⟩
        rcases p2 p m with m | e
        · exact (h2 p m).offD h1 off_upd
        · rw [e]; exact ov)
      iterate 7 (walk_at "s"; refine if_skip rfl (by decide) ?_)
      walk_at "1"
      exact q _ _ ((o04.trans o5).new nd0) ((b5.upd dbd).mono (by omega)) (f6.bentW cb db (by omega) (all_set (ok _) ((kin _).put six kw vq ovw)))
    · iterate 3 (walk_at "s"; refine if_skip rfl (by decide) ?_)
      walk_at "s"
      refine bent_3 f4 ed e2 (val_wayD fk w1 w2 w3) ?_
      have f6 := f4.dropK (k := .inr (wd [w.1, w.2])) ed e2
      iterate 6 (walk_at "s"; refine if_skip rfl (by decide) ?_)
      walk_at "1"
      exact q _ _ (o04.new nd0) ((b4.upd dbd).mono (by omega)) (f6.bentW cb db (by omega) (all_set (ok _) (kin _).drop))
    · iterate 4 (walk_at "s"; refine if_skip rfl (by decide) ?_)
      walk_at "s"
      refine bent_4 b4 (by omega) cb dbd (fun z => ncd (z ▸ md)) f4 ed e2 lt6 (val_aa mw) fun H5 ks hks o5 b5 => ?_
      have f5 := (f4.putK (k := .inr "aa") (v := .int 0) ed e2 trivial).offb o5 b5.at_ cb db
      have e5 : ((fs.map wayD).set k (putK (wayD fk) (.inr "aa") (.int 0)))[k]? = some (putK (wayD fk) (.inr "aa") (.int 0)) := List.getElem?_set_self (by rw [List.length_map]; exact lk)
      have ka : ∀ G : Hp, Kinds K G (putK (wayD fk) (.inr "aa") (.int 0)) := fun G => (kin G).put six key_aa (val_cost (o := some 0) fun v ev => by injection ev with ev; subst ev; exact ⟨by decide, by decide⟩) trivial
      have o45 : Off b H (upd H5 d (.dK ks)) := by
        intro p o np e
        have np2 : p ≠ d := by rintro rfl; rw [nd0] at e; cases e
        rw [upd_ne np2]
        refine o5 _ _ np ?_
        rw [upd_ne np2]
        exact o04 _ _ np e
      have fin : BentV K (Wo (upd H5 d (.dK ks)) b) n (.ref c) := by
        rcases hks with rfl | rfl
        · have f6 := f5.put (H' := upd H5 d (.dK (putK (wayD fk) (.inr "aa") (.int 0)))) ed off_upd (by
            obtain ⟨h1, h2, h3⟩ := f5.2.2.1 k d _ ed e5
            exact ⟨upd_same, fun p m => (h2 p m).offD h1 off_upd, h3⟩)
          exact f6.bentW cb db (by omega) (all_set (all_set (ok _) (ka _)) (ka _))
        · have f6 := f5.dropK (k := .inr (wd [w.1, w.2])) ed e5
          exact f6.bentW cb db (by omega) (all_set (all_set (ok _) (ka _)) (ka _).drop)
      iterate 5 (walk_at "s"; refine if_skip rfl (by decide) ?_)
      walk_at "1"
      exact q _ _ o45 ((b5.upd dbd).mono (by omega)) fin
    · iterate 5 (walk_at "s"; refine if_skip rfl (by decide) ?_)
      walk_at "s"
      refine bent_5 f4 ed e2 (by omega) fun p H5 s5 np dc5 => ?_
      obtain ⟨pc, pn⟩ := noc np
      have it := f4.eachAt (G := Wo (upd H5 c (.lst ((ds.take k ++ [p] ++ ds.drop k).map V.ref))) b) (fun a m o e => Wo.at_ (by rw [upd_ne (show a ≠ c from fun z => ncd (by rw [← z]; exact m))]; exact s5 _ _ e) (db a m)) (ok _)
      have gp : Wo (upd H5 c (.lst ((ds.take k ++ [p] ++ ds.drop k).map V.ref))) b p = some (.dK (wayD fk)) := Wo.at_ (by rw [upd_ne pc]; exact dc5.1) (b4.ne np)
      have dcp : DcV K (Wo (upd H5 c (.lst ((ds.take k ++ [p] ++ ds.drop k).map V.ref))) b) p (wayD fk) := ⟨gp, (kin _).2.2, dc5.2.2⟩
      iterate 4 (walk_at "s"; refine if_skip rfl (by decide) ?_)
      walk_at "1"
      refine q _ _ ((o04.trans (Same.off s5)).new nc) ((Bx.upd (b4.same s5) cb).mono (by omega)) (bent_seq (.inl (.inl (.inl (Wo.at_ upd_same cb)))) (by simp; omega) (fun v mv => ?_) ?_)
      · obtain ⟨a, ma, rfl⟩ := List.mem_map.mp mv
        rcases List.mem_append.mp ma with ma | ma
        · rcases List.mem_append.mp ma with ma | ma
          · exact it _ (List.mem_map_of_mem (List.mem_of_mem_take ma))
          · rw [List.mem_singleton.mp ma]
            exact ⟨⟨_, .inr ⟨p, _, rfl, dcp, rfl⟩⟩, itq_dict dcp.1 (kin H5).1 (kin _).2.1⟩
        · exact it _ (List.mem_map_of_mem (List.mem_of_mem_drop ma))
      · have nn : (ds.take k ++ [p] ++ ds.drop k).Nodup := by
          rw [List.append_assoc]
          exact nodup_in (xs := ds.take k) (ys := ds.drop k) (x := p) (by rw [List.take_append_drop]; exact nd) (by rw [List.take_append_drop]; exact pn)
        exact List.Pairwise.map V.ref (fun a b n e => n (by injection e)) nn
    · iterate 6 (walk_at "s"; refine if_skip rfl (by decide) ?_)
      walk_at "s"
      refine bent_6 f4 fun t H5 s5 nt gt => ?_
      exact q _ _ (o04.trans (Same.off s5)) ((b4.same s5).mono (by omega)) (bent_seq (.inr (.inl (.inl (Wo.at_ gt (b4.ne nt))))) (by rw [List.length_map]; omega) (f4.eachAt (fun a m o e => Wo.at_ (s5 _ _ e) (db a m)) (ok _)) f4.nodupV)
    · iterate 9 (walk_at "s"; refine if_skip rfl (by decide) ?_)
      walk_at "s"
      refine bent_7 (n := n) b4 (by omega) cb db f4 (by omega) (by omega) ok fun v H5 o5 b5 bv => ?_
      exact q _ _ (o04.trans o5) (b5.mono (by omega)) bv
    · iterate 8 (walk_at "s"; refine if_skip rfl (by decide) ?_)
      walk_at "s"
      refine bent_8 f4 ed e2 fun p H5 s5 np gp => ?_
      obtain ⟨pc, pn⟩ := noc np
      have it := f4.eachAt (G := Wo (upd H5 c (.lst ((ds.map V.ref).set k (.ref p)))) b) (fun a m o e => Wo.at_ (by rw [upd_ne (show a ≠ c from fun z => ncd (by rw [← z]; exact m))]; exact s5 _ _ e) (db a m)) (ok _)
      have gp2 : Wo (upd H5 c (.lst ((ds.map V.ref).set k (.ref p)))) b p = some (.dK (wayD fk).reverse) := Wo.at_ (by rw [upd_ne pc]; exact gp) (b4.ne np)
      have dcp : DcV K (Wo (upd H5 c (.lst ((ds.map V.ref).set k (.ref p)))) b) p (wayD fk).reverse := ⟨gp2, (kin _).rev.2.2, rev_keys (f4.2.2.1 k d _ ed e2).2.2⟩
      walk_at "s"
      refine if_skip rfl (by decide) ?_
      walk_at "1"
      refine q _ _ ((o04.trans (Same.off s5)).new nc) ((Bx.upd (b4.same s5) cb).mono (by omega)) (bent_seq (.inl (.inl (.inl (Wo.at_ upd_same cb)))) (by rw [List.length_set, List.length_map]; omega) (all_set it ⟨⟨_, .inr ⟨p, _, rfl, dcp, rfl⟩⟩, itq_dict dcp.1 (kin H5).rev.1 (kin _).rev.2.1⟩) ?_)
      exact nodup_set f4.nodupV (by simpa using pn)
    · iterate 7 (walk_at "s"; refine if_skip rfl (by decide) ?_)
      walk_at "s"
      refine bent_9 b4 (by omega) cb f4 ed e2 (kin H4).1 (fun p mp => ((kin H4).2.1 p mp).1) fun v H5 o5 b5 vn pv => ?_
      have it := f4.eachAt (G := Wo (upd H5 c (.lst ((ds.map V.ref).set k v))) b) (fun a m o e => Wo.at_ (by rw [upd_ne (show a ≠ c from fun z => ncd (by rw [← z]; exact m))]; exact o5 _ _ (db a m) e) (db a m)) (ok _)
      obtain ⟨⟨a, ka, na⟩, iq⟩ := pv (Wo (upd H5 c (.lst ((ds.map V.ref).set k v))) b) (fun a o n1 n2 e => Wo.at_ (by rw [upd_ne n1]; exact e) n2)
      iterate 2 (walk_at "s"; refine if_skip rfl (by decide) ?_)
      walk_at "1"
      exact q _ _ ((o04.trans o5).new nc) ((b5.upd cb).mono (by omega)) (bent_seq (.inl (.inl (.inl (Wo.at_ upd_same cb)))) (by rw [List.length_set, List.length_map]; omega) (all_set it ⟨⟨_, .inl ⟨a, ka, na, rfl⟩⟩, iq⟩) (nodup_set f4.nodupV vn))
end
end U
namespace U
open PySem PySem.Spec PyProof.Rows L2

/-! ### a paper's numbers are never above the least costs -/
theorem above_trans {a b c : Option Int} (h1 : aboveO a b = false) (h2 : aboveO b c = false) : aboveO a c = false := by
  cases c with
  | none => cases a <;> rfl
  | some z =>
    cases b with
    | none => cases h2
    | some y =>
      cases a with
      | none => cases h1
      | some x =>
        have h1 : ¬ y < x := of_decide_eq_false h1
        have h2 : ¬ z < y := of_decide_eq_false h2
        (exact decide_eq_false (by omega))
theorem osum_up {a b : Option Int} {r s : List (Option Int)} (h : aboveO a b = false) (g : aboveO (osum r) (osum s) = false) : aboveO (osum (a :: r)) (osum (b :: s)) = false := by
  cases b with
  | none => cases osum (a :: r) <;> rfl
  | some y =>
    cases a with
    | none => cases h
    | some x =>
      show aboveO ((osum r).map (x + ·)) ((osum s).map (y + ·)) = false
      cases e : osum s with
      | none => cases (osum r).map (x + ·) <;> rfl
      | some v =>
        rw [e] at g
        cases e2 : osum r with
        | none => rw [e2] at g; cases g
        | some u =>
          rw [e2] at g
          have h : ¬ y < x := of_decide_eq_false h
          have g : ¬ v < u := of_decide_eq_false g
          exact decide_eq_false (by show ¬ y + v < x + u; omega)
theorem omin_up {a b c d : Option Int} (h : aboveO a c = false) (g : aboveO b d = false) : aboveO (omin a b) (omin c d) = false := by
  cases a <;> cases b <;> cases c <;> cases d <;> simp_all [aboveO, omin] <;> omega
theorem step_up {p f g : Lvl} (h : ∀ i j, i < 3 → j < 3 → i ≠ j → aboveO (f i j) (g i j) = false) {i j : Nat} (hi : i < 3) (hj : j < 3) (n : i ≠ j) : aboveO (stepO p f i j) (stepO p g i j) = false := by
  have ht : 3 - i - j < 3 ∧ i ≠ 3 - i - j ∧ 3 - i - j ≠ j := by omega
  unfold stepO oline1 oline2
  exact omin_up (osum_up (h _ _ hi ht.1 ht.2.1) (osum_up (above_self _) (osum_up (h _ _ ht.1 hj ht.2.2) rfl)))
    (osum_up (h _ _ hi hj n) (osum_up (above_self _) (osum_up (h _ _ hj hi n.symm) (osum_up (above_self _) (osum_up (h _ _ hi hj n) rfl)))))
theorem ways_mem {i j : Nat} (hi : i < 3) (hj : j < 3) (n : i ≠ j) : (i, j) ∈ waysN := by
  rcases (show i = 0 ∧ j = 1 ∨ i = 0 ∧ j = 2 ∨ i = 1 ∧ j = 0 ∨ i = 1 ∧ j = 2 ∨ i = 2 ∧ j = 0 ∨ i = 2 ∧ j = 1 by omega) with ⟨rfl, rfl⟩ | ⟨rfl, rfl⟩ | ⟨rfl, rfl⟩ | ⟨rfl, rfl⟩ | ⟨rfl, rfl⟩ | ⟨rfl, rfl⟩ <;> decide
theorem paper_low {rows : List (List (Option Int))} {kss : List (List (Key × V))} (pb : paperB rows kss = true) (ln : kss.length = rows.length + 1) (z : ∃ k0, kss[0]? = some k0 ∧ ∀ w ∈ waysN, zeroB (gotV k0 w) = true) :
    ∀ k, k ≤ rows.length → ∀ ks, kss[k]? = some ks → ∀ i j, i < 3 → j < 3 → i ≠ j → aboveO (lvlK ks i j) (towO rows k i j) = false
  | 0, _, ks, e, i, j, hi, hj, n => by
    obtain ⟨k0, e0, z0⟩ := z
    rw [e] at e0
    cases e0
    have := z0 _ (ways_mem hi hj n)
    show aboveO (lvlK ks i j) (some 0) = false
    unfold lvlK
    cases e : gotV ks (i, j) with
    | int v =>
      rw [e] at this
      have : v = 0 := of_decide_eq_true this
      subst this
      rfl
    | _ => rw [e] at this; cases this
  | k + 1, hk, ks, e, i, j, hi, hj, n => by
    have er : rows.reverse[k]? = some (rows.reverse[k]'(by rw [List.length_reverse]; omega)) := List.getElem?_eq_getElem _
    have e0 : kss[k]? = some (kss[k]'(by omega)) := List.getElem?_eq_getElem _
    have ih := paper_low pb ln z k (by omega) _ e0
    have one := List.all_eq_true.mp (List.all_eq_true.mp pb k (List.mem_range.mpr (by omega))) _ (ways_mem hi hj n)
    rw [e, er, e0] at one
    rw [towO_succ er]
    refine above_trans ?_ (step_up ih hi hj n)
    simpa using one
/-! ### yards without a reckoning yet -/
theorem low_prices {rows : List (List (Option Int))} (h : RowsLo rows) : PricesOk rows := by
  intro p m
  obtain ⟨r, mr, m2⟩ := List.mem_flatMap.mp m
  obtain ⟨o, mo, e⟩ := List.mem_filterMap.mp m2
  have e : o = some p := e
  subst e
  have l := of_decide_eq_true (List.all_eq_true.mp (h r mr) _ mo)
  have a : (10 : Int) ^ 32 = 100000000000000000000000000000000 := by decide
  have b : (10 : Int) ^ 33 = 1000000000000000000000000000000000 := by decide
  rw [a] at l
  rw [b]
  omega
section
variable {K : PySem.W.Frag} (F : KF K) {vs : List V} {H H' : Hp} {Q : VK} {E : XK}
theorem make_yardN {rows : List (List (Option Int))} {v : V} {R : Addr → Hp → Prop} (hr : RowV K H v rows) (ho : RowsOk rows) (hp : PricesOk rows) (q : ∀ x H', Same H H' → H x = none → YdK K H' x rows → (∀ a, ¬ YdR K H' x a) → R x H') :
    ∀ x dx, H x = none → H dx = none → dx ≠ x → sp_Yard_init K [.ref x, v] (upd (upd H dx (.own x)) x (.ins (He.ga K "Yard") dx [])) (fun v H2 => v = .non ∧ R x H2) E := by
  intro x dx hx hdx hne
  have s1 : Same H (upd H dx (.own x)) := same_new hdx
  have hx1 : upd H dx (.own x) x = none := by rw [upd_ne hne.symm]; exact hx
  have s2 : Same (upd H dx (.own x)) (upd (upd H dx (.own x)) x (.ins (He.ga K "Yard") dx [])) := same_new hx1
  refine ⟨x, dx, rfl, upd_same, .inl ⟨rows, hr.same (s1.trans s2), ho, fun H' o hy ⟨d2, t2, g2⟩ => ⟨rfl, q x H' ?_ hx ⟨hy, hp, d2, t2, _, g2, .inl rfl⟩ fun a ⟨d3, t3, g3⟩ => ?_⟩⟩⟩
  · exact Off.same (Off.trans (Same.off (s1.trans s2)) o) hx
  · rw [g2] at g3
    simp at g3
theorem repr_bl {x : Bool} {R : VK} (q : R (.str (PyData.bool x).shown) H) : uReprQ K [.bl x] H R :=
  have s : Slim 50000 8 (.bool x) := by cases x <;> exact slimB_ok (by decide +kernel)
  ⟨_, _, rfl, .qbl x, s.1, Nat.le_trans s.2.1 (by decide), Nat.le_trans s.2.2.1 (by decide), q⟩
theorem repr_of {v : V} {d : PyData} {B D : Nat} {R : VK} (h : Dq K H v d) (s : Slim B D d) (hB : B ≤ 100000) (hD : D ≤ 60) (q : R (.str d.shown) H) : uReprQ K [v] H R :=
  ⟨v, d, rfl, h, s.1, Nat.le_trans s.2.1 hD, Nat.le_trans s.2.2.1 (Nat.le_trans hB (by decide)), q⟩
end
def Flt (H H' : Hp) : Prop := ∀ b o, (∀ C dx gs, o ≠ .ins C dx gs) → H b = some o → H' b = some o
theorem Flt.seqL {K : PySem.W.Frag} {H H' : Hp} {a : Addr} {xs : List V} (e : Flt H H') (s : SqL K H a xs) : SqL K H' a xs := by
  rcases s with (q | ⟨o, q⟩) | q
  · exact .inl (.inl (e _ _ (fun _ _ _ z => nomatch z) q))
  · exact .inl (.inr ⟨o, e _ _ (fun _ _ _ z => nomatch z) q⟩)
  · exact .inr q
theorem Flt.seqT {K : PySem.W.Frag} {H H' : Hp} {a : Addr} {xs : List V} (e : Flt H H') (s : SqT K H a xs) : SqT K H' a xs := by
  rcases s with (q | ⟨o, q⟩) | q
  · exact .inl (.inl (e _ _ (fun _ _ _ z => nomatch z) q))
  · exact .inl (.inr ⟨o, e _ _ (fun _ _ _ z => nomatch z) q⟩)
  · exact .inr q
theorem Flt.dct {H H' : Hp} {a : Addr} {kvs : List (Key × V)} (e : Flt H H') (s : H a = some (.dK kvs)) : H' a = some (.dK kvs) := e _ _ (fun _ _ _ z => nomatch z) s
theorem Dq.flt {K : PySem.W.Frag} {H H' : Hp} {v : V} {d : PyData} (e : Flt H H') (h : Dq K H v d) : Dq K H' v d :=
  Dq.rec (motive_1 := fun v d _ => Dq K H' v d) (motive_2 := fun vs ds _ => DqAll K H' vs ds) .qnon .qbl .qint .qstr (fun s _ ih => .qlst (e.seqL s) ih) (fun s _ ih => .qtup (e.seqT s) ih) (fun at_ k _ ih => .qdct (e.dct at_) k ih) .qnil (fun _ _ a b => .qcons a b) h
end U
namespace U
open PySem PySem.Spec PyProof.Rows L2

/-! ### the yard under way beside the bag -/
section
variable {K : PySem.W.Frag} {H H' : Hp}
theorem PrB.offB {b l : Addr} {m : Int} {qs : List (List Int)} (e : Off b H H') (hb : Bx H b m) (h : PrB K H l qs) : PrB K H' l qs := by
  obtain ⟨bs, h1, h2, h3⟩ := h
  obtain ⟨g, s, k, gb, _⟩ := hb
  refine ⟨bs, e _ _ ?_ h1, h2, fun i d q z1 z2 => e.sqT gb (h3 i d q z1 z2)⟩
  rintro rfl
  rw [gb] at h1
  cases bs with
  | nil => cases h1
  | cons x r => cases h1
theorem RkN0.offB {b a : Addr} {m B : Int} {qs : List (List Int)} (e : Off b H H') (hb : Bx H b m) (h : RkN0 K H a B qs) : RkN0 K H' a B qs := by
  obtain ⟨lp, lt, ⟨dx, bk, ha⟩, p1, p2⟩ := h
  obtain ⟨l, gb⟩ := hb.at_
  exact ⟨lp, lt, ⟨dx, bk, e _ _ (by rintro rfl; rw [gb] at ha; cases ha) ha⟩, p1.offB e hb, p2.offB e hb⟩
theorem RkO.offB {b a : Addr} {m : Int} {rows : List (List (Option Int))} (e : Off b H H') (hb : Bx H b m) (h : RkO K H a rows) : RkO K H' a rows := by
  obtain ⟨g, lp, lt, hg, ⟨dx, bk, ha, kb⟩, p1, p2⟩ := h
  obtain ⟨l, gb⟩ := hb.at_
  refine ⟨g, lp, lt, hg, ⟨dx, bk, e _ _ (by rintro rfl; rw [gb] at ha; cases ha) ha, ?_⟩, p1.offB e hb, p2.offB e hb⟩
  rcases kb with z | ⟨c, z1, z2⟩
  · exact .inl z
  · exact .inr ⟨c, z1, z2.offB e hb⟩
theorem YdK.offB {b y : Addr} {m : Int} {rows : List (List (Option Int))} (e : Off b H H') (hb : Bx H b m) (h : YdK K H y rows) : YdK K H' y rows := by
  obtain ⟨h1, h2, dx, t, rk, gy, hk⟩ := h
  obtain ⟨l, gb⟩ := hb.at_
  refine ⟨e.yd gb h1, h2, dx, t, rk, e _ _ (by rintro rfl; rw [gb] at gy; cases gy) gy, ?_⟩
  rcases hk with z | ⟨a, z1, z2⟩
  · exact .inl z
  · exact .inr ⟨a, z1, z2.offB e hb⟩
theorem LvT.offB {b l : Addr} {m : Int} {fs : List Lvl} (e : Off b H H') (hb : Bx H b m) (h : LvT H l fs) : LvT H' l fs := by
  obtain ⟨ls, h1, h2, h3, h4⟩ := h
  obtain ⟨g, s, k, gb, _⟩ := hb
  refine ⟨ls, e _ _ ?_ h1, h2, fun i d f z1 z2 => ?_, h4⟩
  · rintro rfl
    rw [gb] at h1
    cases ls with
    | nil => cases h1
    | cons x r => cases h1
  · have := h3 i d f z1 z2
    exact e _ _ (by rintro rfl; rw [gb] at this; cases this) this
theorem LvT.flt {l : Addr} {fs : List Lvl} (e : ∀ b o, (∀ C dx gs, o ≠ .ins C dx gs) → H b = some o → H' b = some o) (h : LvT H l fs) : LvT H' l fs := by
  obtain ⟨ls, h1, h2, h3, h4⟩ := h
  exact ⟨ls, e _ _ (fun _ _ _ z => nomatch z) h1, h2, fun i d f z1 z2 => e _ _ (fun _ _ _ z => nomatch z) (h3 i d f z1 z2), h4⟩
theorem PI.flt {L b : Addr} {as : List Addr} {rows : List (List (Option Int))} (e : ∀ b o, (∀ C dx gs, o ≠ .ins C dx gs) → H b = some o → H' b = some o) (h : PI H L b as rows) : PI H' L b as rows := by
  obtain ⟨h1, h2, h3, h4, h5⟩ := h
  exact ⟨e _ _ (fun _ _ _ z => nomatch z) h1, h2, h3, h4, fun i a r z1 z2 => ⟨e _ _ (fun _ _ _ z => nomatch z) (h5 i a r z1 z2).1, (h5 i a r z1 z2).2⟩⟩
structure Wh (K : PySem.W.Frag) (H0 H : Hp) (b : Addr) (m : Int) (L y ow : Addr) (as : List Addr) (rows : List (List (Option Int))) : Prop where
  box : Bx H b m
  pi : PI H L b as rows
  yd : YdK K H y rows
  own : LvT H ow (ownL rows)
  bs : Same H0 H
  nb : H0 b = none
  ny : H0 y = none
  fr : ∀ a, YdR K H y a → H0 a = none
variable {H0 : Hp} {b L y ow : Addr} {m m' : Int} {as : List Addr} {rows : List (List (Option Int))}
theorem Wh.off (w : Wh K H0 H b m L y ow as rows) (o : Off b H H') (hb : Bx H' b m') : Wh K H0 H' b m' L y ow as rows where
  box := hb
  pi := w.pi.off o
  yd := w.yd.offB o w.box
  own := w.own.offB o w.box
  bs := fun a u e => o a u (by rintro rfl; rw [w.nb] at e; cases e) (w.bs a u e)
  nb := w.nb
  ny := w.ny
  fr := fun a ⟨dx, t, g⟩ => by
    obtain ⟨_, _, d2, t2, rk, gy, _⟩ := w.yd
    obtain ⟨l, gb⟩ := w.box.at_
    have := o _ _ (by rintro rfl; rw [gb] at gy; cases gy) gy
    rw [this] at g
    refine w.fr a ⟨dx, t, ?_⟩
    rw [gy]
    exact g
theorem Wh.same (w : Wh K H0 H b m L y ow as rows) (s : Same H H') : Wh K H0 H' b m L y ow as rows := w.off (Same.off s) (w.box.same s)
theorem Wh.le (w : Wh K H0 H b m L y ow as rows) (e : m ≤ m') : Wh K H0 H b m' L y ow as rows := w.off Off.refl (w.box.mono e)
theorem Wh.mild (w : Wh K H0 H b m L y ow as rows) (d : Mild K y H H') (yd : YdK K H' y rows) : Wh K H0 H' b m L y ow as rows where
  box := by
    obtain ⟨g, s, k, gb, z⟩ := w.box
    exact ⟨g, s, k, d.fl _ _ (fun _ _ _ z => nomatch z) gb, z⟩
  pi := w.pi.flt d.fl
  yd := yd
  own := w.own.flt d.fl
  bs := (d.bs H0 w.bs w.ny w.fr).1
  nb := w.nb
  ny := w.ny
  fr := (d.bs H0 w.bs w.ny w.fr).2
theorem Wh.gr (w : Wh K H0 H b m L y ow as rows) : GrL K H L rows := ⟨as, .inl (.inl w.pi.1), w.pi.2.2.1, fun k d r z1 z2 => .inl (.inl (w.pi.2.2.2.2 k d r z1 z2).1)⟩
theorem Wh.six (w : Wh K H0 H b m L y ow as rows) : ∀ r ∈ rows, r.length = 6 := fun r mr => (w.pi.2.2.2.1 r mr).1
theorem Wh.lo (w : Wh K H0 H b m L y ow as rows) : RowsLo rows := fun r mr => (w.pi.2.2.2.1 r mr).2
theorem Wh.few (w : Wh K H0 H b m L y ow as rows) : rows.length ≤ 60 := by
  obtain ⟨⟨_, _, _, _, _, _, y4, _⟩, _⟩ := w.yd
  exact y4
/-- [word, text], two lists of it -/
theorem pair_shaped {w s : Str} (hw : PyData.strOk w = true) (hs : PyData.strOk s = true) : SeqAt.shaped (.list [.str w, .str s]) = true := by
  simp [SeqAt.shaped, PyData.canLay0, PyData.canLayAll0, PyData.depth, PyData.depthAll, hw, hs]
theorem dp_pair {l : Addr} {w s : Str} (h : H l = some (.lst [.str w, .str s])) : Dp K H (.ref l) (.list [.str w, .str s]) := .lst (.inl (.inl h)) (.cons (.str w) (.cons (.str s) .nil))
theorem ne_pair {l l2 : Addr} {w s : Str} {Q : VK} (hw : PyData.strOk w = true) (hs : PyData.strOk s = true) (h : H l = some (.lst [.str w, .str s])) (h2 : H l2 = some (.lst [.str w, .str s])) (q : Q (.bl false) H) : uNe K (.ref l) (.ref l2) H Q := by
  have sh := pair_shaped hw hs
  refine ⟨_, _, dp_pair h, dp_pair h2, sh, sh, ?_⟩
  rw [SeqAt.eqv_refl _ (SeqAt.canLay_of_shaped sh)]
  exact q
theorem eq_pair {l l2 : Addr} {w s : Str} {Q : VK} (hw : PyData.strOk w = true) (hs : PyData.strOk s = true) (h : H l = some (.lst [.str w, .str s])) (h2 : H l2 = some (.lst [.str w, .str s])) (q : Q (.bl true) H) : uEq K (.ref l) (.ref l2) H Q := by
  have sh := pair_shaped hw hs
  refine ⟨_, _, dp_pair h, dp_pair h2, sh, sh, ?_⟩
  rw [SeqAt.eqv_refl _ (SeqAt.canLay_of_shaped sh)]
  exact q
theorem ne_cost {o : Option Int} {Q : VK} (q : Q (.bl false) H) : uNe K (pV o) (pV o) H Q := by
  cases o with
  | none => exact ⟨rfl, q⟩
  | some v =>
    show Q (.bl (!decide (v = v))) H
    rw [decide_eq_true rfl]
    exact q
/-! ### how told_cost ends -/
theorem rz_told {f : Str} {v : V} {E1 : XK} {Rx : Str → V → Hp → Prop} (hx : ∀ H', Same H H' → Rx f v H') (h : ∀ g w d H1, Rx g w H1 → H1 d = some (.xd [("value", w)]) → E1 (.ref (He.ga K g)) (some d) H1) : Rz K f "value" v H E1 := fun d H' s n => h f v d _ (hx _ (s.trans (same_new n))) upd_same
theorem out_none {x z : V} (hy : YdK K H y rows) (no : NoLv K H rows.length x) : OutT K H (.ref y) x z (fun _ _ => False) (fun f v H1 => f = "InvalidPaper" ∧ (v = x ∧ Same H H1)) := fun Q1 E1 _ he =>
  .inr ⟨y, rows, rfl, .inl ⟨hy, no, rz_told (Rx := fun f v H1 => f = "InvalidPaper" ∧ (v = x ∧ Same H H1)) (fun H' s => ⟨rfl, rfl, s⟩) he⟩⟩
theorem out_bad {l : Addr} {kss : List (List (Key × V))} {z : V} (tb : Tbs K H y l rows kss) (bad : paperB rows kss = false) : OutT K H (.ref y) (.ref l) z (fun _ _ => False) (fun f v H1 => f = "InvalidPaper" ∧ (v = .ref l ∧ ∃ H', Mild K y H H' ∧ (YdK K H' y rows ∧ Same H' H1))) := fun Q1 E1 _ he =>
  .inr ⟨y, rows, rfl, .inr ⟨l, kss, rfl, tb, fun H' md y1 => ⟨fun _ => rz_told (Rx := fun f v H1 => f = "InvalidPaper" ∧ (v = .ref l ∧ ∃ H', Mild K y H H' ∧ (YdK K H' y rows ∧ Same H' H1))) (fun H2 s => ⟨rfl, rfl, H', md, y1, s⟩) he, fun z => by rw [bad] at z; cases z⟩⟩⟩
theorem out_told {l : Addr} {kss : List (List (Key × V))} {ks : List (Key × V)} {i j : Nat} (tb : Tbs K H y l rows kss) (good : paperB rows kss = true) (hi : i < 3) (hj : j < 3) (n : i ≠ j) (e : kss[rows.length]? = some ks) : OutT K H (.ref y) (.ref l) (.str (wd [i, j])) (fun v H1 => v = pV (lvlK ks i j) ∧ (Mild K y H H1 ∧ YdK K H1 y rows)) (fun _ _ _ => False) := fun Q1 E1 hq _ =>
  .inr ⟨y, rows, rfl, .inr ⟨l, kss, rfl, tb, fun H' md y1 => ⟨(fun z => by rw [good] at z; cases z), fun _ => .inr ⟨i, j, rfl, hi, hj, n, fun ks' e' => by
    rw [e] at e'
    cases e'
    exact hq _ H' ⟨rfl, md, y1⟩⟩⟩⟩⟩
theorem out_way {l : Addr} {kss : List (List (Key × V))} {z : V} {a : Ty} (tb : Tbs K H y l rows kss) (good : paperB rows kss = true) (no : isWy z = false) (kd : ∀ H', Mild K y H H' → Is K H' z a) : OutT K H (.ref y) (.ref l) z (fun _ _ => False) (fun f v H1 => f = "InvalidWay" ∧ (v = z ∧ ∃ H', Mild K y H H' ∧ (YdK K H' y rows ∧ Same H' H1))) := fun Q1 E1 _ he =>
  .inr ⟨y, rows, rfl, .inr ⟨l, kss, rfl, tb, fun H' md y1 => ⟨(fun z => by rw [good] at z; cases z), fun _ => .inl ⟨a, kd H' md, no, rz_told (Rx := fun f v H1 => f = "InvalidWay" ∧ (v = z ∧ ∃ H', Mild K y H H' ∧ (YdK K H' y rows ∧ Same H' H1))) (fun H2 s => ⟨rfl, rfl, H', md, y1, s⟩) he⟩⟩⟩⟩
end
end U
namespace U
open PySem PySem.Spec PyProof.Rows L2

def sp__law_right (K : PySem.W.Frag) : Sp := sp1 fun x H Q _ => ∃ b m, x = .ref b ∧ Bx H b m ∧ m ≤ 100000 ∧ ∀ H', Off b H H' → Q (.bl true) H'
def t__law_right (K : PySem.W.Frag) (E : XK) : TS := (tSeq (tAsg (tFn (sp__law_rows K) E (tCons (tVar 0) (tCons (tOp (uIx K) (tLst (tCons (tC (.int 4)) (tCons (tC (.int 12)) (tCons (tC (.int 60)) tNil)))) (tFn (sp__law_take K) E (tCons (tVar 0) (tCons (tC (.int 3)) tNil)))) tNil))) (gName 1)) (tSeq (tPar 2 3 (tCons (tMake (He.ga K "Yard") (sp_Yard_init K) [] E (tCons (tVar 1) tNil)) (tCons (tFn (sp__law_levels K) E (tCons (tVar 1) tNil)) tNil))) (tSeq (tIfS (tOr (tTest (tOp (rNeLD K) (tFn (sp_tables K) E (tCons (tVar 2) tNil)) (tVar 3))) (tOr (tTest (tOp uNis (tFn (sp_is_paper K) E (tCons (tVar 2) (tCons (tVar 3) tNil))) (tC (.bl true)))) (tNot (tB (tFn (sp__law_straight_right K) E (tCons (tVar 1) (tCons (tVar 2) (tCons (tVar 3) tNil)))))))) (tRet (tC (.bl false))) tNext) (tSeq (tFor (iRng1 (tCons (tC (.int 5)) tNil)) (gName 4) (tSeq (tAsg (tFn (sp__law_bent K) E (tCons (tVar 0) (tCons (tOp (uIx K) (tLst (tCons (tVar 3) (tCons (tFn (sp__law_lowered K) E (tCons (tVar 0) (tCons (tVar 1) tNil))) tNil))) (tFn (sp__law_take K) E (tCons (tVar 0) (tCons (tC (.int 2)) tNil)))) tNil))) (gName 5)) (tSeq (tPar3 6 7 8 (tCons (tFn (sp__law_due K) E (tCons (tVar 1) (tCons (tVar 5) tNil))) (tCons (tCB (uReprQ K) (tCons (tVar 5) tNil)) (tCons (tOp (uIx K) (tC (.ref (He.ga K "WAYS"))) (tFn (sp__law_take K) E (tCons (tVar 0) (tCons (tC (.int 6)) tNil)))) tNil)))) (tSeq (tIfS (tOr (tTest (tOp (uNe K) (tCB (uReprQ K) (tCons (tFn (sp_is_paper K) E (tCons (tVar 2) (tCons (tVar 5) tNil))) tNil)) (tCB (uReprQ K) (tCons (tVar 6) tNil)))) (tTest (tOp (uNe K) (tCB (uReprQ K) (tCons (tVar 5) tNil)) (tVar 7)))) (tRet (tC (.bl false))) tNext) (tSeq (tIfS (tTest (tOp (uNe K) (tFn (sp__law_caught K) E (tCons (tVar 2) (tCons (tVar 5) (tCons (tVar 8) tNil)))) (tIf (tTruth K (tVar 6)) (tDGet (tOp (uIx K) (tVar 5) (tUn (rU fun i => .int (-i)) (tC (.int 1)))) (tVar 8)) (tLst (tCons (tC (.str "paper")) (tCons (tVar 7) tNil)))))) (tRet (tC (.bl false))) tNext) (tIfS (tAnd (tTruth K (tVar 6)) (tB (tFn (sp__law_above K) E (tCons (tDGet (tOp (uIx K) (tVar 5) (tUn (rU fun i => .int (-i)) (tC (.int 1)))) (tVar 8)) (tCons (tFn (sp_tower_cost K) E (tCons (tVar 2) (tCons (tVar 8) tNil))) tNil))))) (tRet (tC (.bl false))) tNext)))))) (tSeq (tPar 9 10 (tCons (tFn (sp__law_lowered K) E (tCons (tVar 0) (tCons (tVar 1) tNil))) (tCons (tOp (uIx K) (tLst (tCons (tC .non) (tCons (tC (.str "aa")) (tCons (tC (.str "")) (tCons (tC (.int 5)) (tCons (tLst (tCons (tC (.str "ab")) tNil)) (tCons (tC (.str "AB")) tNil))))))) (tFn (sp__law_take K) E (tCons (tVar 0) (tCons (tC (.int 6)) tNil)))) tNil))) (tRet (tAndV (tOp uIs (tFn (sp_is_paper K) E (tCons (tVar 2) (tCons (tVar 9) tNil))) (tC (.bl true))) (tOp (uEq K) (tFn (sp__law_caught K) E (tCons (tVar 2) (tCons (tVar 9) (tCons (tVar 10) tNil)))) (tLst (tCons (tC (.str "way")) (tCons (tCB (uReprQ K) (tCons (tVar 10) tNil)) tNil)))))))))))
section
variable {K : PySem.W.Frag} (F : KF K) (C : XF K "CratesError" excN) {vs : List V} {H H' H0 : Hp} {Q : VK} {E : XK}
local macro_rules | `(tactic| walk_at "w") => `(tactic| try simp only [turnE, lcT, Snoc, tRet, tRetN, tAndV, tOrV, tNotV, tCB, tCons, tVar, tNil, tC, tOp, tSeq, tAsg, gName, gSub, tIfS, tDrop, tFn, tTup, tLst, tNext, tB, tTest, tNot, tAnd, tOr, tIf, tChain, tUn, rU, tFld, tPart, tNoPart, L2.tSl, tBM, tPar, tPar3, tTruth, tDNewK,
  L2.start, List.map_cons, List.map_nil, List.length_cons, List.length_nil, List.replicate_succ, List.replicate_zero, List.append_nil, List.nil_append, List.cons_append, List.singleton_append, Nat.sub_self, Nat.zero_add, Nat.reduceAdd, Nat.reduceSub,
  List.getElem?_cons_zero, List.getElem?_cons_succ, List.set_cons_zero, List.set_cons_succ, Option.some.injEq, exists_eq_left, exists_eq_left', V.int.injEq, V.bl.injEq, V.str.injEq, V.ref.injEq,
  uAdd_int, uAdd_str, uSub_int, uMul_int, uMul_str, uDiv_int, uMod_int, uPow_int, uLt_int, uLe_int, uGt_int, uGe_int, uIs_non, uNis_non, uIs_bl, uNis_bl, sp1, sp2, sp3, sp4, uEq_int, uEq_str, uNe_int, uNe_str, uSl_str, uLen_str, decide_eq_true_eq])
local macro_rules | `(tactic| walk_at "1") => `(tactic| try simp only [turnE, lcT, Snoc, tRet, tRetN, tAndV, tOrV, tNotV, tCB, tCons, tVar, tNil, tC, tOp, tAsg, gName, gSub, tIfS, tDrop, tFn, tTup, tLst, tNext, tB, tTest, tNot, tAnd, tOr, tIf, tChain, tUn, rU, tFld, tPart, tNoPart, L2.tSl, tBM, tPar, tPar3, tTruth, tDNewK,
  L2.start, List.map_cons, List.map_nil, List.length_cons, List.length_nil, List.replicate_succ, List.replicate_zero, List.append_nil, List.nil_append, List.cons_append, List.singleton_append, Nat.sub_self, Nat.zero_add, Nat.reduceAdd, Nat.reduceSub,
  List.getElem?_cons_zero, List.getElem?_cons_succ, List.set_cons_zero, List.set_cons_succ, Option.some.injEq, exists_eq_left, exists_eq_left', V.int.injEq, V.bl.injEq, V.str.injEq, V.ref.injEq,
  uAdd_int, uAdd_str, uSub_int, uMul_int, uMul_str, uDiv_int, uMod_int, uPow_int, uLt_int, uLe_int, uGt_int, uGe_int, uIs_non, uNis_non, uIs_bl, uNis_bl, sp1, sp2, sp3, sp4, uEq_int, uEq_str, uNe_int, uNe_str, uSl_str, uLen_str, decide_eq_true_eq])
local macro_rules | `(tactic| walk_at "s") => `(tactic| ((try dsimp only [turnE]); with_reducible refine seq_ ?_))

include F in
theorem way_at {t : Int} (t0 : 0 ≤ t) (t6 : t < 6) (q : ∀ w ∈ waysN, Q (.str (wd [w.1, w.2])) H) : uIx K (.ref (He.ga K "WAYS")) (.int t) H Q := by
  obtain ⟨j, rfl⟩ := Int.eq_ofNat_of_zero_le t0
  obtain ⟨w, hw⟩ : ∃ w, waysN[j]? = some w := ⟨_, List.getElem?_eq_getElem (by show j < 6; omega)⟩
  exact ⟨waysN.map fun w => V.str (wd [w.1, w.2]), .str (wd [w.1, w.2]), .inr (ways6V ▸ F.ways H), at_nat (by rw [List.getElem?_map, hw]; rfl), q w (List.mem_of_getElem? hw)⟩
/-- what stands in a heap without the bag, whatever is drawn -/
theorem bag_off {G : Hp} {b : Addr} (Gb : G b = none) (s : Same G H) (o : Off b H H') : Same G H' := fun a u e => o a u (by rintro rfl; rw [Gb] at e; cases e) (s a u e)
include F in
theorem lap_none {G : Hp} {b L y ow : Addr} {m : Int} {as : List Addr} {rows : List (List (Option Int))} {v : V} {dd : PyData} {x4 x6 x7 x8 x9 x10 : Option V} {D : Ends} (w : Wh K H0 H b m L y ow as rows) (hm : m ≤ 800000) (Gb : G b = none) (sG : Same G H) (no : NoLv K G rows.length v) (dq : Dq K G v dd) (sl : Slim 63615 4 dd)
    (q : ∀ x6 x7 x8 H', Wh K H0 H' b (m + 1) L y ow as rows → D.nx [some (.ref b), some (.ref L), some (.ref y), some (.ref ow), x4, some v, x6, x7, x8, x9, x10] H') :
    (tSeq (tPar3 6 7 8 (tCons (tFn (sp__law_due K) E (tCons (tVar 1) (tCons (tVar 5) tNil))) (tCons (tCB (uReprQ K) (tCons (tVar 5) tNil)) (tCons (tOp (uIx K) (tC (.ref (He.ga K "WAYS"))) (tFn (sp__law_take K) E (tCons (tVar 0) (tCons (tC (.int 6)) tNil)))) tNil)))) (tSeq (tIfS (tOr (tTest (tOp (uNe K) (tCB (uReprQ K) (tCons (tFn (sp_is_paper K) E (tCons (tVar 2) (tCons (tVar 5) tNil))) tNil)) (tCB (uReprQ K) (tCons (tVar 6) tNil)))) (tTest (tOp (uNe K) (tCB (uReprQ K) (tCons (tVar 5) tNil)) (tVar 7)))) (tRet (tC (.bl false))) tNext) (tSeq (tIfS (tTest (tOp (uNe K) (tFn (sp__law_caught K) E (tCons (tVar 2) (tCons (tVar 5) (tCons (tVar 8) tNil)))) (tIf (tTruth K (tVar 6)) (tDGet (tOp (uIx K) (tVar 5) (tUn (rU fun i => .int (-i)) (tC (.int 1)))) (tVar 8)) (tLst (tCons (tC (.str "paper")) (tCons (tVar 7) tNil)))))) (tRet (tC (.bl false))) tNext) (tIfS (tAnd (tTruth K (tVar 6)) (tB (tFn (sp__law_above K) E (tCons (tDGet (tOp (uIx K) (tVar 5) (tUn (rU fun i => .int (-i)) (tC (.int 1)))) (tVar 8)) (tCons (tFn (sp_tower_cost K) E (tCons (tVar 2) (tCons (tVar 8) tNil))) tNil))))) (tRet (tC (.bl false))) tNext)))) D [some (.ref b), some (.ref L), some (.ref y), some (.ref ow), x4, some v, x6, x7, x8, x9, x10] H := by
  walk_at "s"
  walk_at "1"
  refine ⟨L, rows, rfl, w.gr, w.few, w.six, .inl ⟨no.same sG, fun H1 s1 => ?_⟩⟩
  have w := w.same s1
  have sG := sG.trans s1
  refine repr_of (dq.same sG) sl (by decide) (by decide) ?_
  refine take_of w.box (by omega) (by omega) (by omega) fun t H2 t0 t6 o2 b2 => ?_
  have w := w.off o2 b2
  have sG := bag_off Gb sG o2
  refine way_at F t0 t6 fun wy mw => ?_
  refine ⟨_, _, _, rfl, ?_⟩
  walk_at "s"
  walk_at "1"
  refine .inr ⟨y, rows, rfl, .inl ⟨w.yd, no.same sG, fun H3 s3 => ?_⟩⟩
  have w := w.same s3
  have sG := sG.trans s3
  refine repr_bl ?_
  refine repr_bl ?_
  rw [uNe_str, decide_eq_true rfl]
  refine ⟨_, rfl, ?_⟩
  rw [if_neg (by decide)]
  refine repr_of (dq.same sG) sl (by decide) (by decide) ?_
  rw [uNe_str, decide_eq_true rfl]
  refine ⟨_, rfl, ?_⟩
  rw [if_neg (by decide)]
  walk_at "s"
  walk_at "1"
  refine ⟨_, _, out_none w.yd (no.same sG), fun _ _ z => z.elim, fun f v1 H4 ⟨ef, ev, s4⟩ => ?_⟩
  subst ef ev
  refine ⟨by decide, dd, ⟨dq.same (sG.trans s4), sl.1, Nat.le_trans sl.2.1 (by decide), Nat.le_trans sl.2.2.1 (by decide)⟩, fun l H5 s5 nl gl => ?_⟩
  have w := (w.same s4).same s5
  refine ⟨false, rfl, ?_⟩
  rw [if_neg (by decide)]
  refine ⟨by decide, fun p np => ?_⟩
  have s6 : Same H5 (upd H5 p (.lst [.str "paper", .str dd.shown])) := same_new np
  refine ne_pair (w := "paper") (s := dd.shown) (by decide +kernel) (ok_shown dd sl.2.2.2) (s6 _ _ gl) upd_same ⟨_, rfl, ?_⟩
  rw [if_neg (by decide)]
  walk_at "1"
  refine ⟨false, rfl, ?_⟩
  rw [if_neg (by decide), if_neg (by decide)]
  exact q _ _ _ _ (w.same s6)
theorem Flt.same {G : Hp} (f : Flt G H) (s : Same H H') : Flt G H' := fun a o n e => s _ _ (f a o n e)
theorem Flt.mild {G : Hp} {y : Addr} (f : Flt G H) (s : Mild K y H H') : Flt G H' := fun a o n e => s.fl _ _ n (f a o n e)
include F in
theorem lap_tab {G : Hp} {b L y ow l : Addr} {m : Int} {as : List Addr} {rows : List (List (Option Int))} {kss : List (List (Key × V))} {dd : PyData} {x4 x6 x7 x8 x9 x10 : Option V} {D : Ends} (w : Wh K H0 H b m L y ow as rows) (hm : m ≤ 800000) (Gb : G b = none) (sG : Same G H) (lg : LvG K G l kss) (lk : kss.length = rows.length + 1) (z0 : ∃ k0, kss[0]? = some k0 ∧ ∀ w ∈ waysN, zeroB (gotV k0 w) = true) (dq : Dq K G (.ref l) dd) (sl : Slim 63615 4 dd)
    (q : ∀ x6 x7 x8 H', Wh K H0 H' b (m + 1) L y ow as rows → D.nx [some (.ref b), some (.ref L), some (.ref y), some (.ref ow), x4, some (.ref l), x6, x7, x8, x9, x10] H') :
    (tSeq (tPar3 6 7 8 (tCons (tFn (sp__law_due K) E (tCons (tVar 1) (tCons (tVar 5) tNil))) (tCons (tCB (uReprQ K) (tCons (tVar 5) tNil)) (tCons (tOp (uIx K) (tC (.ref (He.ga K "WAYS"))) (tFn (sp__law_take K) E (tCons (tVar 0) (tCons (tC (.int 6)) tNil)))) tNil)))) (tSeq (tIfS (tOr (tTest (tOp (uNe K) (tCB (uReprQ K) (tCons (tFn (sp_is_paper K) E (tCons (tVar 2) (tCons (tVar 5) tNil))) tNil)) (tCB (uReprQ K) (tCons (tVar 6) tNil)))) (tTest (tOp (uNe K) (tCB (uReprQ K) (tCons (tVar 5) tNil)) (tVar 7)))) (tRet (tC (.bl false))) tNext) (tSeq (tIfS (tTest (tOp (uNe K) (tFn (sp__law_caught K) E (tCons (tVar 2) (tCons (tVar 5) (tCons (tVar 8) tNil)))) (tIf (tTruth K (tVar 6)) (tDGet (tOp (uIx K) (tVar 5) (tUn (rU fun i => .int (-i)) (tC (.int 1)))) (tVar 8)) (tLst (tCons (tC (.str "paper")) (tCons (tVar 7) tNil)))))) (tRet (tC (.bl false))) tNext) (tIfS (tAnd (tTruth K (tVar 6)) (tB (tFn (sp__law_above K) E (tCons (tDGet (tOp (uIx K) (tVar 5) (tUn (rU fun i => .int (-i)) (tC (.int 1)))) (tVar 8)) (tCons (tFn (sp_tower_cost K) E (tCons (tVar 2) (tCons (tVar 8) tNil))) tNil))))) (tRet (tC (.bl false))) tNext)))) D [some (.ref b), some (.ref L), some (.ref y), some (.ref ow), x4, some (.ref l), x6, x7, x8, x9, x10] H := by
  walk_at "s"
  walk_at "1"
  refine ⟨L, rows, rfl, w.gr, w.few, w.six, .inr ⟨l, kss, rfl, lg.same sG, lk, z0, fun H1 s1 => ?_⟩⟩
  have w := w.same s1
  have sG := sG.trans s1
  refine repr_of (dq.same sG) sl (by decide) (by decide) ?_
  refine take_of w.box (by omega) (by omega) (by omega) fun t H2 t0 t6 o2 b2 => ?_
  have w := w.off o2 b2
  have sG := bag_off Gb sG o2
  refine way_at F t0 t6 fun wy mw => ?_
  obtain ⟨w1, w2, w3⟩ := waysN_ok wy mw
  refine ⟨_, _, _, rfl, ?_⟩
  walk_at "s"
  walk_at "1"
  refine .inr ⟨y, rows, rfl, .inr ⟨l, kss, rfl, ⟨w.yd, lg.same sG, lk, z0⟩, fun H3 m3 y3 => ?_⟩⟩
  have w := w.mild m3 y3
  have fG : Flt G H3 := fun a o n e => m3.fl a o n (sG a o e)
  refine repr_bl ?_
  refine repr_bl ?_
  rw [uNe_str, decide_eq_true rfl]
  refine ⟨_, rfl, ?_⟩
  rw [if_neg (by decide)]
  refine repr_of (dq.flt fG) sl (by decide) (by decide) ?_
  rw [uNe_str, decide_eq_true rfl]
  refine ⟨_, rfl, ?_⟩
  rw [if_neg (by decide)]
  walk_at "s"
  walk_at "1"
  cases pb : paperB rows kss with
  | false =>
    refine ⟨_, _, out_bad ⟨w.yd, lg.flt fG, lk, z0⟩ pb, fun _ _ z => z.elim, fun f v1 H4 ⟨ef, ev, H', md, yd, s4⟩ => ?_⟩
    subst ef ev
    have fG := (fG.mild md).same s4
    refine ⟨by decide, dd, ⟨dq.flt fG, sl.1, Nat.le_trans sl.2.1 (by decide), Nat.le_trans sl.2.2.1 (by decide)⟩, fun p1 H5 s5 nl gl => ?_⟩
    have w := ((w.mild md yd).same s4).same s5
    refine ⟨false, rfl, ?_⟩
    rw [if_neg (by decide)]
    refine ⟨by decide, fun p np => ?_⟩
    have s6 : Same H5 (upd H5 p (.lst [.str "paper", .str dd.shown])) := same_new np
    refine ne_pair (w := "paper") (s := dd.shown) (by decide +kernel) (ok_shown dd sl.2.2.2) (s6 _ _ gl) upd_same ⟨_, rfl, ?_⟩
    rw [if_neg (by decide)]
    walk_at "1"
    refine ⟨false, rfl, ?_⟩
    rw [if_neg (by decide), if_neg (by decide)]
    exact q _ _ _ _ (w.same s6)
  | true =>
    have ek : kss[rows.length]? = some (kss[rows.length]'(by omega)) := List.getElem?_eq_getElem _
    have last : ∀ {H' : Hp} {R : VK}, Flt G H' → R (pV (lvlK (kss[rows.length]'(by omega)) wy.1 wy.2)) H' → uIx K (.ref l) (.int (-1)) H' fun x H1 => ∃ a o, x = V.ref a ∧ (DGet H1 a (.str (wd [wy.1, wy.2])) (some o) ∧ R o H1) := fun {H' R} fl r => by
      obtain ⟨ls, l1, l2, l3, l4⟩ := lg.flt fl
      have ed : ls[rows.length]? = some (ls[rows.length]'(by omega)) := List.getElem?_eq_getElem _
      obtain ⟨dc, lv⟩ := l3 _ _ _ ed ek
      exact ⟨ls.map V.ref, _, l1, at_end (n := rows.length) (by rw [List.length_map, l2, lk]) (by rw [List.getElem?_map, ed]; rfl), _, _, rfl, (tb_lev dc lv).get w1 w2 w3, r⟩
    refine ⟨_, _, out_told ⟨w.yd, lg.flt fG, lk, z0⟩ pb w1 w2 w3 ek, fun v1 H4 ⟨ev, md, yd⟩ => ?_, fun f v1 H4 z => z.elim⟩
    subst ev
    have fG := fG.mild md
    have w := w.mild md yd
    refine ⟨true, rfl, ?_⟩
    rw [if_pos rfl]
    simp only [tDGet]
    walk_at "1"
    refine last fG ?_
    refine ne_cost ⟨_, rfl, ?_⟩
    rw [if_neg (by decide)]
    refine ⟨true, rfl, ?_⟩
    rw [if_pos rfl]
    refine last fG ?_
    refine .inr ⟨y, rows, rfl, w.yd, .inr ⟨wy.1, wy.2, rfl, w1, w2, w3, fun H5 md yd => ?_⟩⟩
    refine ⟨_, _, rfl, rfl, ?_⟩
    rw [paper_low pb lk z0 rows.length (Nat.le_refl _) _ ek wy.1 wy.2 w1 w2 w3]
    refine ⟨_, rfl, ?_⟩
    rw [if_neg (by decide)]
    exact q _ _ _ _ (w.mild md yd)
end
end U
namespace U
open PySem PySem.Spec PyProof.Rows L2

def t_law (K : PySem.W.Frag) (E : XK) : TS := (tSeq (tFor (iRng1 (tCons (tCB uMax2 (tCons (tC (.int 2)) (tCons (tCB uMin2 (tCons (tC (.int 4)) (tCons (tCB (uLen K) (tCons (tVar 0) tNil)) tNil))) tNil))) tNil)) (gName 1) (tIfS (tNot (tB (tFn (sp__law_right K) E (tCons (tFn (sp__law_bag K) E (tCons (tFn (sp__law_cell K) E (tCons (tVar 0) (tCons (tVar 1) tNil))) tNil)) tNil)))) (tRet (tC (.bl false))) tNext)) (tRet (tC (.bl true))))
theorem wayD_flat (f : Nat → Nat → Option Int) : ∀ p ∈ wayD f, flatPI p.2 = true := by
  intro p m
  obtain ⟨w, _, rfl⟩ := List.mem_map.mp m
  cases f w.1 w.2 <;> rfl
section
variable {K : PySem.W.Frag} (F : KF K) {vs : List V} {H H' H0 : Hp} {Q : VK} {E : XK}
local macro_rules | `(tactic| walk_at "w") => `(tactic| try simp only [turnE, lcT, Snoc, tRet, tRetN, tAndV, tOrV, tNotV, tCB, tCons, tVar, tNil, tC, tOp, tSeq, tAsg, gName, gSub, tIfS, tDrop, tFn, tTup, tLst, tNext, tB, tTest, tNot, tAnd, tOr, tIf, tChain, tUn, rU, tFld, tPart, tNoPart, L2.tSl, tBM, tPar, tPar3, tTruth, tDNewK,
  L2.start, List.map_cons, List.map_nil, List.length_cons, List.length_nil, List.replicate_succ, List.replicate_zero, List.append_nil, List.nil_append, List.cons_append, List.singleton_append, Nat.sub_self, Nat.zero_add, Nat.reduceAdd, Nat.reduceSub,
  List.getElem?_cons_zero, List.getElem?_cons_succ, List.set_cons_zero, List.set_cons_succ, Option.some.injEq, exists_eq_left, exists_eq_left', V.int.injEq, V.bl.injEq, V.str.injEq, V.ref.injEq,
  uAdd_int, uAdd_str, uSub_int, uMul_int, uMul_str, uDiv_int, uMod_int, uPow_int, uLt_int, uLe_int, uGt_int, uGe_int, uIs_non, uNis_non, uIs_bl, uNis_bl, sp1, sp2, sp3, sp4, uEq_int, uEq_str, uNe_int, uNe_str, uSl_str, uLen_str, decide_eq_true_eq])
local macro_rules | `(tactic| walk_at "1") => `(tactic| try simp only [turnE, lcT, Snoc, tRet, tRetN, tAndV, tOrV, tNotV, tCB, tCons, tVar, tNil, tC, tOp, tAsg, gName, gSub, tIfS, tDrop, tFn, tTup, tLst, tNext, tB, tTest, tNot, tAnd, tOr, tIf, tChain, tUn, rU, tFld, tPart, tNoPart, L2.tSl, tBM, tPar, tPar3, tTruth, tDNewK,
  L2.start, List.map_cons, List.map_nil, List.length_cons, List.length_nil, List.replicate_succ, List.replicate_zero, List.append_nil, List.nil_append, List.cons_append, List.singleton_append, Nat.sub_self, Nat.zero_add, Nat.reduceAdd, Nat.reduceSub,
  List.getElem?_cons_zero, List.getElem?_cons_succ, List.set_cons_zero, List.set_cons_succ, Option.some.injEq, exists_eq_left, exists_eq_left', V.int.injEq, V.bl.injEq, V.str.injEq, V.ref.injEq,
  uAdd_int, uAdd_str, uSub_int, uMul_int, uMul_str, uDiv_int, uMod_int, uPow_int, uLt_int, uLe_int, uGt_int, uGe_int, uIs_non, uNis_non, uIs_bl, uNis_bl, sp1, sp2, sp3, sp4, uEq_int, uEq_str, uNe_int, uNe_str, uSl_str, uLen_str, decide_eq_true_eq])
local macro_rules | `(tactic| walk_at "s") => `(tactic| ((try dsimp only [turnE]); with_reducible refine seq_ ?_))

theorem most3_at {e : Int} (h0 : 0 ≤ e) (h3 : e < 3) : ∃ k : Nat, atI [V.int 4, .int 12, .int 60] e = some (.int k) ∧ 1 ≤ k ∧ k ≤ 60 := by
  obtain rfl | rfl | rfl : e = 0 ∨ e = 1 ∨ e = 2 := by omega
  · exact ⟨4, rfl, by decide, by decide⟩
  · exact ⟨12, rfl, by decide, by decide⟩
  · exact ⟨60, rfl, by decide, by decide⟩
theorem odd_at {p : Addr} {e : Int} (h0 : 0 ≤ e) (h6 : e < 6) : ∃ v d a, atI [V.non, .str "aa", .str "", .int 5, .ref p, .str "AB"] e = some v ∧ isWy v = false ∧ Slim 80 2 d ∧ ∀ H' : Hp, H' p = some (.lst [.str "ab"]) → Is K H' v a ∧ Dq K H' v d := by
  obtain rfl | rfl | rfl | rfl | rfl | rfl : e = 0 ∨ e = 1 ∨ e = 2 ∨ e = 3 ∨ e = 4 ∨ e = 5 := by omega
  · exact ⟨_, .none, _, rfl, rfl, slimB_ok (by decide +kernel), fun _ _ => ⟨is_non, .qnon⟩⟩
  · exact ⟨_, .str "aa", _, rfl, by decide +kernel, slimB_ok (by decide +kernel), fun _ _ => ⟨is_str _, .qstr _⟩⟩
  · exact ⟨_, .str "", _, rfl, by decide +kernel, slimB_ok (by decide +kernel), fun _ _ => ⟨is_str _, .qstr _⟩⟩
  · exact ⟨_, .int 5, _, rfl, rfl, slimB_ok (by decide +kernel), fun _ _ => ⟨is_int _, .qint _⟩⟩
  · exact ⟨_, .list [.str "ab"], _, rfl, rfl, slimB_ok (by decide +kernel), fun H' g => ⟨is_lst g, .qlst (.inl (.inl g)) (.qcons (.qstr _) .qnil)⟩⟩
  · exact ⟨_, .str "AB", _, rfl, by decide +kernel, slimB_ok (by decide +kernel), fun _ _ => ⟨is_str _, .qstr _⟩⟩
theorem Mild.lst {y a : Addr} {xs : List V} (md : Mild K y H H') (h : H a = some (.lst xs)) : H' a = some (.lst xs) := md.fl _ _ (fun _ _ _ z => nomatch z) h
theorem below_nn {M : Int} {f : Lvl} (h : Below M f) : ∀ i j v, i < 3 → j < 3 → i ≠ j → f i j = some v → 0 ≤ v := fun i j v hi hj n e => (h i j v hi hj n e).1
/-- tables of a yard's levels, as a paper -/
theorem own_tbs {b L y ow : Addr} {m : Int} {as : List Addr} {rows : List (List (Option Int))} (w : Wh K H0 H b m L y ow as rows) : Tbs K H y ow rows ((ownL rows).map wayD) ∧ paperB rows ((ownL rows).map wayD) = true := by
  have nn := fun f mf => below_nn (own_le w.lo w.few f mf)
  have low := own_low rows nn
  exact ⟨⟨w.yd, lv_tables w.own nn, by rw [List.length_map, ownL_len], _, by rw [List.getElem?_map, low.1]; rfl, fun x mx => by
    obtain ⟨w1, w2, w3⟩ := waysN_ok x mx
    unfold gotV
    rw [val_wayD zeroL w1 w2 w3]
    rfl⟩, low_paper (ownL_len rows) low⟩
theorem low_tbs {b L y ow l : Addr} {m : Int} {as : List Addr} {rows : List (List (Option Int))} {fs : List Lvl} (w : Wh K H0 H b m L y ow as rows) (lt : LvT H l fs) (ln : fs.length = rows.length + 1) (low : LowFs rows fs) : Tbs K H y l rows (fs.map wayD) ∧ paperB rows (fs.map wayD) = true := by
  have nn := fun f mf => below_nn (low_le2 w.lo w.few ln low f mf)
  exact ⟨⟨w.yd, lv_tables lt nn, by rw [List.length_map, ln], _, by rw [List.getElem?_map, low.1]; rfl, fun x mx => by
    obtain ⟨w1, w2, w3⟩ := waysN_ok x mx
    unfold gotV
    rw [val_wayD zeroL w1 w2 w3]
    rfl⟩, low_paper ln low⟩
theorem TabO.lvT {b l : Addr} {fs : List Lvl} (h : TabO b H H' l fs) : LvT H' l fs := by
  obtain ⟨_, _, _, ls, h1, h2, h3, h4, _⟩ := h
  exact ⟨ls, h1, h2, fun k d f e1 e2 => (h3 k d f e1 e2).1, h4⟩
include F in
theorem read__law_right (h : sp__law_right K vs H Q E) : t__law_right K E { nx := fun _ H' => Q .non H', rt := Q } (start ["_law_bag_here", "_law_rows_here", "_law_yard", "_law_own", "_law_lap", "_law_some", "_law_due_here", "_law_kept", "_law_key", "_law_lowered_here", "_law_odd"] vs) H := by
  match vs, h with
  | [_], ⟨b, m, rfl, hb, hm, q⟩ =>
    unfold t__law_right
    walk_at "s"
    walk_at "1"
    refine ⟨by decide, fun p np => ?_⟩
    have b1 := hb.same (same_new (o := .lst [.int 4, .int 12, .int 60]) np)
    have pb := hb.ne np
    have gp : upd H p (.lst [.int 4, .int 12, .int 60]) p = some (.lst [.int 4, .int 12, .int 60]) := upd_same
    have o1 : Off b H (upd H p (.lst [.int 4, .int 12, .int 60])) := Same.off (same_new np)
    refine (show sp__law_take K [.ref b, .int 3] (upd H p (.lst [.int 4, .int 12, .int 60])) _ _ from ?_)
    generalize upd H p (.lst [.int 4, .int 12, .int 60]) = H1 at *
    refine take_of b1 (by omega) (by omega) (by omega) fun d H2 d0 d1 o2 b2 => ?_
    obtain ⟨n, hat, n1, n60⟩ := most3_at d0 d1
    refine uIx_lst (o2 _ _ pb gp) hat ?_
    refine ⟨b, _, n, rfl, rfl, n1, n60, b2, by omega, fun rows v H3 hrl ho hv o3 b3 hlo ⟨L, as, hvL, hp⟩ => ?_⟩
    subst hvL
    have o13 := (o1.trans o2).trans o3
    have q : ∀ H', Same (Wo H3 b) H' → Q (.bl true) H' := fun H' s => q H' (o13.trans (Wo.back s))
    walk_at "s"
    simp only [tPar]
    walk_at "1"
    simp only [tMake]
    walk_at "1"
    refine make_yardN hv ho (low_prices hlo) fun y H4 s4 ny hy nr => ?_
    have pi4 := hp.off (Same.off (D := b) s4)
    have gr4 : GrL K H4 L rows := ⟨as, .inl (.inl pi4.1), pi4.2.2.1, fun k d r z1 z2 => .inl (.inl (pi4.2.2.2.2 k d r z1 z2).1)⟩
    have h6 : ∀ r ∈ rows, r.length = 6 := fun r mr => (hp.2.2.2.1 r mr).1
    have r60 : rows.length ≤ 60 := by omega
    refine ⟨L, rows, rfl, gr4, r60, h6, fun ow H5 tab => ?_⟩
    have s35 := s4.trans tab.1
    have Gb : Wo H3 b b = none := by unfold Wo; rw [if_pos rfl]
    have w : Wh K (Wo H3 b) H5 b (m + 2001) L y ow as rows := ⟨(b3.same s35).mono (by omega), hp.off (Same.off s35), hy.same tab.1, tab.lvT, Wo.of (Same.off s35), Gb, Wo.non ny, fun a ⟨dx, t, g⟩ => by
      obtain ⟨_, _, d2, t2, rk, gy, _⟩ := hy
      have := tab.1 _ _ gy
      rw [this] at g
      exact (nr a ⟨dx, t, by rw [gy]; exact g⟩).elim⟩
    clear hy nr ny pi4 gr4 s4 b3 hp tab s35 o13 o3 o2 o1 b2 b1 hb gp np hat
    refine ⟨_, _, rfl, ?_⟩
    walk_at "s"
    walk_at "1"
    refine .inr ⟨y, rows, rfl, w.yd, fun l H6 H7 md yd _ s67 tb => ?_⟩
    have w := (w.mild md yd).same s67
    obtain ⟨ls, t1, t2, t3, _⟩ := tb
    obtain ⟨ms, o1, o2, o3, _⟩ := id w.own
    refine ⟨l, ow, ls, ms, rfl, rfl, .inl (.inl t1), .inl (.inl o1), by rw [t2, o2, ownL_len], fun i a c e1 e2 => ?_, ⟨_, rfl, ?_⟩⟩
    · have li : i ≤ rows.length := by have := (List.getElem?_eq_some_iff.mp e1).1; omega
      exact ⟨_, t3 i a e1, o3 i c _ e2 (ownL_at li), wayD_flat _, way_nodup _⟩
    clear md yd s67
    rw [if_neg (by decide)]
    obtain ⟨tb, pb⟩ := own_tbs w
    refine .inr ⟨y, rows, rfl, .inr ⟨ow, _, rfl, tb, fun H8 md yd => ?_⟩⟩
    rw [pb]
    have w := w.mild md yd
    walk_at "1"
    refine ⟨L, y, ow, rows, rfl, rfl, rfl, w.gr, w.few, w.six, w.yd, w.own, fun Ha Hb Hc sa md2 yd2 sc => ?_⟩
    have w := ((w.same sa).mild md2 yd2).same sc
    clear md2 yd2 sa md yd tb pb
    refine ⟨true, rfl, ?_⟩
    rw [if_neg (by decide)]
    walk_at "s"
    refine for_rng1 (n := 5) (fun R r => r) (by decide) (fun i σ H' => Wh K (Wo H3 b) H' b (m + 2001 + 800 * (i : Nat)) L y ow as rows ∧ ∃ x4 x5 x6 x7 x8 x9 x10, σ = [some (.ref b), some (.ref L), some (.ref y), some (.ref ow), x4, x5, x6, x7, x8, x9, x10]) ⟨w.le (by omega), _, _, _, _, _, _, _, rfl⟩ ?_ ?_
    · clear w
      rintro i σ Hi hi ⟨w, x4, x5, x6, x7, x8, x9, x10, rfl⟩
      simp only [gName, List.set_cons_zero, List.set_cons_succ]
      walk_at "s"
      walk_at "1"
      refine ⟨b, _, L, as, rows, rfl, w.box, by omega, rfl, w.pi, w.few, fun l fs H8 b8 tabo ln low => ?_⟩
      have w8 := w.off tabo.1 b8
      have lt8 := tabo.lvT
      refine ⟨by decide, fun p np => ?_⟩
      have s9 : Same H8 (upd H8 p (.lst [.ref ow, .ref l])) := same_new np
      have gp : upd H8 p (.lst [.ref ow, .ref l]) p = some (.lst [.ref ow, .ref l]) := upd_same
      have pb := w8.box.ne np
      have w9 := w8.same s9
      have lt9 := lt8.offB (Same.off s9) w8.box
      refine (show sp__law_take K [.ref b, .int 2] (upd H8 p (.lst [.ref ow, .ref l])) _ _ from ?_)
      generalize upd H8 p (.lst [.ref ow, .ref l]) = H9 at *
      refine take_of w9.box (by omega) (by omega) (by omega) fun t H10 t0 t2 o10 b10 => ?_
      have w := w9.off o10 b10
      have lt := lt9.offB o10 w9.box
      clear w8 w9 lt8 lt9
      obtain ⟨z, gs, hz, hg, gn, gb⟩ : ∃ z gs, atI [V.ref ow, .ref l] t = some (.ref z) ∧ LvT H10 z gs ∧ gs.length = rows.length + 1 ∧ ∀ f ∈ gs, Below (10 ^ 61) f := by
        obtain rfl | rfl : t = 0 ∨ t = 1 := by omega
        · exact ⟨ow, ownL rows, rfl, w.own, ownL_len rows, own_le w.lo w.few⟩
        · exact ⟨l, fs, rfl, lt, ln, low_le2 w.lo w.few ln low⟩
      refine uIx_lst (o10 _ _ pb gp) hz ?_
      refine ⟨b, _, z, gs, rows.length, rfl, w.box, by omega, rfl, hg, gn, w.few, gb, fun v H11 o11 b11 bv => ?_⟩
      have w := w.off o11 b11
      obtain ⟨kind, dd, dq, sl⟩ := bv
      have Gb : Wo H11 b b = none := by unfold Wo; rw [if_pos rfl]
      have sG : Same (Wo H11 b) H11 := Wo.of Off.refl
      have fin : ∀ x6 x7 x8 H', Wh K (Wo H3 b) H' b (m + 2001 + 800 * (i : Nat) + 720 + 1 + 4 + 1) L y ow as rows → Wh K (Wo H3 b) H' b (m + 2001 + 800 * ((i + 1 : Nat) : Int)) L y ow as rows ∧ ∃ y4 y5 y6 y7 y8 y9 y10, [some (.ref b), some (.ref L), some (.ref y), some (.ref ow), some (.int (i : Nat)), some v, x6, x7, x8, x9, x10] = [some (.ref b), some (.ref L), some (.ref y), some (.ref ow), y4, y5, y6, y7, y8, y9, y10] := fun x6 x7 x8 H' w' => ⟨w'.le (by omega), _, _, _, _, _, _, _, rfl⟩
      rcases kind with no | ⟨l2, kss, rfl, lg, lk, z0⟩
      · exact lap_none F w (by omega) Gb sG no dq sl fin
      · exact lap_tab F w (by omega) Gb sG lg lk z0 dq sl fin
    · clear w
      rintro σ Hi ⟨w, x4, x5, x6, x7, x8, x9, x10, rfl⟩
      walk_at "s"
      walk_at "1"
      refine ⟨b, _, L, as, rows, rfl, w.box, by omega, rfl, w.pi, w.few, fun l fs H8 b8 tabo ln low => ?_⟩
      have w8 := w.off tabo.1 b8
      have lt8 := tabo.lvT
      refine ⟨by decide, fun p np => ?_⟩
      have s9 : Same H8 (upd H8 p (.lst [.str "ab"])) := same_new np
      have gp : upd H8 p (.lst [.str "ab"]) p = some (.lst [.str "ab"]) := upd_same
      have pb := w8.box.ne np
      have w9 := w8.same s9
      generalize upd H8 p (.lst [.str "ab"]) = H9 at *
      refine ⟨by decide, fun p2 np2 => ?_⟩
      have s10 : Same H9 (upd H9 p2 (.lst [.non, .str "aa", .str "", .int 5, .ref p, .str "AB"])) := same_new np2
      have gp2 : upd H9 p2 (.lst [.non, .str "aa", .str "", .int 5, .ref p, .str "AB"]) p2 = some (.lst [.non, .str "aa", .str "", .int 5, .ref p, .str "AB"]) := upd_same
      have pb2 := w9.box.ne np2
      have w10 := w9.same s10
      have lt10 := lt8.offB (Same.off (s9.trans s10)) w8.box
      refine (show sp__law_take K [.ref b, .int 6] (upd H9 p2 (.lst [.non, .str "aa", .str "", .int 5, .ref p, .str "AB"])) _ _ from ?_)
      have gp10 := s10 _ _ gp
      generalize upd H9 p2 (.lst [.non, .str "aa", .str "", .int 5, .ref p, .str "AB"]) = H10 at *
      refine take_of w10.box (by omega) (by omega) (by omega) fun t H11 t0 t6 o11 b11 => ?_
      have w := w10.off o11 b11
      have lt := lt10.offB o11 w10.box
      have gp11 := o11 _ _ pb gp10
      obtain ⟨v, dd, a, hv, nw, sl, od⟩ := odd_at (K := K) (p := p) t0 t6
      refine uIx_lst (o11 _ _ pb2 gp2) hv ?_
      clear w8 w9 w10 lt8 lt10 hv
      refine ⟨_, _, rfl, ?_⟩
      obtain ⟨tb, pp⟩ := low_tbs w lt ln low
      refine .inr ⟨y, rows, rfl, .inr ⟨l, _, rfl, tb, fun H12 md yd => ?_⟩⟩
      rw [pp]
      have w12 := w.mild md yd
      have lt12 := lt.flt md.fl
      have gp12 := md.lst gp11
      obtain ⟨tb12, _⟩ := low_tbs w12 lt12 ln low
      walk_at "1"
      refine ⟨_, _, out_way tb12 pp nw (fun H' md2 => (od H' (md2.lst gp12)).1), fun _ _ z => z.elim, fun f v1 H13 ⟨ef, ev, H', md2, yd2, s13⟩ => ?_⟩
      subst ef ev
      have gp13 := s13 _ _ (md2.lst gp12)
      have w13 := (w12.mild md2 yd2).same s13
      refine ⟨by decide, dd, ⟨(od _ gp13).2, sl.1, Nat.le_trans sl.2.1 (by decide), Nat.le_trans sl.2.2.1 (by decide)⟩, fun p1 H14 s14 nl gl => ?_⟩
      refine repr_of (od _ (s14 _ _ gp13)).2 sl (by decide) (by decide) ?_
      refine ⟨by decide, fun p3 np3 => ?_⟩
      have s15 : Same H14 (upd H14 p3 (.lst [.str "way", .str dd.shown])) := same_new np3
      refine eq_pair (w := "way") (s := dd.shown) (by decide +kernel) (ok_shown dd sl.2.2.2) (s15 _ _ gl) upd_same ?_
      exact q _ ((w13.same s14).same s15).bs
include F in
theorem read_law (h : sp_law0 K vs H Q E) : t_law K E { nx := fun _ H' => Q .non H', rt := Q } (start ["_law_script", "_law_k"] vs) H := by
  match vs, h with
  | [_], ⟨a, ns, rfl, hs, q⟩ =>
    unfold t_law
    walk_at "s"
    obtain ⟨N, hN6, hN⟩ := most_of (ns.map V.int).length 4 (by decide)
    refine for_rng1 (n := N) (fun R r => by
      walk_at "1"
      refine uLen_seq (.inl hs) ⟨_, _, rfl, ⟨_, _, rfl, ?_⟩⟩
      show R [.int _] H
      rw [hN]
      exact r) (by omega) (fun i σ H' => Same H H' ∧ ∃ x1, σ = [some (.ref a), x1]) ⟨Same.refl H, _, rfl⟩ ?_ ?_
    · rintro i σ H0 hi ⟨s0, x1, rfl⟩
      simp only [gName, List.set_cons_zero, List.set_cons_succ]
      walk_at "1"
      refine ⟨a, ns, i, rfl, rfl, Same.seq s0 hs, by omega, by omega, fun c H1 s1 => ?_⟩
      refine ⟨c, rfl, fun b H2 hb0 s2 hb => ?_⟩
      have s02 := s0.trans (s1.trans s2)
      have nb := (s0.trans s1).free hb0
      refine ⟨b, 0, rfl, hb, by decide, fun H3 o3 => ⟨true, rfl, ?_⟩⟩
      rw [if_neg (by decide)]
      exact ⟨(Off.trans (Same.off s02) o3).same nb, _, rfl⟩
    · rintro σ H0 ⟨s0, x1, rfl⟩
      walk_at "1"
      exact q H0
end
end U
namespace U
open PySem PySem.Spec PyProof.Rows L2

theorem krB_ok {K : PySem.W.Frag} (h : krB K = true) : KR K := by
  unfold krB at h
  simp only [decide_eq_true_eq, Bool.and_eq_true] at h
  obtain ⟨h1, h2, h3, h4, h5, h6⟩ := h
  exact ⟨He.cls_ok h1, He.noat_ok h2, He.noat_ok h3, He.noat_ok h4, He.noat_ok h5, h6⟩
theorem sp5_len {f : V → V → V → V → V → Hp → VK → XK → Prop} {a b c d e : Str} : ∀ vs H Q E, sp_both_lines.sp5' f vs H Q E → vs.length = ([a, b, c, d, e] : List Str).length := fun vs H Q E h => match vs, h with
  | [_, _, _, _, _], _ => rfl
end U
namespace U
open PySem PySem.Spec PyProof.Rows L2
abbrev n__law_bag : List Str := ["_law_cell_here"]
theorem sc__law_bag : FnScope n__law_bag ["_law_cell_here"] (defScope s__law_bag) := ⟨rfl, rfl, rfl, by decide +kernel, rfl, by decide +kernel, by decide +kernel⟩
abbrev n__law_cell : List Str := ["_law_script", "_law_k", "_law_spare"]
theorem sc__law_cell : FnScope n__law_cell ["_law_script", "_law_k"] (defScope s__law_cell) := ⟨rfl, rfl, rfl, by decide +kernel, rfl, by decide +kernel, by decide +kernel⟩
abbrev n__law_above : List Str := ["_law_one", "_law_two"]
theorem sc__law_above : FnScope n__law_above ["_law_one", "_law_two"] (defScope s__law_above) := ⟨rfl, rfl, rfl, by decide +kernel, rfl, by decide +kernel, by decide +kernel⟩
abbrev n__law_take : List Str := ["_law_bag_here", "_law_limit", "_law_digit", "_law_mixed"]
theorem sc__law_take : FnScope n__law_take ["_law_bag_here", "_law_limit"] (defScope s__law_take) := ⟨rfl, rfl, rfl, by decide +kernel, rfl, by decide +kernel, by decide +kernel⟩
abbrev n__law_bent : List Str := ["_law_bag_here", "_law_told", "_law_found", "_law_way", "_law_at", "_law_key", "_law_number", "_law_table"]
theorem sc__law_bent : FnScope n__law_bent ["_law_bag_here", "_law_told"] (defScope s__law_bent) := ⟨rfl, rfl, rfl, by decide +kernel, rfl, by decide +kernel, by decide +kernel⟩
abbrev n_is_way : List Str := ["value"]
theorem sc_is_way : FnScope n_is_way ["value"] (defScope s_is_way) := ⟨rfl, rfl, rfl, by decide +kernel, rfl, by decide +kernel, by decide +kernel⟩
abbrev n_check_way : List Str := ["way"]
theorem sc_check_way : FnScope n_check_way ["way"] (defScope s_check_way) := ⟨rfl, rfl, rfl, by decide +kernel, rfl, by decide +kernel, by decide +kernel⟩
abbrev n_Yard_len : List Str := ["self"]
theorem sc_Yard_len : FnScope n_Yard_len ["self"] (defScope s_Yard_len) := ⟨rfl, rfl, rfl, by decide +kernel, rfl, by decide +kernel, by decide +kernel⟩
abbrev n_are_within : List Str := ["levels", "limits", "level", "line", "number", "limit"]
theorem sc_are_within : FnScope n_are_within ["levels", "limits"] (defScope s_are_within) := ⟨rfl, rfl, rfl, by decide +kernel, rfl, by decide +kernel, by decide +kernel⟩
abbrev n_towers_above : List Str := ["prices", "below", "ab", "ac", "ba", "bc", "ca", "cb", "price_ab", "price_ac", "price_ba", "price_bc", "price_ca", "price_cb"]
theorem sc_towers_above : FnScope n_towers_above ["prices", "below"] (defScope s_towers_above) := ⟨rfl, rfl, rfl, by decide +kernel, rfl, by decide +kernel, by decide +kernel⟩
abbrev n_without_bars : List Str := ["rows", "bound", "row", "price"]
theorem sc_without_bars : FnScope n_without_bars ["rows", "bound"] (defScope s_without_bars) := ⟨rfl, rfl, rfl, by decide +kernel, rfl, by decide +kernel, by decide +kernel⟩
abbrev n_Reckoning_init : List Str := ["self", "bound", "prices", "towers"]
theorem sc_Reckoning_init : FnScope n_Reckoning_init ["self", "bound", "prices", "towers"] (defScope s_Reckoning_init) := ⟨rfl, rfl, rfl, by decide +kernel, rfl, by decide +kernel, by decide +kernel⟩
abbrev n_reckoning_of : List Str := ["rows", "greatest", "bound", "prices", "towers", "six", "row", "price"]
theorem sc_reckoning_of : FnScope n_reckoning_of ["rows"] (defScope s_reckoning_of) := ⟨rfl, rfl, rfl, by decide +kernel, rfl, by decide +kernel, by decide +kernel⟩
abbrev n_Yard_reckoning : List Str := ["self"]
theorem sc_Yard_reckoning : FnScope n_Yard_reckoning ["self"] (defScope s_Yard_reckoning) := ⟨rfl, rfl, rfl, by decide +kernel, rfl, by decide +kernel, by decide +kernel⟩
abbrev n_bound_beyond : List Str := ["yard", "lists", "costs", "levels", "level", "cost"]
theorem sc_bound_beyond : FnScope n_bound_beyond ["yard", "lists"] (defScope s_bound_beyond) := ⟨rfl, rfl, rfl, by decide +kernel, rfl, by decide +kernel, by decide +kernel⟩
abbrev n_Yard_price_rows : List Str := ["self"]
theorem sc_Yard_price_rows : FnScope n_Yard_price_rows ["self"] (defScope s_Yard_price_rows) := ⟨rfl, rfl, rfl, by decide +kernel, rfl, by decide +kernel, by decide +kernel⟩
abbrev n_bounded_prices : List Str := ["yard", "bound"]
theorem sc_bounded_prices : FnScope n_bounded_prices ["yard", "bound"] (defScope s_bounded_prices) := ⟨rfl, rfl, rfl, by decide +kernel, rfl, by decide +kernel, by decide +kernel⟩
abbrev n_numbers_of : List Str := ["levels", "names", "bound", "level", "name"]
theorem sc_numbers_of : FnScope n_numbers_of ["levels", "names", "bound"] (defScope s_numbers_of) := ⟨rfl, rfl, rfl, by decide +kernel, rfl, by decide +kernel, by decide +kernel⟩
abbrev n__are_within_lines : List Str := ["yard", "paper", "bound", "levels", "prices", "six", "below"]
theorem sc__are_within_lines : FnScope n__are_within_lines ["yard", "paper"] (defScope s__are_within_lines) := ⟨rfl, rfl, rfl, by decide +kernel, rfl, by decide +kernel, by decide +kernel⟩
abbrev n__is_level : List Str := ["value", "names", "costs", "name", "cost"]
theorem sc__is_level : FnScope n__is_level ["value", "names"] (defScope s__is_level) := ⟨rfl, rfl, rfl, by decide +kernel, rfl, by decide +kernel, by decide +kernel⟩
abbrev n_are_levels : List Str := ["value", "count", "names", "level", "name"]
theorem sc_are_levels : FnScope n_are_levels ["value", "count", "names"] (defScope s_are_levels) := ⟨rfl, rfl, rfl, by decide +kernel, rfl, by decide +kernel, by decide +kernel⟩
abbrev n_check_yard : List Str := ["yard"]
theorem sc_check_yard : FnScope n_check_yard ["yard"] (defScope s_check_yard) := ⟨rfl, rfl, rfl, by decide +kernel, rfl, by decide +kernel, by decide +kernel⟩
abbrev n_is_paper : List Str := ["yard", "value"]
theorem sc_is_paper : FnScope n_is_paper ["yard", "value"] (defScope s_is_paper) := ⟨rfl, rfl, rfl, by decide +kernel, rfl, by decide +kernel, by decide +kernel⟩
abbrev n_told_cost : List Str := ["yard", "paper", "way"]
theorem sc_told_cost : FnScope n_told_cost ["yard", "paper", "way"] (defScope s_told_cost) := ⟨rfl, rfl, rfl, by decide +kernel, rfl, by decide +kernel, by decide +kernel⟩
abbrev n__law_caught : List Str := ["_law_yard", "_law_value", "_law_key", "e"]
theorem sc__law_caught : FnScope n__law_caught ["_law_yard", "_law_value", "_law_key"] (defScope s__law_caught) := ⟨rfl, rfl, rfl, by decide +kernel, rfl, by decide +kernel, by decide +kernel⟩
abbrev n__law_is_table : List Str := ["_law_value", "_law_number", "_law_way"]
theorem sc__law_is_table : FnScope n__law_is_table ["_law_value"] (defScope s__law_is_table) := ⟨rfl, rfl, rfl, by decide +kernel, rfl, by decide +kernel, by decide +kernel⟩
abbrev n__law_lesser : List Str := ["_law_one", "_law_two", "_law_known", "_law_number"]
theorem sc__law_lesser : FnScope n__law_lesser ["_law_one", "_law_two"] (defScope s__law_lesser) := ⟨rfl, rfl, rfl, by decide +kernel, rfl, by decide +kernel, by decide +kernel⟩
abbrev n__law_other : List Str := ["_law_first", "_law_last", "_law_place"]
theorem sc__law_other : FnScope n__law_other ["_law_first", "_law_last"] (defScope s__law_other) := ⟨rfl, rfl, rfl, by decide +kernel, rfl, by decide +kernel, by decide +kernel⟩
abbrev n__law_price : List Str := ["_law_line", "_law_first", "_law_last"]
theorem sc__law_price : FnScope n__law_price ["_law_line", "_law_first", "_law_last"] (defScope s__law_price) := ⟨rfl, rfl, rfl, by decide +kernel, rfl, by decide +kernel, by decide +kernel⟩
abbrev n__law_sum : List Str := ["_law_numbers"]
theorem sc__law_sum : FnScope n__law_sum ["_law_numbers"] (defScope s__law_sum) := ⟨rfl, rfl, rfl, by decide +kernel, rfl, by decide +kernel, by decide +kernel⟩
abbrev n__law_level : List Str := ["_law_line", "_law_table", "_law_found", "_law_way", "_law_first", "_law_last", "_law_other_here", "_law_one", "_law_two"]
theorem sc__law_level : FnScope n__law_level ["_law_line", "_law_table"] (defScope s__law_level) := ⟨rfl, rfl, rfl, by decide +kernel, rfl, by decide +kernel, by decide +kernel⟩
abbrev n__law_due : List Str := ["_law_rows_here", "_law_value", "_law_count", "_law_line", "_law_best", "_law_table", "_law_way"]
theorem sc__law_due : FnScope n__law_due ["_law_rows_here", "_law_value"] (defScope s__law_due) := ⟨rfl, rfl, rfl, by decide +kernel, rfl, by decide +kernel, by decide +kernel⟩
abbrev n__law_levels : List Str := ["_law_rows_here", "_law_found", "_law_line", "_law_way"]
theorem sc__law_levels : FnScope n__law_levels ["_law_rows_here"] (defScope s__law_levels) := ⟨rfl, rfl, rfl, by decide +kernel, rfl, by decide +kernel, by decide +kernel⟩
abbrev n__law_lowered : List Str := ["_law_bag_here", "_law_rows_here", "_law_way", "_law_found", "_law_line", "_law_best", "_law_number", "_law_less"]
theorem sc__law_lowered : FnScope n__law_lowered ["_law_bag_here", "_law_rows_here"] (defScope s__law_lowered) := ⟨rfl, rfl, rfl, by decide +kernel, rfl, by decide +kernel, by decide +kernel⟩
abbrev n__law_rows : List Str := ["_law_bag_here", "_law_most", "_law_kind", "_law_bars", "_law_found", "_law_crate", "_law_line", "_law_way", "_law_price_here"]
theorem sc__law_rows : FnScope n__law_rows ["_law_bag_here", "_law_most"] (defScope s__law_rows) := ⟨rfl, rfl, rfl, by decide +kernel, rfl, by decide +kernel, by decide +kernel⟩
abbrev n_both_lines : List Str := ["way", "prices", "towers", "to_towers", "from_towers", "straight", "first", "second", "back", "here", "there", "over"]
theorem sc_both_lines : FnScope n_both_lines ["way", "prices", "towers", "to_towers", "from_towers"] (defScope s_both_lines) := ⟨rfl, rfl, rfl, by decide +kernel, rfl, by decide +kernel, by decide +kernel⟩
abbrev n_from_each_tower : List Str := ["towers", "ab", "ac", "ba", "bc", "ca", "cb"]
theorem sc_from_each_tower : FnScope n_from_each_tower ["towers"] (defScope s_from_each_tower) := ⟨rfl, rfl, rfl, by decide +kernel, rfl, by decide +kernel, by decide +kernel⟩
abbrev n_turned : List Str := ["six", "ab", "ac", "ba", "bc", "ca", "cb"]
theorem sc_turned : FnScope n_turned ["six"] (defScope s_turned) := ⟨rfl, rfl, rfl, by decide +kernel, rfl, by decide +kernel, by decide +kernel⟩
abbrev n__straight_ways : List Str := ["prices", "towers", "bound", "to_towers", "from_towers", "ways", "way", "straight", "turning"]
theorem sc__straight_ways : FnScope n__straight_ways ["prices", "towers", "bound"] (defScope s__straight_ways) := ⟨rfl, rfl, rfl, by decide +kernel, rfl, by decide +kernel, by decide +kernel⟩
abbrev n_straight_ways : List Str := ["yard", "reckoning", "ways", "prices", "towers"]
theorem sc_straight_ways : FnScope n_straight_ways ["yard"] (defScope s_straight_ways) := ⟨rfl, rfl, rfl, by decide +kernel, rfl, by decide +kernel, by decide +kernel⟩
abbrev n__law_straight_right : List Str := ["_law_rows_here", "_law_yard", "_law_own", "_law_due_here", "_law_count", "_law_line", "_law_table", "_law_best", "_law_ways", "_law_way", "_law_other_here", "_law_one"]
theorem sc__law_straight_right : FnScope n__law_straight_right ["_law_rows_here", "_law_yard", "_law_own"] (defScope s__law_straight_right) := ⟨rfl, rfl, rfl, by decide +kernel, rfl, by decide +kernel, by decide +kernel⟩
abbrev n_Reckoning_named : List Str := ["self", "names", "numbers", "bound", "name", "number"]
theorem sc_Reckoning_named : FnScope n_Reckoning_named ["self", "names", "numbers"] (defScope s_Reckoning_named) := ⟨rfl, rfl, rfl, by decide +kernel, rfl, by decide +kernel, by decide +kernel⟩
abbrev n_tables : List Str := ["yard", "reckoning", "towers"]
theorem sc_tables : FnScope n_tables ["yard"] (defScope s_tables) := ⟨rfl, rfl, rfl, by decide +kernel, rfl, by decide +kernel, by decide +kernel⟩
abbrev n_Reckoning_told : List Str := ["self", "number"]
theorem sc_Reckoning_told : FnScope n_Reckoning_told ["self", "number"] (defScope s_Reckoning_told) := ⟨rfl, rfl, rfl, by decide +kernel, rfl, by decide +kernel, by decide +kernel⟩
abbrev n_tower_cost : List Str := ["yard", "way", "reckoning"]
theorem sc_tower_cost : FnScope n_tower_cost ["yard", "way"] (defScope s_tower_cost) := ⟨rfl, rfl, rfl, by decide +kernel, rfl, by decide +kernel, by decide +kernel⟩
abbrev n_is_integer : List Str := ["value"]
theorem sc_is_integer : FnScope n_is_integer ["value"] (defScope s_is_integer) := ⟨rfl, rfl, rfl, by decide +kernel, rfl, by decide +kernel, by decide +kernel⟩
abbrev n_is_price : List Str := ["value"]
theorem sc_is_price : FnScope n_is_price ["value"] (defScope s_is_price) := ⟨rfl, rfl, rfl, by decide +kernel, rfl, by decide +kernel, by decide +kernel⟩
abbrev n__is_price_row : List Str := ["value", "price"]
theorem sc__is_price_row : FnScope n__is_price_row ["value"] (defScope s__is_price_row) := ⟨rfl, rfl, rfl, by decide +kernel, rfl, by decide +kernel, by decide +kernel⟩
abbrev n__are_rows : List Str := ["value", "row"]
theorem sc__are_rows : FnScope n__are_rows ["value"] (defScope s__are_rows) := ⟨rfl, rfl, rfl, by decide +kernel, rfl, by decide +kernel, by decide +kernel⟩
abbrev n_Yard_init : List Str := ["self", "rows", "row"]
theorem sc_Yard_init : FnScope n_Yard_init ["self", "rows"] (defScope s_Yard_init) := ⟨rfl, rfl, rfl, by decide +kernel, rfl, by decide +kernel, by decide +kernel⟩
abbrev n__law_right : List Str := ["_law_bag_here", "_law_rows_here", "_law_yard", "_law_own", "_law_lap", "_law_some", "_law_due_here", "_law_kept", "_law_key", "_law_lowered_here", "_law_odd"]
theorem sc__law_right : FnScope n__law_right ["_law_bag_here"] (defScope s__law_right) := ⟨rfl, rfl, rfl, by decide +kernel, rfl, by decide +kernel, by decide +kernel⟩
abbrev n_law : List Str := ["_law_script", "_law_k"]
theorem sc_law : FnScope n_law ["_law_script"] (defScope s_law) := ⟨rfl, rfl, rfl, by decide +kernel, rfl, by decide +kernel, by decide +kernel⟩
structure Ct (K : PySem.W.Frag) (w : World) (mg : Str → Option Value) : Prop where
  says : He5.SaysA fa fn K
  F : KF K
  ks : KS K
  xf : XF K "CratesError" excN
  kr : KR K
  g_COLUMNS : mg "COLUMNS" = some (.ref (He.ga K "COLUMNS"))
  g_InvalidPaper : mg "InvalidPaper" = some (.ref (He.ga K "InvalidPaper"))
  g_InvalidWay : mg "InvalidWay" = some (.ref (He.ga K "InvalidWay"))
  g_InvalidYard : mg "InvalidYard" = some (.ref (He.ga K "InvalidYard"))
  g_Reckoning : mg "Reckoning" = some (.ref (He.ga K "Reckoning"))
  g_WAYS : mg "WAYS" = some (.ref (He.ga K "WAYS"))
  g_Yard : mg "Yard" = some (.ref (He.ga K "Yard"))
  g__TURNS : mg "_TURNS" = some (.ref (He.ga K "_TURNS"))
  g__are_rows : mg "_are_rows" = some (.ref (He.ga K "_are_rows"))
  g__are_within_lines : mg "_are_within_lines" = some (.ref (He.ga K "_are_within_lines"))
  g__is_level : mg "_is_level" = some (.ref (He.ga K "_is_level"))
  g__is_price_row : mg "_is_price_row" = some (.ref (He.ga K "_is_price_row"))
  g__law_above : mg "_law_above" = some (.ref (He.ga K "_law_above"))
  g__law_bag : mg "_law_bag" = some (.ref (He.ga K "_law_bag"))
  g__law_bent : mg "_law_bent" = some (.ref (He.ga K "_law_bent"))
  g__law_caught : mg "_law_caught" = some (.ref (He.ga K "_law_caught"))
  g__law_cell : mg "_law_cell" = some (.ref (He.ga K "_law_cell"))
  g__law_due : mg "_law_due" = some (.ref (He.ga K "_law_due"))
  g__law_is_table : mg "_law_is_table" = some (.ref (He.ga K "_law_is_table"))
  g__law_lesser : mg "_law_lesser" = some (.ref (He.ga K "_law_lesser"))
  g__law_level : mg "_law_level" = some (.ref (He.ga K "_law_level"))
  g__law_levels : mg "_law_levels" = some (.ref (He.ga K "_law_levels"))
  g__law_lowered : mg "_law_lowered" = some (.ref (He.ga K "_law_lowered"))
  g__law_other : mg "_law_other" = some (.ref (He.ga K "_law_other"))
  g__law_price : mg "_law_price" = some (.ref (He.ga K "_law_price"))
  g__law_right : mg "_law_right" = some (.ref (He.ga K "_law_right"))
  g__law_rows : mg "_law_rows" = some (.ref (He.ga K "_law_rows"))
  g__law_straight_right : mg "_law_straight_right" = some (.ref (He.ga K "_law_straight_right"))
  g__law_sum : mg "_law_sum" = some (.ref (He.ga K "_law_sum"))
  g__law_take : mg "_law_take" = some (.ref (He.ga K "_law_take"))
  g__straight_ways : mg "_straight_ways" = some (.ref (He.ga K "_straight_ways"))
  g_are_levels : mg "are_levels" = some (.ref (He.ga K "are_levels"))
  g_are_within : mg "are_within" = some (.ref (He.ga K "are_within"))
  g_both_lines : mg "both_lines" = some (.ref (He.ga K "both_lines"))
  g_bound_beyond : mg "bound_beyond" = some (.ref (He.ga K "bound_beyond"))
  g_bounded_prices : mg "bounded_prices" = some (.ref (He.ga K "bounded_prices"))
  g_check_way : mg "check_way" = some (.ref (He.ga K "check_way"))
  g_check_yard : mg "check_yard" = some (.ref (He.ga K "check_yard"))
  g_from_each_tower : mg "from_each_tower" = some (.ref (He.ga K "from_each_tower"))
  g_is_integer : mg "is_integer" = some (.ref (He.ga K "is_integer"))
  g_is_paper : mg "is_paper" = some (.ref (He.ga K "is_paper"))
  g_is_price : mg "is_price" = some (.ref (He.ga K "is_price"))
  g_is_way : mg "is_way" = some (.ref (He.ga K "is_way"))
  g_law : mg "law" = some (.ref (He.ga K "law"))
  g_numbers_of : mg "numbers_of" = some (.ref (He.ga K "numbers_of"))
  g_reckoning_of : mg "reckoning_of" = some (.ref (He.ga K "reckoning_of"))
  g_straight_ways : mg "straight_ways" = some (.ref (He.ga K "straight_ways"))
  g_tables : mg "tables" = some (.ref (He.ga K "tables"))
  g_told_cost : mg "told_cost" = some (.ref (He.ga K "told_cost"))
  g_tower_cost : mg "tower_cost" = some (.ref (He.ga K "tower_cost"))
  g_towers_above : mg "towers_above" = some (.ref (He.ga K "towers_above"))
  g_turned : mg "turned" = some (.ref (He.ga K "turned"))
  g_without_bars : mg "without_bars" = some (.ref (He.ga K "without_bars"))
  int_MOST_CRATES : ∃ t, mg "MOST_CRATES" = some (.int 60 t)
  n_all : mg "all" = none
  n_bool : mg "bool" = none
  n_dict : mg "dict" = none
  n_enumerate : mg "enumerate" = none
  n_int : mg "int" = none
  n_isinstance : mg "isinstance" = none
  n_len : mg "len" = none
  n_list : mg "list" = none
  n_max : mg "max" = none
  n_min : mg "min" = none
  n_range : mg "range" = none
  n_repr : mg "repr" = none
  n_str : mg "str" = none
  n_sum : mg "sum" = none
  n_tuple : mg "tuple" = none
  n_zip : mg "zip" = none
  mk_Yard : Mk K (He.ga K "Yard") (He.ma K (He.ga K "Yard") "__init__")
  mk_Reckoning : Mk K (He.ga K "Reckoning") (He.ma K (He.ga K "Reckoning") "__init__")
  m_Reckoning_init : Meth K (He.ga K "Reckoning") "__init__" (He.ma K (He.ga K "Reckoning") "__init__")
  m_Reckoning_told : Meth K (He.ga K "Reckoning") "told" (He.ma K (He.ga K "Reckoning") "told")
  m_Reckoning_named : Meth K (He.ga K "Reckoning") "named" (He.ma K (He.ga K "Reckoning") "named")
  m_Yard_init : Meth K (He.ga K "Yard") "__init__" (He.ma K (He.ga K "Yard") "__init__")
  m_Yard_len : Meth K (He.ga K "Yard") "__len__" (He.ma K (He.ga K "Yard") "__len__")
  m_Yard_price_rows : Meth K (He.ga K "Yard") "price_rows" (He.ma K (He.ga K "Yard") "price_rows")
  m_Yard_reckoning : Meth K (He.ga K "Yard") "reckoning" (He.ma K (He.ga K "Yard") "reckoning")
  x_InvalidPaper : ExcT K "InvalidPaper" "value"
  x_InvalidWay : ExcT K "InvalidWay" "value"
  x_InvalidYard : ExcT K "InvalidYard" "value"
  t_COLUMNS : ColK K w
  t__TURNS : TuK K w
theorem ct_of {w : World} {K : PySem.W.Frag} {h : Heap} {mg : Str → Option Value} (X : K.In h) (G : h.Ns mainGlobals mg) (cc : He5.SaysA fa fn K ∧ tabsM ts K = keysM ts w) (e : ex K = true) : Ct K w mg := by
  have c := cc.1
  unfold ex at e
  simp only [Bool.and_eq_true, and_assoc] at e
  obtain ⟨e0, e_sys, e_xf, e_kr, e_tCOLUMNS, e_t_TURNS, e_InvalidPaper, e_InvalidWay, e_InvalidYard⟩ := e
  exact ⟨c, kfB_ok e0, kS_ok e_sys, xF_ok e_xf, krB_ok e_kr, He.glo_ok X G (c.fact 0 (f := .glo "COLUMNS") rfl), He.glo_ok X G (c.fact 1 (f := .glo "InvalidPaper") rfl), He.glo_ok X G (c.fact 2 (f := .glo "InvalidWay") rfl), He.glo_ok X G (c.fact 3 (f := .glo "InvalidYard") rfl), He.glo_ok X G (c.fact 4 (f := .glo "Reckoning") rfl), He.glo_ok X G (c.fact 5 (f := .glo "WAYS") rfl), He.glo_ok X G (c.fact 6 (f := .glo "Yard") rfl), He.glo_ok X G (c.fact 7 (f := .glo "_TURNS") rfl), He.glo_ok X G (c.fact 8 (f := .glo "_are_rows") rfl), He.glo_ok X G (c.fact 9 (f := .glo "_are_within_lines") rfl), He.glo_ok X G (c.fact 10 (f := .glo "_is_level") rfl), He.glo_ok X G (c.fact 11 (f := .glo "_is_price_row") rfl), He.glo_ok X G (c.fact 12 (f := .glo "_law_above") rfl), He.glo_ok X G (c.fact 13 (f := .glo "_law_bag") rfl), He.glo_ok X G (c.fact 14 (f := .glo "_law_bent") rfl), He.glo_ok X G (c.fact 15 (f := .glo "_law_caught") rfl), He.glo_ok X G (c.fact 16 (f := .glo "_law_cell") rfl), He.glo_ok X G (c.fact 17 (f := .glo "_law_due") rfl), He.glo_ok X G (c.fact 18 (f := .glo "_law_is_table") rfl), He.glo_ok X G (c.fact 19 (f := .glo "_law_lesser") rfl), He.glo_ok X G (c.fact 20 (f := .glo "_law_level") rfl), He.glo_ok X G (c.fact 21 (f := .glo "_law_levels") rfl), He.glo_ok X G (c.fact 22 (f := .glo "_law_lowered") rfl), He.glo_ok X G (c.fact 23 (f := .glo "_law_other") rfl), He.glo_ok X G (c.fact 24 (f := .glo "_law_price") rfl), He.glo_ok X G (c.fact 25 (f := .glo "_law_right") rfl), He.glo_ok X G (c.fact 26 (f := .glo "_law_rows") rfl), He.glo_ok X G (c.fact 27 (f := .glo "_law_straight_right") rfl), He.glo_ok X G (c.fact 28 (f := .glo "_law_sum") rfl), He.glo_ok X G (c.fact 29 (f := .glo "_law_take") rfl), He.glo_ok X G (c.fact 30 (f := .glo "_straight_ways") rfl), He.glo_ok X G (c.fact 31 (f := .glo "are_levels") rfl), He.glo_ok X G (c.fact 32 (f := .glo "are_within") rfl), He.glo_ok X G (c.fact 33 (f := .glo "both_lines") rfl), He.glo_ok X G (c.fact 34 (f := .glo "bound_beyond") rfl), He.glo_ok X G (c.fact 35 (f := .glo "bounded_prices") rfl), He.glo_ok X G (c.fact 36 (f := .glo "check_way") rfl), He.glo_ok X G (c.fact 37 (f := .glo "check_yard") rfl), He.glo_ok X G (c.fact 38 (f := .glo "from_each_tower") rfl), He.glo_ok X G (c.fact 39 (f := .glo "is_integer") rfl), He.glo_ok X G (c.fact 40 (f := .glo "is_paper") rfl), He.glo_ok X G (c.fact 41 (f := .glo "is_price") rfl), He.glo_ok X G (c.fact 42 (f := .glo "is_way") rfl), He.glo_ok X G (c.fact 43 (f := .glo "law") rfl), He.glo_ok X G (c.fact 44 (f := .glo "numbers_of") rfl), He.glo_ok X G (c.fact 45 (f := .glo "reckoning_of") rfl), He.glo_ok X G (c.fact 46 (f := .glo "straight_ways") rfl), He.glo_ok X G (c.fact 47 (f := .glo "tables") rfl), He.glo_ok X G (c.fact 48 (f := .glo "told_cost") rfl), He.glo_ok X G (c.fact 49 (f := .glo "tower_cost") rfl), He.glo_ok X G (c.fact 50 (f := .glo "towers_above") rfl), He.glo_ok X G (c.fact 51 (f := .glo "turned") rfl), He.glo_ok X G (c.fact 52 (f := .glo "without_bars") rfl), He.int_ok X G (c.fact 53 (f := .int "MOST_CRATES" 60) rfl), He.free_ok X G (c.fact 54 (f := .free "all") rfl), He.free_ok X G (c.fact 55 (f := .free "bool") rfl), He.free_ok X G (c.fact 56 (f := .free "dict") rfl), He.free_ok X G (c.fact 57 (f := .free "enumerate") rfl), He.free_ok X G (c.fact 58 (f := .free "int") rfl), He.free_ok X G (c.fact 59 (f := .free "isinstance") rfl), He.free_ok X G (c.fact 60 (f := .free "len") rfl), He.free_ok X G (c.fact 61 (f := .free "list") rfl), He.free_ok X G (c.fact 62 (f := .free "max") rfl), He.free_ok X G (c.fact 63 (f := .free "min") rfl), He.free_ok X G (c.fact 64 (f := .free "range") rfl), He.free_ok X G (c.fact 65 (f := .free "repr") rfl), He.free_ok X G (c.fact 66 (f := .free "str") rfl), He.free_ok X G (c.fact 67 (f := .free "sum") rfl), He.free_ok X G (c.fact 68 (f := .free "tuple") rfl), He.free_ok X G (c.fact 69 (f := .free "zip") rfl), He.mkr_ok (c.fact 70 (f := .mkr "Yard") rfl), He.mkr_ok (c.fact 71 (f := .mkr "Reckoning") rfl), He.meth_ok (c.fact 72 (f := .meth "Reckoning" "__init__") rfl), He.meth_ok (c.fact 73 (f := .meth "Reckoning" "told") rfl), He.meth_ok (c.fact 74 (f := .meth "Reckoning" "named") rfl), He.meth_ok (c.fact 75 (f := .meth "Yard" "__init__") rfl), He.meth_ok (c.fact 76 (f := .meth "Yard" "__len__") rfl), He.meth_ok (c.fact 77 (f := .meth "Yard" "price_rows") rfl), He.meth_ok (c.fact 78 (f := .meth "Yard" "reckoning") rfl), excB_ok e_InvalidPaper, excB_ok e_InvalidWay, excB_ok e_InvalidYard, colK_of (tabM cc.2 0) e_tCOLUMNS, tuK_of (tabM cc.2 1) e_t_TURNS⟩
section
variable {P : Program} {w : World} {K : PySem.W.Frag} {mg : Str → Option Value} {base : Heap}
theorem sc_InvalidPaper_init : FnScope ["self", "value"] ["self", "value"] (defScope s_InvalidPaper_init) := ⟨rfl, rfl, rfl, by decide +kernel, rfl, by decide +kernel, by decide +kernel⟩
theorem okx_InvalidPaper (C : Ct K w mg) : GoodX P w K mg base "InvalidPaper" "value" := by
  obtain ⟨fd, F⟩ := C.says.def_ 2 (d := d_InvalidPaper_init) rfl
  exact ⟨⟨fd, F.ok sc_InvalidPaper_init (fun vs H Q E h => spExcI_len vs H Q E h) (fun cdv A outer s H vs Q E hr h => ⟨_, pss_one (ps_ost (pv 0) (pv 1)), read_excI C.x_InvalidPaper h⟩), F.bindsN fun _ _ _ _ _ _ us hl => match us, hl with | [_, _], _ => rfl⟩, C.x_InvalidPaper, C.g_InvalidPaper⟩
theorem sc_InvalidWay_init : FnScope ["self", "value"] ["self", "value"] (defScope s_InvalidWay_init) := ⟨rfl, rfl, rfl, by decide +kernel, rfl, by decide +kernel, by decide +kernel⟩
theorem okx_InvalidWay (C : Ct K w mg) : GoodX P w K mg base "InvalidWay" "value" := by
  obtain ⟨fd, F⟩ := C.says.def_ 1 (d := d_InvalidWay_init) rfl
  exact ⟨⟨fd, F.ok sc_InvalidWay_init (fun vs H Q E h => spExcI_len vs H Q E h) (fun cdv A outer s H vs Q E hr h => ⟨_, pss_one (ps_ost (pv 0) (pv 1)), read_excI C.x_InvalidWay h⟩), F.bindsN fun _ _ _ _ _ _ us hl => match us, hl with | [_, _], _ => rfl⟩, C.x_InvalidWay, C.g_InvalidWay⟩
theorem sc_InvalidYard_init : FnScope ["self", "value"] ["self", "value"] (defScope s_InvalidYard_init) := ⟨rfl, rfl, rfl, by decide +kernel, rfl, by decide +kernel, by decide +kernel⟩
theorem okx_InvalidYard (C : Ct K w mg) : GoodX P w K mg base "InvalidYard" "value" := by
  obtain ⟨fd, F⟩ := C.says.def_ 0 (d := d_InvalidYard_init) rfl
  exact ⟨⟨fd, F.ok sc_InvalidYard_init (fun vs H Q E h => spExcI_len vs H Q E h) (fun cdv A outer s H vs Q E hr h => ⟨_, pss_one (ps_ost (pv 0) (pv 1)), read_excI C.x_InvalidYard h⟩), F.bindsN fun _ _ _ _ _ _ us hl => match us, hl with | [_, _], _ => rfl⟩, C.x_InvalidYard, C.g_InvalidYard⟩
theorem ok__law_bag (C : Ct K w mg) : GoodO P w K mg base 1 "_law_bag" ["_law_cell_here"] (sp__law_bag K) := by
  obtain ⟨fd, F⟩ := C.says.def_ 37 (d := d__law_bag) rfl
  exact ⟨⟨fd, F.ok (k := 0) sc__law_bag (fun vs H Q E h => sp1_len vs H Q E h) (fun cdv A outer s H vs Q E hr h => ⟨t__law_bag K E, (have hu := hr.units; (pss_one (ps_ret (pe_lst (pa_cons (pe_callB (call_max2 rfl) (by rfl) C.n_max (by decide +kernel) (pa_cons pe_int (pa_cons (pe_op op_uSub (pv 0) (pe_op op_uPow pe_int pe_int)) pa_nil))) (pa_cons (pe_op op_uMod (pe_callTy call_int1 (by rfl) C.n_int (by decide +kernel) (pa_cons (pv 0) pa_nil)) pe_int) (pa_cons pe_int pa_nil))))))), read__law_bag C.F h⟩), F.bindsN fun _ _ _ _ _ _ us hl => match us, hl with | [_], _ => rfl⟩, C.g__law_bag, F.kp⟩
theorem ok__law_cell (C : Ct K w mg) : GoodO P w K mg base 1 "_law_cell" ["_law_script", "_law_k"] (sp__law_cell K) := by
  obtain ⟨fd, F⟩ := C.says.def_ 36 (d := d__law_cell) rfl
  exact ⟨⟨fd, F.ok (k := 0) sc__law_cell (fun vs H Q E h => sp2_len vs H Q E h) (fun cdv A outer s H vs Q E hr h => ⟨t__law_cell K E, (have hu := hr.units; (pss_cons (ps_set (i := 2) sc__law_cell.nd rfl (Or.inl rfl) (pe_op op_uAdd (pe_op op_uMul pe_int (pv 1)) pe_int)) (pss_one (ps_ret (pe_ifExp (pt_cmpR op_uLt (pv 1) (pe_callB call_uLen (by rfl) C.n_len boot_len (pa_cons (pv 0) pa_nil)) (by rfl)) (pe_ix ix_u (pv 0) (pv 1) (fun _ _ => rfl)) (pe_op op_uAdd (pv 2) (pe_ifExp (pt_cmpR op_uGt (pe_callB call_uLen (by rfl) C.n_len boot_len (pa_cons (pv 0) pa_nil)) pe_int (by rfl)) (pe_op op_uMod (pe_callTy call_int1 (by rfl) C.n_int (by decide +kernel) (pa_cons (pe_ix ix_u (pv 0) pe_int (fun _ _ => rfl)) pa_nil)) pe_int) pe_int))))))), read__law_cell C.F h⟩), F.bindsN fun _ _ _ _ _ _ us hl => match us, hl with | [_, _], _ => rfl⟩, C.g__law_cell, F.kp⟩
theorem ok__law_above (C : Ct K w mg) : GoodO P w K mg base 1 "_law_above" ["_law_one", "_law_two"] (sp__law_above K) := by
  obtain ⟨fd, F⟩ := C.says.def_ 46 (d := d__law_above) rfl
  exact ⟨⟨fd, F.ok (k := 0) sc__law_above (fun vs H Q E h => sp2_len vs H Q E h) (fun cdv A outer s H vs Q E hr h => ⟨t__law_above K E, (have hu := hr.units; (pss_cons (ps_if (PW.pt (pw_or (pt_cmpR op_uIs (pv 0) pe_non (by rfl)) (pw_or1 (pt_cmpR op_uIs (pv 1) pe_non (by rfl))))) (pss_one (ps_ret (pe_and (pe_cmpR op_uIs (pv 0) pe_non (by rfl)) (pe_one (pe_cmpR op_uNis (pv 1) pe_non (by rfl)))))) pss_nil) (pss_one (ps_ret (pe_cmpR op_uGt (pv 0) (pv 1) (by rfl)))))), read__law_above h⟩), F.bindsN fun _ _ _ _ _ _ us hl => match us, hl with | [_, _], _ => rfl⟩, C.g__law_above, F.kp⟩
theorem ok__law_take (C : Ct K w mg) : GoodO P w K mg base 1 "_law_take" ["_law_bag_here", "_law_limit"] (sp__law_take K) := by
  obtain ⟨fd, F⟩ := C.says.def_ 38 (d := d__law_take) rfl
  exact ⟨⟨fd, F.ok (k := 0) sc__law_take (fun vs H Q E h => sp2_len vs H Q E h) (fun cdv A outer s H vs Q E hr h => ⟨t__law_take K E, (have hu := hr.units; (pss_cons (ps_if (pt_cmpR op_uGt (pe_ix ix_u (pv 0) pe_int (fun _ _ => rfl)) pe_int (by rfl)) (pss_cons (ps_set (i := 2) sc__law_take.nd rfl (Or.inl rfl) (pe_op op_uMod (pe_callTy call_int1 (by rfl) C.n_int (by decide +kernel) (pa_cons (pe_ix ix_u (pv 0) pe_int (fun _ _ => rfl)) pa_nil)) (pv 1))) (pss_cons (ps_asg (pe_op op_uDiv (pe_ix ix_u (pv 0) pe_int (fun _ _ => rfl)) (pv 1)) (pg_sub (pv 0) pe_int set_list)) (pss_one (ps_ret (pv 2))))) pss_nil) (pss_cons (ps_asg (pe_op op_uAdd (pe_ix ix_u (pv 0) pe_int (fun _ _ => rfl)) pe_int) (pg_sub (pv 0) pe_int set_list)) (pss_cons (ps_set (i := 3) sc__law_take.nd rfl (Or.inl rfl) (pe_op op_uMod (pe_op op_uPow (pe_callTy call_int1 (by rfl) C.n_int (by decide +kernel) (pa_cons (pe_op op_uAdd (pe_op op_uAdd (pe_ix ix_u (pv 0) pe_int (fun _ _ => rfl)) (pe_op op_uMul pe_int (pe_ix ix_u (pv 0) pe_int (fun _ _ => rfl)))) pe_int) pa_nil)) pe_int) pe_int)) (pss_cons (ps_set (i := 3) sc__law_take.nd rfl (Or.inl rfl) (pe_op op_uMod (pe_op op_uPow (pe_callTy call_int1 (by rfl) C.n_int (by decide +kernel) (pa_cons (pe_op op_uAdd (pv 3) (pe_op op_uMul pe_int (pe_ix ix_u (pv 0) pe_int (fun _ _ => rfl)))) pa_nil)) pe_int) pe_int)) (pss_one (ps_ret (pe_op op_uMod (pe_callTy call_int1 (by rfl) C.n_int (by decide +kernel) (pa_cons (pe_op op_uDiv (pv 3) pe_int) pa_nil)) (pv 1))))))))), read__law_take C.F h⟩), F.bindsN fun _ _ _ _ _ _ us hl => match us, hl with | [_, _], _ => rfl⟩, C.g__law_take, F.kp⟩
theorem ok__law_bent (C : Ct K w mg) : GoodO P w K mg base 2 "_law_bent" ["_law_bag_here", "_law_told"] (sp__law_bent K) := by
  obtain ⟨fd, F⟩ := C.says.def_ 50 (d := d__law_bent) rfl
  exact ⟨⟨fd, F.ok (k := 1) sc__law_bent (fun vs H Q E h => sp2_len vs H Q E h) (fun cdv A outer s H vs Q E hr h => ⟨t__law_bent K E, (have hu := hr.units; (pss_cons (ps_par (by rfl) sc__law_bent.nd rfl rfl (by decide) rfl rfl (pa_cons (pe_lc (own := [("_law_table", 7)]) (g := (gName 7)) (tt := tYes) rfl sc__law_bent.nd (pi_seq (pv 1)) (blkOk_by (N := n__law_bent) (sc := defScope s__law_bent) (by decide +kernel)) (fun _ _ _ _ _ => (pg_name (i := 7) sc__law_bent.nd rfl (Or.inl rfl))) (fun _ _ _ _ _ => pts_nil) (fun _ _ _ _ _ => (pe_callTy call_dictC (by rfl) C.n_dict (by decide +kernel) (pa_cons (pv 7) pa_nil)))) (pa_cons (pe_fo (ok__law_take C) (hr.mono (by decide)) (by rfl) (passes_call (takes_of rfl rfl rfl rfl) fun _ _ _ _ h => h) (ha := (pa_cons (pv 0) (pa_cons pe_int pa_nil)))) pa_nil)) (by rfl)) (pss_cons (ps_par (by rfl) sc__law_bent.nd rfl rfl (by decide) rfl rfl (pa_cons (pe_fo (ok__law_take C) (hr.mono (by decide)) (by rfl) (passes_call (takes_of rfl rfl rfl rfl) fun _ _ _ _ h => h) (ha := (pa_cons (pv 0) (pa_cons (pe_callB call_uLen (by rfl) C.n_len boot_len (pa_cons (pv 2) pa_nil)) pa_nil)))) (pa_cons (pe_ix ix_u (pe_glob (by rfl) C.g_WAYS rfl) (pe_fo (ok__law_take C) (hr.mono (by decide)) (by rfl) (passes_call (takes_of rfl rfl rfl rfl) fun _ _ _ _ h => h) (ha := (pa_cons (pv 0) (pa_cons pe_int pa_nil)))) (fun _ _ => rfl)) pa_nil)) (by rfl)) (pss_cons (ps_set (i := 6) sc__law_bent.nd rfl (Or.inl rfl) (pe_dget (Nat.lt_of_le_of_lt (Nat.add_le_add_left (by decide) _) hu) (pe_ix ix_u (pv 2) (pv 4) (fun _ _ => rfl)) (pv 5) (fun _ _ => rfl))) (pss_cons (ps_if (pt_cmpR (op_uEq hu) (pv 3) pe_int (by rfl)) (pss_one (ps_asg (pe_op op_uAdd (pe_op op_uAdd pe_int (pe_fo (ok__law_take C) (hr.mono (by decide)) (by rfl) (passes_call (takes_of rfl rfl rfl rfl) fun _ _ _ _ h => h) (ha := (pa_cons (pv 0) (pa_cons pe_int pa_nil))))) (pe_ifExp (pt_cmpR op_uIs (pv 6) pe_non (by rfl)) pe_int (pv 6))) (pg_sub (pe_ix ix_u (pv 2) (pv 4) (fun _ _ => rfl)) (pv 5) (set_dict (Nat.lt_of_le_of_lt (Nat.add_le_add_left (by decide) _) hu))))) pss_nil) (pss_cons (ps_if (pt_cmpR (op_uEq hu) (pv 3) pe_int (by rfl)) (pss_one (ps_asg pe_non (pg_sub (pe_ix ix_u (pv 2) (pv 4) (fun _ _ => rfl)) (pv 5) (set_dict (Nat.lt_of_le_of_lt (Nat.add_le_add_left (by decide) _) hu))))) pss_nil) (pss_cons (ps_if (pt_cmpR (op_uEq hu) (pv 3) pe_int (by rfl)) (pss_one (ps_asg (pe_ix ix_u (pe_lst (pa_cons pe_bl (pa_cons (pe_un un_neg pe_int) (pa_cons pe_str (pa_cons (pe_lst (pa_cons pe_int pa_nil)) (pa_cons pe_int pa_nil)))))) (pe_fo (ok__law_take C) (hr.mono (by decide)) (by rfl) (passes_call (takes_of rfl rfl rfl rfl) fun _ _ _ _ h => h) (ha := (pa_cons (pv 0) (pa_cons pe_int pa_nil)))) (fun _ _ => rfl)) (pg_sub (pe_ix ix_u (pv 2) (pv 4) (fun _ _ => rfl)) (pv 5) (set_dict (Nat.lt_of_le_of_lt (Nat.add_le_add_left (by decide) _) hu))))) pss_nil) (pss_cons (ps_if (pt_cmpR (op_uEq hu) (pv 3) pe_int (by rfl)) (pss_one (ps_expr (pe_bm PySem.F.plainAttrs_dict PySem.F.slot_dict_pop PySem.F.type_dict_pop mt_popD (pe_ix ix_u (pv 2) (pv 4) (fun _ _ => rfl)) (pa_cons (pv 5) pa_nil)))) pss_nil) (pss_cons (ps_if (pt_cmpR (op_uEq hu) (pv 3) pe_int (by rfl)) (pss_cons (ps_asg pe_int (pg_sub (pe_ix ix_u (pv 2) (pv 4) (fun _ _ => rfl)) pe_str (set_dict (Nat.lt_of_le_of_lt (Nat.add_le_add_left (by decide) _) hu)))) (pss_one (ps_if (pt_cmpR (op_uEq hu) (pe_fo (ok__law_take C) (hr.mono (by decide)) (by rfl) (passes_call (takes_of rfl rfl rfl rfl) fun _ _ _ _ h => h) (ha := (pa_cons (pv 0) (pa_cons pe_int pa_nil)))) pe_int (by rfl)) (pss_one (ps_expr (pe_bm PySem.F.plainAttrs_dict PySem.F.slot_dict_pop PySem.F.type_dict_pop mt_popD (pe_ix ix_u (pv 2) (pv 4) (fun _ _ => rfl)) (pa_cons (pv 5) pa_nil)))) pss_nil))) pss_nil) (pss_cons (ps_if (pt_cmpR (op_uEq hu) (pv 3) pe_int (by rfl)) (pss_one (ps_expr (pe_bm PySem.F.plainAttrs_list PySem.F.slot_list_insert PySem.F.type_list_insert mt_insertU (pv 2) (pa_cons (pv 4) (pa_cons (pe_callTy call_dictC (by rfl) C.n_dict (by decide +kernel) (pa_cons (pe_ix ix_u (pv 2) (pv 4) (fun _ _ => rfl)) pa_nil)) pa_nil))))) pss_nil) (pss_cons (ps_if (pt_cmpR (op_uEq hu) (pv 3) pe_int (by rfl)) (pss_one (ps_ret (pe_callTy (call_uTup rfl) (by rfl) C.n_tuple (by decide +kernel) (pa_cons (pv 2) pa_nil)))) pss_nil) (pss_cons (ps_if (pt_cmpR (op_uEq hu) (pv 3) pe_int (by rfl)) (pss_one (ps_asg (pe_ix ix_u (pe_lst (pa_cons pe_non (pa_cons pe_int (pa_cons (pe_callTy (call_list_dK rfl) (by rfl) C.n_list (by decide +kernel) (pa_cons (pe_ix ix_u (pv 2) (pv 4) (fun _ _ => rfl)) pa_nil)) (pa_cons pe_str pa_nil))))) (pe_fo (ok__law_take C) (hr.mono (by decide)) (by rfl) (passes_call (takes_of rfl rfl rfl rfl) fun _ _ _ _ h => h) (ha := (pa_cons (pv 0) (pa_cons pe_int pa_nil)))) (fun _ _ => rfl)) (pg_sub (pv 2) (pv 4) set_list))) pss_nil) (pss_cons (ps_if (pt_cmpR (op_uEq hu) (pv 3) pe_int (by rfl)) (pss_one (ps_asg (pe_callTy (call_dictP' rfl) (by rfl) C.n_dict (by decide +kernel) (pa_cons (pe_revL (LiI.pe_listItems rfl (pe_ix ix_u (pv 2) (pv 4) (fun _ _ => rfl)) (by rfl) C.n_list boot_list)) pa_nil)) (pg_sub (pv 2) (pv 4) set_list))) pss_nil) (pss_cons (ps_if (pt_cmpR (op_uEq hu) (pv 3) pe_int (by rfl)) (pss_one (ps_ret (pe_ix ix_u (pe_lst (pa_cons pe_non (pa_cons pe_int (pa_cons pe_dnewK (pa_cons (pe_lst pa_nil) (pa_cons pe_str (pa_cons (pe_slice sl_u (pv 2) po_none (po_some (pe_un un_neg pe_int))) (pa_cons (pe_ix ix_u (pv 2) pe_int (fun _ _ => rfl)) pa_nil)))))))) (pe_fo (ok__law_take C) (hr.mono (by decide)) (by rfl) (passes_call (takes_of rfl rfl rfl rfl) fun _ _ _ _ h => h) (ha := (pa_cons (pv 0) (pa_cons pe_int pa_nil)))) (fun _ _ => rfl)))) pss_nil) (pss_one (ps_ret (pv 2))))))))))))))))), read__law_bent C.F h⟩), F.bindsN fun _ _ _ _ _ _ us hl => match us, hl with | [_, _], _ => rfl⟩, C.g__law_bent, F.kp⟩
theorem ok_is_way (C : Ct K w mg) : GoodO P w K mg base 1 "is_way" ["value"] (sp_is_way K) := by
  obtain ⟨fd, F⟩ := C.says.def_ 18 (d := d_is_way) rfl
  exact ⟨⟨fd, F.ok (k := 0) sc_is_way (fun vs H Q E h => sp1_len vs H Q E h) (fun cdv A outer s H vs Q E hr h => ⟨t_is_way K E, (have hu := hr.units; (pss_one (ps_ret (pe_and (pe_callB call_uIsi (by rfl) C.n_isinstance (by decide +kernel) (pa_cons (pv 0) (pa_cons (pe_bltn (v := .ty "str") (by rfl) C.n_str (by decide +kernel) rfl) pa_nil))) (pe_one (pe_cmpR op_uIn (pv 0) (pe_glob (by rfl) C.g_WAYS rfl) (by rfl))))))), read_is_way C.F h⟩), F.bindsN fun _ _ _ _ _ _ us hl => match us, hl with | [_], _ => rfl⟩, C.g_is_way, F.kp⟩
theorem ok_check_way (C : Ct K w mg) : GoodO P w K mg base 3 "check_way" ["way"] (sp_check_way K) := by
  obtain ⟨fd, F⟩ := C.says.def_ 21 (d := d_check_way) rfl
  exact ⟨⟨fd, F.ok (k := 2) sc_check_way (fun vs H Q E h => sp1_len vs H Q E h) (fun cdv A outer s H vs Q E hr h => ⟨t_check_way K E, (have hu := hr.units; (pss_one (ps_if (pt_not (pt_val (pe_fo (ok_is_way C) (hr.mono (by decide)) (by rfl) (passes_call (takes_of rfl rfl rfl rfl) fun _ _ _ _ h => h) (ha := (pa_cons (pv 0) pa_nil))))) (pss_one (ps_rse (okx_InvalidWay C) (hr.mono (by decide)) rfl (takes_of rfl rfl rfl rfl) (by rfl) (pa_cons (pv 0) pa_nil))) pss_nil))), read_check_way C.F h⟩), F.bindsN fun _ _ _ _ _ _ us hl => match us, hl with | [_], _ => rfl⟩, C.g_check_way, F.kp⟩
theorem ok_Yard_len (C : Ct K w mg) : GoodM P w K mg base 1 "Yard" "__len__" ["self"] (sp_Yard_len K) := by
  obtain ⟨fd, F⟩ := C.says.def_ 24 (d := d_Yard_len) rfl
  exact ⟨⟨fd, F.ok (k := 0) sc_Yard_len (fun vs H Q E h => sp1_len vs H Q E h) (fun cdv A outer s H vs Q E hr h => ⟨t_Yard_len K E, (have hu := hr.units; (pss_one (ps_ret (pe_callB call_uLen (by rfl) C.n_len boot_len (pa_cons (pe_fld (pv 0) rfl) pa_nil))))), read_Yard_len C.F h⟩), F.bindsN fun _ _ _ _ _ _ us hl => match us, hl with | [_], _ => rfl⟩, C.m_Yard_len, C.F.cl⟩
theorem ok_are_within (C : Ct K w mg) : GoodO P w K mg base 1 "are_within" ["levels", "limits"] (sp_are_within K) := by
  obtain ⟨fd, F⟩ := C.says.def_ 17 (d := d_are_within) rfl
  exact ⟨⟨fd, F.ok (k := 0) sc_are_within (fun vs H Q E h => sp2_len vs H Q E h) (fun cdv A outer s H vs Q E hr h => ⟨t_are_within K E, (have hu := hr.units; (pss_one (ps_ret (pe_callB (cr_all rfl) (by rfl) C.n_all (by decide +kernel) (pa_cons (pe_lc (own := [("level", 2), ("line", 3)]) (g := (gTup K 2 (gCons (gName 2) (gCons (gName 3) gNil)))) (tt := tYes) rfl sc_are_within.nd (pi_zipV (by rfl) C.n_zip (pa_cons (pe_slice sl_u (pv 0) (po_some pe_int) po_none) (pa_cons (pv 1) pa_nil))) (blkOk_by (N := n_are_within) (sc := defScope s_are_within) (by decide +kernel)) (fun _ _ _ _ _ => (pg_tup (by rfl) (pgs_cons (pg_name (i := 2) sc_are_within.nd rfl (Or.inl rfl)) (pgs_cons (pg_name (i := 3) sc_are_within.nd rfl (Or.inl rfl)) pgs_nil)))) (fun _ _ _ _ _ => pts_nil) (fun _ _ _ _ _ => (pe_callB (cr_all rfl) (by rfl) C.n_all (by decide +kernel) (pa_cons (pe_lc (own := [("number", 4), ("limit", 5)]) (g := (gTup K 2 (gCons (gName 4) (gCons (gName 5) gNil)))) (tt := tYes) rfl sc_are_within.nd (pi_zipV (by rfl) C.n_zip (pa_cons (pv 2) (pa_cons (pv 3) pa_nil))) (blkOk_by (N := n_are_within) (sc := ({ kind := .function, names := [(".0", .local), ("level", .local), ("line", .local), ("all", .globalImplicit), ("zip", .globalImplicit)], isGenerator := false, isCoroutine := false } : Scope)) (by decide +kernel)) (fun _ _ _ _ _ => (pg_tup (by rfl) (pgs_cons (pg_name (i := 4) sc_are_within.nd rfl (Or.inl rfl)) (pgs_cons (pg_name (i := 5) sc_are_within.nd rfl (Or.inl rfl)) pgs_nil)))) (fun _ _ _ _ _ => pts_nil) (fun _ _ _ _ _ => (pe_cmpR op_uLe (pv 4) (pv 5) (by rfl)))) pa_nil)))) pa_nil))))), read_are_within C.F h⟩), F.bindsN fun _ _ _ _ _ _ us hl => match us, hl with | [_, _], _ => rfl⟩, C.g_are_within, F.kp⟩
theorem ok_towers_above (C : Ct K w mg) : GoodO P w K mg base 1 "towers_above" ["prices", "below"] (sp_towers_above K) := by
  obtain ⟨fd, F⟩ := C.says.def_ 4 (d := d_towers_above) rfl
  exact ⟨⟨fd, F.ok (k := 0) sc_towers_above (fun vs H Q E h => sp2_len vs H Q E h) (fun cdv A outer s H vs Q E hr h => ⟨t_towers_above K E, (have hu := hr.units; (pss_cons (ps_asg (pv 1) (pg_tup (by rfl) (pgs_cons (pg_name (i := 2) sc_towers_above.nd rfl (Or.inl rfl)) (pgs_cons (pg_name (i := 3) sc_towers_above.nd rfl (Or.inl rfl)) (pgs_cons (pg_name (i := 4) sc_towers_above.nd rfl (Or.inl rfl)) (pgs_cons (pg_name (i := 5) sc_towers_above.nd rfl (Or.inl rfl)) (pgs_cons (pg_name (i := 6) sc_towers_above.nd rfl (Or.inl rfl)) (pgs_cons (pg_name (i := 7) sc_towers_above.nd rfl (Or.inl rfl)) pgs_nil)))))))) (pss_cons (ps_asg (pv 0) (pg_tup (by rfl) (pgs_cons (pg_name (i := 8) sc_towers_above.nd rfl (Or.inl rfl)) (pgs_cons (pg_name (i := 9) sc_towers_above.nd rfl (Or.inl rfl)) (pgs_cons (pg_name (i := 10) sc_towers_above.nd rfl (Or.inl rfl)) (pgs_cons (pg_name (i := 11) sc_towers_above.nd rfl (Or.inl rfl)) (pgs_cons (pg_name (i := 12) sc_towers_above.nd rfl (Or.inl rfl)) (pgs_cons (pg_name (i := 13) sc_towers_above.nd rfl (Or.inl rfl)) pgs_nil)))))))) (pss_one (ps_ret (pe_tup (pa_cons (pe_callB (call_min2 rfl) (by rfl) C.n_min (by decide +kernel) (pa_cons (pe_op op_uAdd (pe_op op_uAdd (pv 3) (pv 8)) (pv 7)) (pa_cons (pe_op op_uAdd (pe_op op_uAdd (pe_op op_uAdd (pe_op op_uAdd (pv 2) (pv 9)) (pv 4)) (pv 13)) (pv 2)) pa_nil))) (pa_cons (pe_callB (call_min2 rfl) (by rfl) C.n_min (by decide +kernel) (pa_cons (pe_op op_uAdd (pe_op op_uAdd (pv 2) (pv 9)) (pv 5)) (pa_cons (pe_op op_uAdd (pe_op op_uAdd (pe_op op_uAdd (pe_op op_uAdd (pv 3) (pv 8)) (pv 6)) (pv 11)) (pv 3)) pa_nil))) (pa_cons (pe_callB (call_min2 rfl) (by rfl) C.n_min (by decide +kernel) (pa_cons (pe_op op_uAdd (pe_op op_uAdd (pv 5) (pv 10)) (pv 6)) (pa_cons (pe_op op_uAdd (pe_op op_uAdd (pe_op op_uAdd (pe_op op_uAdd (pv 4) (pv 11)) (pv 2)) (pv 12)) (pv 4)) pa_nil))) (pa_cons (pe_callB (call_min2 rfl) (by rfl) C.n_min (by decide +kernel) (pa_cons (pe_op op_uAdd (pe_op op_uAdd (pv 4) (pv 11)) (pv 3)) (pa_cons (pe_op op_uAdd (pe_op op_uAdd (pe_op op_uAdd (pe_op op_uAdd (pv 5) (pv 10)) (pv 7)) (pv 9)) (pv 5)) pa_nil))) (pa_cons (pe_callB (call_min2 rfl) (by rfl) C.n_min (by decide +kernel) (pa_cons (pe_op op_uAdd (pe_op op_uAdd (pv 7) (pv 12)) (pv 4)) (pa_cons (pe_op op_uAdd (pe_op op_uAdd (pe_op op_uAdd (pe_op op_uAdd (pv 6) (pv 13)) (pv 3)) (pv 10)) (pv 6)) pa_nil))) (pa_cons (pe_callB (call_min2 rfl) (by rfl) C.n_min (by decide +kernel) (pa_cons (pe_op op_uAdd (pe_op op_uAdd (pv 6) (pv 13)) (pv 2)) (pa_cons (pe_op op_uAdd (pe_op op_uAdd (pe_op op_uAdd (pe_op op_uAdd (pv 7) (pv 12)) (pv 5)) (pv 8)) (pv 7)) pa_nil))) pa_nil)))))))))))), read_towers_above C.F h⟩), F.bindsN fun _ _ _ _ _ _ us hl => match us, hl with | [_, _], _ => rfl⟩, C.g_towers_above, F.kp⟩
theorem ok_without_bars (C : Ct K w mg) : GoodO P w K mg base 1 "without_bars" ["rows", "bound"] (sp_without_bars K) := by
  obtain ⟨fd, F⟩ := C.says.def_ 8 (d := d_without_bars) rfl
  exact ⟨⟨fd, F.ok (k := 0) sc_without_bars (fun vs H Q E h => sp2_len vs H Q E h) (fun cdv A outer s H vs Q E hr h => ⟨t_without_bars K E, (have hu := hr.units; (pss_one (ps_ret (pe_lc (own := [("row", 2)]) (g := (gName 2)) (tt := tYes) rfl sc_without_bars.nd (pi_seq (pe_revU (pv 0))) (blkOk_by (N := n_without_bars) (sc := defScope s_without_bars) (by decide +kernel)) (fun _ _ _ _ _ => (pg_name (i := 2) sc_without_bars.nd rfl (Or.inl rfl))) (fun _ _ _ _ _ => pts_nil) (fun _ _ _ _ _ => (pe_ifExp (pt_cmpR op_uIn pe_non (pv 2) (by rfl)) (pe_callTy (call_uTup rfl) (by rfl) C.n_tuple (by decide +kernel) (pa_cons (pe_lc (own := [("price", 3)]) (g := (gName 3)) (tt := tYes) rfl sc_without_bars.nd (pi_seq (pv 2)) (blkOk_by (N := n_without_bars) (sc := ({ kind := .function, names := [(".0", .local), ("row", .local), ("tuple", .globalImplicit), ("bound", .cell)], isGenerator := false, isCoroutine := false } : Scope)) (by decide +kernel)) (fun _ _ _ _ _ => (pg_name (i := 3) sc_without_bars.nd rfl (Or.inl rfl))) (fun _ _ _ _ _ => pts_nil) (fun _ _ _ _ _ => (pe_ifExp (pt_cmpR op_uIs (pv 3) pe_non (by rfl)) (pv 1) (pv 3)))) pa_nil)) (pv 2))))))), read_without_bars C.F h⟩), F.bindsN fun _ _ _ _ _ _ us hl => match us, hl with | [_, _], _ => rfl⟩, C.g_without_bars, F.kp⟩
theorem ok_Reckoning_init (C : Ct K w mg) : GoodM P w K mg base 1 "Reckoning" "__init__" ["self", "bound", "prices", "towers"] (sp_Reckoning_init K) := by
  obtain ⟨fd, F⟩ := C.says.def_ 9 (d := d_Reckoning_init) rfl
  exact ⟨⟨fd, F.ok (k := 0) sc_Reckoning_init (fun vs H Q E h => sp4_len vs H Q E h) (fun cdv A outer s H vs Q E hr h => ⟨t_Reckoning_init K E, (have hu := hr.units; (pss_cons (ps_fld (pv 0) (pv 1) rfl) (pss_cons (ps_fld (pv 0) (pv 2) rfl) (pss_cons (ps_fld (pv 0) (pv 3) rfl) (pss_one (ps_fld (pv 0) pe_non rfl)))))), read_Reckoning_init C.F C.kr h⟩), F.bindsN fun _ _ _ _ _ _ us hl => match us, hl with | [_, _, _, _], _ => rfl⟩, C.m_Reckoning_init, C.kr.cl⟩
theorem ok_reckoning_of (C : Ct K w mg) : GoodO P w K mg base 3 "reckoning_of" ["rows"] (sp_reckoning_of K) := by
  obtain ⟨fd, F⟩ := C.says.def_ 7 (d := d_reckoning_of) rfl
  exact ⟨⟨fd, F.ok (k := 2) sc_reckoning_of (fun vs H Q E h => sp1_len vs H Q E h) (fun cdv A outer s H vs Q E hr h => ⟨t_reckoning_of K E, (have hu := hr.units; (pss_cons (ps_set (i := 1) sc_reckoning_of.nd rfl (Or.inl rfl) (pe_callBK (call_maxDf rfl hu) (by rfl) C.n_max (by decide +kernel) (pa_cons (pe_lc2 (own := [("row", 6), ("price", 7)]) (vs1 := [7]) rfl sc_reckoning_of.nd (pi_seq (pv 0)) (blkOk_by (N := n_reckoning_of) (sc := defScope s_reckoning_of) (by decide +kernel)) (by decide) (fun _ _ _ _ _ => (pg_name (i := 6) sc_reckoning_of.nd rfl (Or.inl rfl))) (fun _ _ _ _ _ => pts_nil) (fun _ _ _ _ _ => (pi_seq (pv 6))) (fun _ _ _ _ _ => (pg_name (i := 7) sc_reckoning_of.nd rfl (Or.inl rfl))) (fun _ _ _ _ _ => (pts_one (pt_cmpR op_uNis (pv 7) pe_non (by rfl)))) (fun _ _ _ _ _ => (pv 7))) pa_nil) (pk_cons pe_int pk_nil))) (pss_cons (ps_set (i := 2) sc_reckoning_of.nd rfl (Or.inl rfl) (pe_op op_uShl (pv 1) (pe_op op_uMul pe_int (pe_callB call_uLen (by rfl) C.n_len boot_len (pa_cons (pv 0) pa_nil))))) (pss_cons (ps_set (i := 3) sc_reckoning_of.nd rfl (Or.inl rfl) (pe_fo (ok_without_bars C) (hr.mono (by decide)) (by rfl) (passes_call (takes_of rfl rfl rfl rfl) fun _ _ _ _ h => h) (ha := (pa_cons (pv 0) (pa_cons (pv 2) pa_nil))))) (pss_cons (ps_set (i := 4) sc_reckoning_of.nd rfl (Or.inl rfl) (pe_lst (pa_cons (pe_tup (pa_cons pe_int (pa_cons pe_int (pa_cons pe_int (pa_cons pe_int (pa_cons pe_int (pa_cons pe_int pa_nil))))))) pa_nil))) (pss_cons (ps_for (passes_of rfl) rfl (pi_seq (pv 3)) (pg_name (i := 5) sc_reckoning_of.nd rfl (Or.inl rfl)) (pss_one (ps_expr (pe_bm PySem.F.plainAttrs_list PySem.F.slot_list_append PySem.F.type_list_append mt_append (pv 4) (pa_cons (pe_fo (ok_towers_above C) (hr.mono (by decide)) (by rfl) (passes_call (takes_of rfl rfl rfl rfl) fun _ _ _ _ h => h) (ha := (pa_cons (pv 5) (pa_cons (pe_ix ix_u (pv 4) (pe_un un_neg pe_int) (fun _ _ => rfl)) pa_nil)))) pa_nil))))) (pss_one (ps_ret (pe_mk (ok_Reckoning_init C) C.mk_Reckoning C.g_Reckoning (hr.mono (by decide)) (by rfl) (passes_call (takes_of rfl rfl rfl rfl) fun _ _ _ _ h => h) (ha := (pa_cons (pv 2) (pa_cons (pv 3) (pa_cons (pv 4) pa_nil))))))))))))), read_reckoning_of C.F C.kr h⟩), F.bindsN fun _ _ _ _ _ _ us hl => match us, hl with | [_], _ => rfl⟩, C.g_reckoning_of, F.kp⟩
theorem ok_Yard_reckoning (C : Ct K w mg) : GoodM P w K mg base 4 "Yard" "reckoning" ["self"] (sp_Yard_reckoning K) := by
  obtain ⟨fd, F⟩ := C.says.def_ 26 (d := d_Yard_reckoning) rfl
  exact ⟨⟨fd, F.ok (k := 3) sc_Yard_reckoning (fun vs H Q E h => sp1_len vs H Q E h) (fun cdv A outer s H vs Q E hr h => ⟨t_Yard_reckoning K E, (have hu := hr.units; (pss_cons (ps_if (pt_cmpR op_uIs (pe_fld (pv 0) rfl) pe_non (by rfl)) (pss_one (ps_fld (pv 0) (pe_fo (ok_reckoning_of C) (hr.mono (by decide)) (by rfl) (passes_call (takes_of rfl rfl rfl rfl) fun _ _ _ _ h => h) (ha := (pa_cons (pe_fld (pv 0) rfl) pa_nil))) rfl)) pss_nil) (pss_one (ps_ret (pe_fld (pv 0) rfl))))), read_Yard_reckoning C.F C.kr h⟩), F.bindsN fun _ _ _ _ _ _ us hl => match us, hl with | [_], _ => rfl⟩, C.m_Yard_reckoning, C.F.cl⟩
theorem ok_bound_beyond (C : Ct K w mg) : GoodO P w K mg base 5 "bound_beyond" ["yard", "lists"] (sp_bound_beyond K) := by
  obtain ⟨fd, F⟩ := C.says.def_ 14 (d := d_bound_beyond) rfl
  exact ⟨⟨fd, F.ok (k := 4) sc_bound_beyond (fun vs H Q E h => sp2_len vs H Q E h) (fun cdv A outer s H vs Q E hr h => ⟨t_bound_beyond K E, (have hu := hr.units; (pss_cons (ps_lockS (ps_setLc3 (i := 2) (own := [("levels", 3), ("level", 4), ("cost", 5)]) (vs1 := [4, 5]) (vs2 := [5]) rfl sc_bound_beyond.nd rfl rfl (by exact sw_true rfl rfl rfl (by decide +kernel)) (pi_seq (pv 1)) (blkOk_by (N := n_bound_beyond) (sc := defScope s_bound_beyond) (by decide +kernel)) (by decide) (by decide) (fun _ _ _ _ _ => (pg_name (i := 3) sc_bound_beyond.nd rfl (Or.inl rfl))) (fun _ _ _ _ _ => pts_nil) (fun _ _ _ _ _ => (pi_seq (pv 3))) (fun _ _ _ _ _ => (pg_name (i := 4) sc_bound_beyond.nd rfl (Or.inl rfl))) (fun _ _ _ _ _ => pts_nil) (fun _ _ _ _ _ => (pi_values (pv 4))) (fun _ _ _ _ _ => (pg_name (i := 5) sc_bound_beyond.nd rfl (Or.inl rfl))) (fun _ _ _ _ _ => (pts_one (pt_cmpR op_uNis (pv 5) pe_non (by rfl)))) (fun _ _ _ _ _ => (pv 5)))) (pss_one (ps_ret (pe_op op_uAdd (pe_fld (Exists.elim (ok_Yard_reckoning C).fn fun _ z => pe_meth0 (pv 0) (ok_Yard_reckoning (P := P) (base := base) C).cl (ok_Yard_reckoning (P := P) (base := base) C).mt z.1 (hr.mono (by decide)) z.2 .nil (passes_call (takes_of rfl rfl rfl rfl) fun _ _ _ _ h => h)) rfl) (pe_op op_uMul pe_int (pe_callB (cr_max rfl) (by rfl) C.n_max (by decide +kernel) (pa_cons (pv 2) pa_nil)))))))), read_bound_beyond C.F C.kr h⟩), F.bindsN fun _ _ _ _ _ _ us hl => match us, hl with | [_, _], _ => rfl⟩, C.g_bound_beyond, F.kp⟩
theorem ok_Yard_price_rows (C : Ct K w mg) : GoodM P w K mg base 1 "Yard" "price_rows" ["self"] (sp_Yard_price_rows K) := by
  obtain ⟨fd, F⟩ := C.says.def_ 25 (d := d_Yard_price_rows) rfl
  exact ⟨⟨fd, F.ok (k := 0) sc_Yard_price_rows (fun vs H Q E h => sp1_len vs H Q E h) (fun cdv A outer s H vs Q E hr h => ⟨t_Yard_price_rows K E, (have hu := hr.units; (pss_one (ps_ret (pe_fld (pv 0) rfl)))), read_Yard_price_rows C.F h⟩), F.bindsN fun _ _ _ _ _ _ us hl => match us, hl with | [_], _ => rfl⟩, C.m_Yard_price_rows, C.F.cl⟩
theorem ok_bounded_prices (C : Ct K w mg) : GoodO P w K mg base 2 "bounded_prices" ["yard", "bound"] (sp_bounded_prices K) := by
  obtain ⟨fd, F⟩ := C.says.def_ 15 (d := d_bounded_prices) rfl
  exact ⟨⟨fd, F.ok (k := 1) sc_bounded_prices (fun vs H Q E h => sp2_len vs H Q E h) (fun cdv A outer s H vs Q E hr h => ⟨t_bounded_prices K E, (have hu := hr.units; (pss_one (ps_ret (pe_fo (ok_without_bars C) (hr.mono (by decide)) (by rfl) (passes_call (takes_of rfl rfl rfl rfl) fun _ _ _ _ h => h) (ha := (pa_cons (Exists.elim (ok_Yard_price_rows C).fn fun _ z => pe_meth0 (pv 0) (ok_Yard_price_rows (P := P) (base := base) C).cl (ok_Yard_price_rows (P := P) (base := base) C).mt z.1 (hr.mono (by decide)) z.2 .nil (passes_call (takes_of rfl rfl rfl rfl) fun _ _ _ _ h => h)) (pa_cons (pv 1) pa_nil))))))), read_bounded_prices C.F h⟩), F.bindsN fun _ _ _ _ _ _ us hl => match us, hl with | [_, _], _ => rfl⟩, C.g_bounded_prices, F.kp⟩
theorem ok_numbers_of (C : Ct K w mg) : GoodO P w K mg base 1 "numbers_of" ["levels", "names", "bound"] (sp_numbers_of K) := by
  obtain ⟨fd, F⟩ := C.says.def_ 16 (d := d_numbers_of) rfl
  exact ⟨⟨fd, F.ok (k := 0) sc_numbers_of (fun vs H Q E h => sp3_len vs H Q E h) (fun cdv A outer s H vs Q E hr h => ⟨t_numbers_of K E, (have hu := hr.units; (pss_one (ps_ret (pe_lc (own := [("level", 3)]) (g := (gName 3)) (tt := tYes) rfl sc_numbers_of.nd (pi_seq (pv 0)) (blkOk_by (N := n_numbers_of) (sc := defScope s_numbers_of) (by decide +kernel)) (fun _ _ _ _ _ => (pg_name (i := 3) sc_numbers_of.nd rfl (Or.inr rfl))) (fun _ _ _ _ _ => pts_nil) (fun _ _ _ _ _ => (pe_callTy (call_uTup rfl) (by rfl) C.n_tuple (by decide +kernel) (pa_cons (pe_lc (own := [("name", 4)]) (g := (gName 4)) (tt := tYes) rfl sc_numbers_of.nd (pi_seq (pv 1)) (blkOk_by (N := n_numbers_of) (sc := ({ kind := .function, names := [(".0", .local), ("level", .cell), ("tuple", .globalImplicit), ("bound", .cell), ("names", .cell)], isGenerator := false, isCoroutine := false } : Scope)) (by decide +kernel)) (fun _ _ _ _ _ => (pg_name (i := 4) sc_numbers_of.nd rfl (Or.inl rfl))) (fun _ _ _ _ _ => pts_nil) (fun _ _ _ _ _ => (pe_ifExp (pt_cmpR op_uIs (pe_dget (Nat.lt_of_le_of_lt (Nat.add_le_add_left (by decide) _) hu) (pv 3) (pv 4) (fun _ _ => rfl)) pe_non (by rfl)) (pv 2) (pe_dget (Nat.lt_of_le_of_lt (Nat.add_le_add_left (by decide) _) hu) (pv 3) (pv 4) (fun _ _ => rfl))))) pa_nil))))))), read_numbers_of C.F h⟩), F.bindsN fun _ _ _ _ _ _ us hl => match us, hl with | [_, _, _], _ => rfl⟩, C.g_numbers_of, F.kp⟩
theorem ok__are_within_lines (C : Ct K w mg) : GoodO P w K mg base 6 "_are_within_lines" ["yard", "paper"] (sp__are_within_lines K) := by
  obtain ⟨fd, F⟩ := C.says.def_ 32 (d := d__are_within_lines) rfl
  exact ⟨⟨fd, F.ok (k := 5) sc__are_within_lines (fun vs H Q E h => sp2_len vs H Q E h) (fun cdv A outer s H vs Q E hr h => ⟨t__are_within_lines K E, (have hu := hr.units; (pss_cons (ps_set (i := 2) sc__are_within_lines.nd rfl (Or.inl rfl) (pe_fo (ok_bound_beyond C) (hr.mono (by decide)) (by rfl) (passes_call (takes_of rfl rfl rfl rfl) fun _ _ _ _ h => h) (ha := (pa_cons (pv 0) (pa_cons (pe_lst (pa_cons (pv 1) pa_nil)) pa_nil))))) (pss_cons (ps_set (i := 3) sc__are_within_lines.nd rfl (Or.inl rfl) (pe_fo (ok_numbers_of C) (hr.mono (by decide)) (by rfl) (passes_call (takes_of rfl rfl rfl rfl) fun _ _ _ _ h => h) (ha := (pa_cons (pv 1) (pa_cons (pe_glob (by rfl) C.g_WAYS rfl) (pa_cons (pv 2) pa_nil)))))) (pss_cons (ps_set (i := 4) sc__are_within_lines.nd rfl (Or.inl rfl) (pe_fo (ok_bounded_prices C) (hr.mono (by decide)) (by rfl) (passes_call (takes_of rfl rfl rfl rfl) fun _ _ _ _ h => h) (ha := (pa_cons (pv 0) (pa_cons (pv 2) pa_nil))))) (pss_one (ps_ret (pe_fo (ok_are_within C) (hr.mono (by decide)) (by rfl) (passes_call (takes_of rfl rfl rfl rfl) fun _ _ _ _ h => h) (ha := (pa_cons (pv 3) (pa_cons (pe_lc (own := [("six", 5), ("below", 6)]) (g := (gTup K 2 (gCons (gName 5) (gCons (gName 6) gNil)))) (tt := tYes) rfl sc__are_within_lines.nd (pi_zipV (by rfl) C.n_zip (pa_cons (pv 4) (pa_cons (pv 3) pa_nil))) (blkOk_by (N := n__are_within_lines) (sc := defScope s__are_within_lines) (by decide +kernel)) (fun _ _ _ _ _ => (pg_tup (by rfl) (pgs_cons (pg_name (i := 5) sc__are_within_lines.nd rfl (Or.inl rfl)) (pgs_cons (pg_name (i := 6) sc__are_within_lines.nd rfl (Or.inl rfl)) pgs_nil)))) (fun _ _ _ _ _ => pts_nil) (fun _ _ _ _ _ => (pe_fo (ok_towers_above C) (hr.mono (by decide)) (by rfl) passL (ha := (pa_cons (pv 5) (pa_cons (pv 6) pa_nil)))))) pa_nil)))))))))), read__are_within_lines C.F C.kr h⟩), F.bindsN fun _ _ _ _ _ _ us hl => match us, hl with | [_, _], _ => rfl⟩, C.g__are_within_lines, F.kp⟩
theorem ok__is_level (C : Ct K w mg) : GoodO P w K mg base 1 "_is_level" ["value", "names"] (sp__is_level K) := by
  obtain ⟨fd, F⟩ := C.says.def_ 13 (d := d__is_level) rfl
  exact ⟨⟨fd, F.ok (k := 0) sc__is_level (fun vs H Q E h => sp2_len vs H Q E h) (fun cdv A outer s H vs Q E hr h => ⟨t__is_level K E, (have hu := hr.units; (pss_cons (ps_if (PW.pt (pw_or (pt_not (pt_val (pe_callB call_uIsi (by rfl) C.n_isinstance (by decide +kernel) (pa_cons (pv 0) (pa_cons (pe_bltn (v := .ty "dict") (by rfl) C.n_dict (by decide +kernel) rfl) pa_nil))))) (pw_or1 (pt_cmpR (op_uNe hu) (pe_callB call_lenD' (by rfl) C.n_len boot_len (pa_cons (pv 0) pa_nil)) (pe_callB call_uLen (by rfl) C.n_len boot_len (pa_cons (pv 1) pa_nil)) (by rfl))))) (pss_one (ps_ret pe_bl)) pss_nil) (pss_cons (ps_setLc (i := 2) (own := [("name", 3)]) (g := (gName 3)) (tt := tYes) rfl sc__is_level.nd rfl rfl (by exact sw_true rfl rfl rfl (by decide +kernel)) (pi_seq (pv 1)) (blkOk_by (N := n__is_level) (sc := defScope s__is_level) (by decide +kernel)) (fun _ _ _ _ _ => (pg_name (i := 3) sc__is_level.nd rfl (Or.inl rfl))) (fun _ _ _ _ _ => pts_nil) (fun _ _ _ _ _ => (pe_dget2 (Nat.lt_of_le_of_lt (Nat.add_le_add_left (by decide) _) hu) (pv 0) (pv 3) pe_bl ⟨rfl, rfl, rfl, rfl⟩))) (pss_one (ps_ret (pe_callB (cr_all rfl) (by rfl) C.n_all (by decide +kernel) (pa_cons (pe_lc (own := [("cost", 4)]) (g := (gName 4)) (tt := tYes) rfl sc__is_level.nd (pi_seq (pv 2)) (blkOk_by (N := n__is_level) (sc := defScope s__is_level) (by decide +kernel)) (fun _ _ _ _ _ => (pg_name (i := 4) sc__is_level.nd rfl (Or.inl rfl))) (fun _ _ _ _ _ => pts_nil) (fun _ _ _ _ _ => (pe_or (pe_cmpR op_uIs (pv 4) pe_non (by rfl)) (pe_one (pe_and (pe_callB call_uIsi (by rfl) C.n_isinstance (by decide +kernel) (pa_cons (pv 4) (pa_cons (pe_bltn (v := .ty "int") (by rfl) C.n_int (by decide +kernel) rfl) pa_nil))) (pe_and (pe_not (pe_callB call_uIsi (by rfl) C.n_isinstance (by decide +kernel) (pa_cons (pv 4) (pa_cons (pe_bltn (v := .ty "bool") (by rfl) C.n_bool (by decide +kernel) rfl) pa_nil)))) (pe_one (pe_cmpR op_uGe (pv 4) pe_int (by rfl))))))))) pa_nil))))))), read__is_level C.F h⟩), F.bindsN fun _ _ _ _ _ _ us hl => match us, hl with | [_, _], _ => rfl⟩, C.g__is_level, F.kp⟩
theorem ok_are_levels (C : Ct K w mg) : GoodO P w K mg base 2 "are_levels" ["value", "count", "names"] (sp_are_levels K) := by
  obtain ⟨fd, F⟩ := C.says.def_ 12 (d := d_are_levels) rfl
  exact ⟨⟨fd, F.ok (k := 1) sc_are_levels (fun vs H Q E h => sp3_len vs H Q E h) (fun cdv A outer s H vs Q E hr h => ⟨t_are_levels K E, (have hu := hr.units; (pss_one (ps_ret (pe_and (pe_callB call_uIsi (by rfl) C.n_isinstance (by decide +kernel) (pa_cons (pv 0) (pa_cons (pe_tup (pa_cons (pe_bltn (v := .ty "list") (by rfl) C.n_list (by decide +kernel) rfl) (pa_cons (pe_bltn (v := .ty "tuple") (by rfl) C.n_tuple (by decide +kernel) rfl) pa_nil))) pa_nil))) (pe_and (pe_cmpR (op_uEq hu) (pe_callB call_uLen (by rfl) C.n_len boot_len (pa_cons (pv 0) pa_nil)) (pv 1) (by rfl)) (pe_and (pe_callB (cr_all rfl) (by rfl) C.n_all (by decide +kernel) (pa_cons (pe_lc (own := [("level", 3)]) (g := (gName 3)) (tt := tYes) rfl sc_are_levels.nd (pi_seq (pv 0)) (blkOk_by (N := n_are_levels) (sc := defScope s_are_levels) (by decide +kernel)) (fun _ _ _ _ _ => (pg_name (i := 3) sc_are_levels.nd rfl (Or.inl rfl))) (fun _ _ _ _ _ => pts_nil) (fun _ _ _ _ _ => (pe_fo (ok__is_level C) (hr.mono (by decide)) (by rfl) passL (ha := (pa_cons (pv 3) (pa_cons (pv 2) pa_nil)))))) pa_nil)) (pe_one (pe_callB (cr_all rfl) (by rfl) C.n_all (by decide +kernel) (pa_cons (pe_lc (own := [("name", 4)]) (g := (gName 4)) (tt := tYes) rfl sc_are_levels.nd (pi_seq (pv 2)) (blkOk_by (N := n_are_levels) (sc := defScope s_are_levels) (by decide +kernel)) (fun _ _ _ _ _ => (pg_name (i := 4) sc_are_levels.nd rfl (Or.inl rfl))) (fun _ _ _ _ _ => pts_nil) (fun _ _ _ _ _ => (pe_cmpR (op_uEq hu) (pe_dget (Nat.lt_of_le_of_lt (Nat.add_le_add_left (by decide) _) hu) (pe_ix ix_u (pv 0) pe_int (fun _ _ => rfl)) (pv 4) (fun _ _ => rfl)) pe_int (by rfl)))) pa_nil))))))))), read_are_levels C.F h⟩), F.bindsN fun _ _ _ _ _ _ us hl => match us, hl with | [_, _, _], _ => rfl⟩, C.g_are_levels, F.kp⟩
theorem ok_check_yard (C : Ct K w mg) : GoodO P w K mg base 3 "check_yard" ["yard"] (sp_check_yard K) := by
  obtain ⟨fd, F⟩ := C.says.def_ 22 (d := d_check_yard) rfl
  exact ⟨⟨fd, F.ok (k := 2) sc_check_yard (fun vs H Q E h => sp1_len vs H Q E h) (fun cdv A outer s H vs Q E hr h => ⟨t_check_yard K E, (have hu := hr.units; (pss_one (ps_if (pt_not (pt_val (pe_callB call_uIsi (by rfl) C.n_isinstance (by decide +kernel) (pa_cons (pv 0) (pa_cons (pe_glob (by rfl) C.g_Yard rfl) pa_nil))))) (pss_one (ps_rse (okx_InvalidYard C) (hr.mono (by decide)) rfl (takes_of rfl rfl rfl rfl) (by rfl) (pa_cons (pv 0) pa_nil))) pss_nil))), read_check_yard C.F h⟩), F.bindsN fun _ _ _ _ _ _ us hl => match us, hl with | [_], _ => rfl⟩, C.g_check_yard, F.kp⟩
theorem ok_is_paper (C : Ct K w mg) : GoodO P w K mg base 7 "is_paper" ["yard", "value"] (sp_is_paper K) := by
  obtain ⟨fd, F⟩ := C.says.def_ 31 (d := d_is_paper) rfl
  exact ⟨⟨fd, F.ok (k := 6) sc_is_paper (fun vs H Q E h => sp2_len vs H Q E h) (fun cdv A outer s H vs Q E hr h => ⟨t_is_paper K E, (have hu := hr.units; (pss_cons (ps_expr (pe_fo (ok_check_yard C) (hr.mono (by decide)) (by rfl) (passes_call (takes_of rfl rfl rfl rfl) fun _ _ _ _ h => h) (ha := (pa_cons (pv 0) pa_nil)))) (pss_one (ps_ret (pe_and (pe_fo (ok_are_levels C) (hr.mono (by decide)) (by rfl) (passes_call (takes_of rfl rfl rfl rfl) fun _ _ _ _ h => h) (ha := (pa_cons (pv 1) (pa_cons (pe_op op_uAdd (pe_lenY (ok_Yard_len C) (hr.mono (by decide)) (by rfl) C.n_len (pa_cons (pv 0) pa_nil)) pe_int) (pa_cons (pe_glob (by rfl) C.g_WAYS rfl) pa_nil))))) (pe_one (pe_fo (ok__are_within_lines C) (hr.mono (by decide)) (by rfl) (passes_call (takes_of rfl rfl rfl rfl) fun _ _ _ _ h => h) (ha := (pa_cons (pv 0) (pa_cons (pv 1) pa_nil)))))))))), read_is_paper C.F C.kr h⟩), F.bindsN fun _ _ _ _ _ _ us hl => match us, hl with | [_, _], _ => rfl⟩, C.g_is_paper, F.kp⟩
theorem ok_told_cost (C : Ct K w mg) : GoodO P w K mg base 8 "told_cost" ["yard", "paper", "way"] (sp_told_cost K) := by
  obtain ⟨fd, F⟩ := C.says.def_ 33 (d := d_told_cost) rfl
  exact ⟨⟨fd, F.ok (k := 7) sc_told_cost (fun vs H Q E h => sp3_len vs H Q E h) (fun cdv A outer s H vs Q E hr h => ⟨t_told_cost K E, (have hu := hr.units; (pss_cons (ps_if (pt_not (pt_val (pe_fo (ok_is_paper C) (hr.mono (by decide)) (by rfl) (passes_call (takes_of rfl rfl rfl rfl) fun _ _ _ _ h => h) (ha := (pa_cons (pv 0) (pa_cons (pv 1) pa_nil)))))) (pss_one (ps_rse (okx_InvalidPaper C) (hr.mono (by decide)) rfl (takes_of rfl rfl rfl rfl) (by rfl) (pa_cons (pv 1) pa_nil))) pss_nil) (pss_cons (ps_expr (pe_fo (ok_check_way C) (hr.mono (by decide)) (by rfl) (passes_call (takes_of rfl rfl rfl rfl) fun _ _ _ _ h => h) (ha := (pa_cons (pv 2) pa_nil)))) (pss_one (ps_ret (pe_dget (Nat.lt_of_le_of_lt (Nat.add_le_add_left (by decide) _) hu) (pe_ix ix_u (pv 1) (pe_un un_neg pe_int) (fun _ _ => rfl)) (pv 2) (fun _ _ => rfl))))))), read_told_cost C.F h⟩), F.bindsN fun _ _ _ _ _ _ us hl => match us, hl with | [_, _, _], _ => rfl⟩, C.g_told_cost, F.kp⟩
theorem ok__law_caught (C : Ct K w mg) : Good P w K mg base 9 "_law_caught" ["_law_yard", "_law_value", "_law_key"] (sp__law_caught K) := by
  obtain ⟨fd, F⟩ := C.says.def_ 51 (d := d__law_caught) rfl
  exact ⟨⟨fd, fnG_of (k := 8) F sc__law_caught (fun vs H Q E h => sp3_len vs H Q E h) (fun cdv A outer s H vs Q E hA hr h => ⟨t__law_caught K E, (have hu := hr.units; (pss_one (ps_tryT rfl rfl sc__law_caught.nd (takes_of rfl rfl rfl rfl) (fun W pn xe tk po => (pss_one (ps_ret (pe_foS (ok_told_cost C) (hr.mono (by decide)) (by rfl) tk (ha := (pa_cons (pv 0) (pa_cons (pv 1) (pa_cons (pv 2) pa_nil)))))))) (ClsOk.cons (te_name (c := .ref (He.ga K "InvalidPaper")) ⟨by rfl, by decide, .inl C.g_InvalidPaper⟩) ⟨rfl, rfl⟩ (fun a oe cls d pn hz hf => (pss_one (ps_ret (pe_lst (pa_cons pe_str (pa_cons (pe_callB (call_uReprQ hA hu C.ks) (by rfl) C.n_repr (by decide +kernel) (pa_cons (pe_xv hz hf (pv 3)) pa_nil)) pa_nil)))))) (ClsOk.cons (te_name (c := .ref (He.ga K "InvalidWay")) ⟨by rfl, by decide, .inl C.g_InvalidWay⟩) ⟨rfl, rfl⟩ (fun a oe cls d pn hz hf => (pss_one (ps_ret (pe_lst (pa_cons pe_str (pa_cons (pe_callB (call_uReprQ hA hu C.ks) (by rfl) C.n_repr (by decide +kernel) (pa_cons (pe_xv hz hf (pv 3)) pa_nil)) pa_nil)))))) ClsOk.nil))))), read__law_caught C.F C.xf h⟩), F.bindsN fun _ _ _ _ _ _ us hl => match us, hl with | [_, _, _], _ => rfl⟩, C.g__law_caught, F.kp⟩
theorem ok__law_is_table (C : Ct K w mg) : GoodO P w K mg base 1 "_law_is_table" ["_law_value"] (sp__law_is_table K) := by
  obtain ⟨fd, F⟩ := C.says.def_ 47 (d := d__law_is_table) rfl
  exact ⟨⟨fd, F.ok (k := 0) sc__law_is_table (fun vs H Q E h => sp1_len vs H Q E h) (fun cdv A outer s H vs Q E hr h => ⟨t__law_is_table K E, (have hu := hr.units; (pss_cons (ps_if (PW.pt (pw_or (pt_not (pt_val (pe_callB call_uIsi (by rfl) C.n_isinstance (by decide +kernel) (pa_cons (pv 0) (pa_cons (pe_bltn (v := .ty "dict") (by rfl) C.n_dict (by decide +kernel) rfl) pa_nil))))) (pw_or (pt_cmpR (op_uNe hu) (pe_callB call_lenD' (by rfl) C.n_len boot_len (pa_cons (pv 0) pa_nil)) pe_int (by rfl)) (pw_or1 (pt_cmpR (op_uNe hu) (pe_lc (own := [("_law_way", 2)]) (g := (gName 2)) (tt := (tB (tDNotIn (tVar 2) (tVar 0)))) rfl sc__law_is_table.nd (pi_seq (pe_glob (by rfl) C.g_WAYS rfl)) (blkOk_by (N := n__law_is_table) (sc := defScope s__law_is_table) (by decide +kernel)) (fun _ _ _ _ _ => (pg_name (i := 2) sc__law_is_table.nd rfl (Or.inl rfl))) (fun _ _ _ _ _ => (pts_one (pt_cmp (pc_dnotin (Nat.lt_of_le_of_lt (Nat.add_le_add_left (by decide) _) hu) (pv 2) (pv 0)) (by rfl)))) (fun _ _ _ _ _ => (pv 2))) (pe_lst pa_nil) (by rfl)))))) (pss_one (ps_ret pe_bl)) pss_nil) (pss_cons (ps_lock (ps_for (passes_of rfl) rfl (pi_values (pv 0)) (pg_name (i := 1) sc__law_is_table.nd rfl (Or.inl rfl)) (pss_one (ps_if (PW.pt (pw_and (pt_cmpR op_uNis (pv 1) pe_non (by rfl)) (pw_and1 (PW.pt (pw_or (pt_not (pt_val (pe_callB call_uIsi (by rfl) C.n_isinstance (by decide +kernel) (pa_cons (pv 1) (pa_cons (pe_bltn (v := .ty "int") (by rfl) C.n_int (by decide +kernel) rfl) pa_nil))))) (pw_or (pt_val (pe_callB call_uIsi (by rfl) C.n_isinstance (by decide +kernel) (pa_cons (pv 1) (pa_cons (pe_bltn (v := .ty "bool") (by rfl) C.n_bool (by decide +kernel) rfl) pa_nil)))) (pw_or1 (pt_cmpR op_uLt (pv 1) pe_int (by rfl))))))))) (pss_one (ps_ret pe_bl)) pss_nil)))) (pss_one (ps_ret pe_bl))))), read__law_is_table C.F h⟩), F.bindsN fun _ _ _ _ _ _ us hl => match us, hl with | [_], _ => rfl⟩, C.g__law_is_table, F.kp⟩
theorem ok__law_lesser (C : Ct K w mg) : GoodO P w K mg base 1 "_law_lesser" ["_law_one", "_law_two"] (sp__law_lesser K) := by
  obtain ⟨fd, F⟩ := C.says.def_ 42 (d := d__law_lesser) rfl
  exact ⟨⟨fd, F.ok (k := 0) sc__law_lesser (fun vs H Q E h => sp2_len vs H Q E h) (fun cdv A outer s H vs Q E hr h => ⟨t__law_lesser K E, (have hu := hr.units; (pss_cons (ps_setLc (i := 2) (own := [("_law_number", 3)]) (g := (gName 3)) (tt := (tTest (tOp uNis (tVar 3) (tC .non)))) rfl sc__law_lesser.nd rfl rfl (by exact sw_true rfl rfl rfl (by decide +kernel)) (pi_seq (pe_tup (pa_cons (pv 0) (pa_cons (pv 1) pa_nil)))) (blkOk_by (N := n__law_lesser) (sc := defScope s__law_lesser) (by decide +kernel)) (fun _ _ _ _ _ => (pg_name (i := 3) sc__law_lesser.nd rfl (Or.inl rfl))) (fun _ _ _ _ _ => (pts_one (pt_cmpR op_uNis (pv 3) pe_non (by rfl)))) (fun _ _ _ _ _ => (pv 3))) (pss_one (ps_ret (pe_ifExp (pt_cmpR (op_uNe hu) (pv 2) (pe_lst pa_nil) (by rfl)) (pe_callB (cr_min rfl) (by rfl) C.n_min (by decide +kernel) (pa_cons (pv 2) pa_nil)) pe_non))))), read__law_lesser h⟩), F.bindsN fun _ _ _ _ _ _ us hl => match us, hl with | [_, _], _ => rfl⟩, C.g__law_lesser, F.kp⟩
theorem ok__law_other (C : Ct K w mg) : GoodO P w K mg base 1 "_law_other" ["_law_first", "_law_last"] (sp__law_other K) := by
  obtain ⟨fd, F⟩ := C.says.def_ 43 (d := d__law_other) rfl
  exact ⟨⟨fd, F.ok (k := 0) sc__law_other (fun vs H Q E h => sp2_len vs H Q E h) (fun cdv A outer s H vs Q E hr h => ⟨t__law_other K E, (have hu := hr.units; (pss_one (ps_ret (pe_ix ix_u (pe_lc (own := [("_law_place", 2)]) (g := (gName 2)) (tt := (tTest (tOp (uIn K true) (tVar 2) (tTup (tCons (tVar 0) (tCons (tVar 1) tNil)))))) rfl sc__law_other.nd (pi_str pe_str) (blkOk_by (N := n__law_other) (sc := defScope s__law_other) (by decide +kernel)) (fun _ _ _ _ _ => (pg_name (i := 2) sc__law_other.nd rfl (Or.inl rfl))) (fun _ _ _ _ _ => (pts_one (pt_cmpR op_uNin (pv 2) (pe_tup (pa_cons (pv 0) (pa_cons (pv 1) pa_nil))) (by rfl)))) (fun _ _ _ _ _ => (pv 2))) pe_int (fun _ _ => rfl))))), read__law_other h⟩), F.bindsN fun _ _ _ _ _ _ us hl => match us, hl with | [_, _], _ => rfl⟩, C.g__law_other, F.kp⟩
theorem ok__law_price (C : Ct K w mg) : GoodO P w K mg base 1 "_law_price" ["_law_line", "_law_first", "_law_last"] (sp__law_price K) := by
  obtain ⟨fd, F⟩ := C.says.def_ 40 (d := d__law_price) rfl
  exact ⟨⟨fd, F.ok (k := 0) sc__law_price (fun vs H Q E h => sp3_len vs H Q E h) (fun cdv A outer s H vs Q E hr h => ⟨t__law_price K E, (have hu := hr.units; (pss_one (ps_ret (pe_ix ix_u (pv 0) (pe_bm PySem.F.plainAttrs_list PySem.F.slot_list_index PySem.F.type_list_index mt_index (pe_lst (pa_cons pe_str (pa_cons pe_str (pa_cons pe_str (pa_cons pe_str (pa_cons pe_str (pa_cons pe_str pa_nil))))))) (pa_cons (pe_op op_uAdd (pv 1) (pv 2)) pa_nil)) (fun _ _ => rfl))))), read__law_price h⟩), F.bindsN fun _ _ _ _ _ _ us hl => match us, hl with | [_, _, _], _ => rfl⟩, C.g__law_price, F.kp⟩
theorem ok__law_sum (C : Ct K w mg) : GoodO P w K mg base 1 "_law_sum" ["_law_numbers"] (sp__law_sum K) := by
  obtain ⟨fd, F⟩ := C.says.def_ 41 (d := d__law_sum) rfl
  exact ⟨⟨fd, F.ok (k := 0) sc__law_sum (fun vs H Q E h => sp1_len vs H Q E h) (fun cdv A outer s H vs Q E hr h => ⟨t__law_sum K E, (have hu := hr.units; (pss_one (ps_ret (pe_ifExp (pt_cmpR op_uIn pe_non (pv 0) (by rfl)) pe_non (pe_callB (cr_sum rfl) (by rfl) C.n_sum (by decide +kernel) (pa_cons (pv 0) pa_nil)))))), read__law_sum h⟩), F.bindsN fun _ _ _ _ _ _ us hl => match us, hl with | [_], _ => rfl⟩, C.g__law_sum, F.kp⟩
theorem ok__law_level (C : Ct K w mg) : GoodO P w K mg base 2 "_law_level" ["_law_line", "_law_table"] (sp__law_level K) := by
  obtain ⟨fd, F⟩ := C.says.def_ 44 (d := d__law_level) rfl
  exact ⟨⟨fd, F.ok (k := 1) sc__law_level (fun vs H Q E h => sp2_len vs H Q E h) (fun cdv A outer s H vs Q E hr h => ⟨t__law_level K E, (have hu := hr.units; (pss_cons (ps_set (i := 2) sc__law_level.nd rfl (Or.inl rfl) pe_dnewK) (pss_cons (ps_for (passes_of rfl) rfl (pi_seq (pe_lst (pa_cons pe_str (pa_cons pe_str (pa_cons pe_str (pa_cons pe_str (pa_cons pe_str (pa_cons pe_str pa_nil)))))))) (pg_name (i := 3) sc__law_level.nd rfl (Or.inl rfl)) (pss_cons (ps_par (by rfl) sc__law_level.nd rfl rfl (by decide) rfl rfl (pa_cons (pe_ix ix_u (pv 3) pe_int (fun _ _ => rfl)) (pa_cons (pe_ix ix_u (pv 3) pe_int (fun _ _ => rfl)) pa_nil)) (by rfl)) (pss_cons (ps_set (i := 6) sc__law_level.nd rfl (Or.inl rfl) (pe_fo (ok__law_other C) (hr.mono (by decide)) (by rfl) (passes_call (takes_of rfl rfl rfl rfl) fun _ _ _ _ h => h) (ha := (pa_cons (pv 4) (pa_cons (pv 5) pa_nil))))) (pss_cons (ps_set (i := 7) sc__law_level.nd rfl (Or.inl rfl) (pe_fo (ok__law_sum C) (hr.mono (by decide)) (by rfl) (passes_call (takes_of rfl rfl rfl rfl) fun _ _ _ _ h => h) (ha := (pa_cons (pe_lst (pa_cons (pe_dget (Nat.lt_of_le_of_lt (Nat.add_le_add_left (by decide) _) hu) (pv 1) (pe_op op_uAdd (pv 4) (pv 6)) (fun _ _ => rfl)) (pa_cons (pe_fo (ok__law_price C) (hr.mono (by decide)) (by rfl) (passes_call (takes_of rfl rfl rfl rfl) fun _ _ _ _ h => h) (ha := (pa_cons (pv 0) (pa_cons (pv 4) (pa_cons (pv 5) pa_nil))))) (pa_cons (pe_dget (Nat.lt_of_le_of_lt (Nat.add_le_add_left (by decide) _) hu) (pv 1) (pe_op op_uAdd (pv 6) (pv 5)) (fun _ _ => rfl)) pa_nil)))) pa_nil)))) (pss_cons (ps_set (i := 8) sc__law_level.nd rfl (Or.inl rfl) (pe_lst (pa_cons (pe_dget (Nat.lt_of_le_of_lt (Nat.add_le_add_left (by decide) _) hu) (pv 1) (pv 3) (fun _ _ => rfl)) (pa_cons (pe_fo (ok__law_price C) (hr.mono (by decide)) (by rfl) (passes_call (takes_of rfl rfl rfl rfl) fun _ _ _ _ h => h) (ha := (pa_cons (pv 0) (pa_cons (pv 4) (pa_cons (pv 6) pa_nil))))) (pa_cons (pe_dget (Nat.lt_of_le_of_lt (Nat.add_le_add_left (by decide) _) hu) (pv 1) (pe_op op_uAdd (pv 5) (pv 4)) (fun _ _ => rfl)) (pa_cons (pe_fo (ok__law_price C) (hr.mono (by decide)) (by rfl) (passes_call (takes_of rfl rfl rfl rfl) fun _ _ _ _ h => h) (ha := (pa_cons (pv 0) (pa_cons (pv 6) (pa_cons (pv 5) pa_nil))))) pa_nil)))))) (pss_one (ps_asg (pe_fo (ok__law_lesser C) (hr.mono (by decide)) (by rfl) (passes_call (takes_of rfl rfl rfl rfl) fun _ _ _ _ h => h) (ha := (pa_cons (pv 7) (pa_cons (pe_fo (ok__law_sum C) (hr.mono (by decide)) (by rfl) (passes_call (takes_of rfl rfl rfl rfl) fun _ _ _ _ h => h) (ha := (pa_cons (pe_op op_uAdd (pv 8) (pe_lst (pa_cons (pe_dget (Nat.lt_of_le_of_lt (Nat.add_le_add_left (by decide) _) hu) (pv 1) (pv 3) (fun _ _ => rfl)) pa_nil))) pa_nil))) pa_nil)))) (pg_sub (pv 2) (pv 3) (set_dict (Nat.lt_of_le_of_lt (Nat.add_le_add_left (by decide) _) hu)))))))))) (pss_one (ps_ret (pv 2)))))), read__law_level h⟩), F.bindsN fun _ _ _ _ _ _ us hl => match us, hl with | [_, _], _ => rfl⟩, C.g__law_level, F.kp⟩
theorem ok__law_due (C : Ct K w mg) : GoodO P w K mg base 3 "_law_due" ["_law_rows_here", "_law_value"] (sp__law_due K) := by
  obtain ⟨fd, F⟩ := C.says.def_ 48 (d := d__law_due) rfl
  exact ⟨⟨fd, F.ok (k := 2) sc__law_due (fun vs H Q E h => sp2_len vs H Q E h) (fun cdv A outer s H vs Q E hr h => ⟨t__law_due K E, (have hu := hr.units; (pss_cons (ps_if (PW.pt (pw_or (pt_not (pt_val (pe_callB call_uIsi (by rfl) C.n_isinstance (by decide +kernel) (pa_cons (pv 1) (pa_cons (pe_tup (pa_cons (pe_bltn (v := .ty "list") (by rfl) C.n_list (by decide +kernel) rfl) (pa_cons (pe_bltn (v := .ty "tuple") (by rfl) C.n_tuple (by decide +kernel) rfl) pa_nil))) pa_nil))))) (pw_or1 (pt_cmpR (op_uNe hu) (pe_callB call_uLen (by rfl) C.n_len boot_len (pa_cons (pv 1) pa_nil)) (pe_op op_uAdd (pe_callB call_uLen (by rfl) C.n_len boot_len (pa_cons (pv 0) pa_nil)) pe_int) (by rfl))))) (pss_one (ps_ret pe_bl)) pss_nil) (pss_cons (ps_if (pt_cmpR (op_neS hu) (pe_lc (own := [("_law_table", 5)]) (g := (gName 5)) (tt := (tNot (tB (tFn (sp__law_is_table K) E0 (tCons (tVar 5) tNil))))) rfl sc__law_due.nd (pi_seq (pv 1)) (blkOk_by (N := n__law_due) (sc := defScope s__law_due) (by decide +kernel)) (fun _ _ _ _ _ => (pg_name (i := 5) sc__law_due.nd rfl (Or.inl rfl))) (fun _ _ _ _ _ => (pts_one (pt_not (pt_val (pe_fo (ok__law_is_table C) (hr.mono (by decide)) (by rfl) passL (ha := (pa_cons (pv 5) pa_nil))))))) (fun _ _ _ _ _ => (pv 5))) (pe_lst pa_nil) (by rfl)) (pss_one (ps_ret pe_bl)) pss_nil) (pss_cons (ps_if (pt_cmpR (op_neS hu) (pe_lc (own := [("_law_way", 6)]) (g := (gName 6)) (tt := (tTest (tOp (uNe K) (tDGet (tOp (uIx K) (tVar 1) (tC (.int 0))) (tVar 6)) (tC (.int 0))))) rfl sc__law_due.nd (pi_seq (pe_glob (by rfl) C.g_WAYS rfl)) (blkOk_by (N := n__law_due) (sc := defScope s__law_due) (by decide +kernel)) (fun _ _ _ _ _ => (pg_name (i := 6) sc__law_due.nd rfl (Or.inl rfl))) (fun _ _ _ _ _ => (pts_one (pt_cmpR (op_uNe hu) (pe_dget (Nat.lt_of_le_of_lt (Nat.add_le_add_left (by decide) _) hu) (pe_ix ix_u (pv 1) pe_int (fun _ _ => rfl)) (pv 6) (fun _ _ => rfl)) pe_int (by rfl)))) (fun _ _ _ _ _ => (pv 6))) (pe_lst pa_nil) (by rfl)) (pss_one (ps_ret pe_bl)) pss_nil) (pss_cons (ps_for (passes_of rfl) rfl (pi_enumU (by rfl) C.n_enumerate (pa_cons (pe_revL (pv 0)) pa_nil)) (pg_tup (by rfl) (pgs_cons (pg_name (i := 2) sc__law_due.nd rfl (Or.inr rfl)) (pgs_cons (pg_name (i := 3) sc__law_due.nd rfl (Or.inl rfl)) pgs_nil))) (pss_cons (ps_set (i := 4) sc__law_due.nd rfl (Or.inr rfl) (pe_fo (ok__law_level C) (hr.mono (by decide)) (by rfl) (passes_call (takes_of rfl rfl rfl rfl) fun _ _ _ _ h => h) (ha := (pa_cons (pv 3) (pa_cons (pe_ix ix_u (pv 1) (pv 2) (fun _ _ => rfl)) pa_nil))))) (pss_one (ps_if (pt_cmpR (op_neS hu) (pe_lc (own := [("_law_way", 6)]) (g := (gName 6)) (tt := (tB (tFn (sp__law_above K) E0 (tCons (tDGet (tOp (uIx K) (tVar 1) (tOp uAdd (tVar 2) (tC (.int 1)))) (tVar 6)) (tCons (tDGet (tVar 4) (tVar 6)) tNil))))) rfl sc__law_due.nd (pi_seq (pe_glob (by rfl) C.g_WAYS rfl)) (blkOk_by (N := n__law_due) (sc := defScope s__law_due) (by decide +kernel)) (fun _ _ _ _ _ => (pg_name (i := 6) sc__law_due.nd rfl (Or.inl rfl))) (fun _ _ _ _ _ => (pts_one (pt_val (pe_fo (ok__law_above C) (hr.mono (by decide)) (by rfl) passL (ha := (pa_cons (pe_dget (Nat.lt_of_le_of_lt (Nat.add_le_add_left (by decide) _) hu) (pe_ix ix_u (pv 1) (pe_op op_uAdd (pv 2) pe_int) (fun _ _ => rfl)) (pv 6) (fun _ _ => rfl)) (pa_cons (pe_dget (Nat.lt_of_le_of_lt (Nat.add_le_add_left (by decide) _) hu) (pv 4) (pv 6) (fun _ _ => rfl)) pa_nil))))))) (fun _ _ _ _ _ => (pv 6))) (pe_lst pa_nil) (by rfl)) (pss_one (ps_ret pe_bl)) pss_nil)))) (pss_one (ps_ret pe_bl))))))), read__law_due C.F h⟩), F.bindsN fun _ _ _ _ _ _ us hl => match us, hl with | [_, _], _ => rfl⟩, C.g__law_due, F.kp⟩
theorem ok__law_levels (C : Ct K w mg) : GoodO P w K mg base 3 "_law_levels" ["_law_rows_here"] (sp__law_levels K) := by
  obtain ⟨fd, F⟩ := C.says.def_ 45 (d := d__law_levels) rfl
  exact ⟨⟨fd, F.ok (k := 2) sc__law_levels (fun vs H Q E h => sp1_len vs H Q E h) (fun cdv A outer s H vs Q E hr h => ⟨t__law_levels K E, (have hu := hr.units; (pss_cons (ps_set (i := 1) sc__law_levels.nd rfl (Or.inl rfl) (pe_lst (pa_cons (pe_callTy (call_dictP' rfl) (by rfl) C.n_dict (by decide +kernel) (pa_cons (pe_lc (own := [("_law_way", 3)]) (g := (gName 3)) (tt := tYes) rfl sc__law_levels.nd (pi_seq (pe_lst (pa_cons pe_str (pa_cons pe_str (pa_cons pe_str (pa_cons pe_str (pa_cons pe_str (pa_cons pe_str pa_nil)))))))) (blkOk_by (N := n__law_levels) (sc := defScope s__law_levels) (by decide +kernel)) (fun _ _ _ _ _ => (pg_name (i := 3) sc__law_levels.nd rfl (Or.inl rfl))) (fun _ _ _ _ _ => pts_nil) (fun _ _ _ _ _ => (pe_tup (pa_cons (pv 3) (pa_cons pe_int pa_nil))))) pa_nil)) pa_nil))) (pss_cons (ps_for (passes_of rfl) rfl (pi_seq (pe_revL (pv 0))) (pg_name (i := 2) sc__law_levels.nd rfl (Or.inl rfl)) (pss_one (ps_expr (pe_bm PySem.F.plainAttrs_list PySem.F.slot_list_append PySem.F.type_list_append mt_append (pv 1) (pa_cons (pe_fo (ok__law_level C) (hr.mono (by decide)) (by rfl) (passes_call (takes_of rfl rfl rfl rfl) fun _ _ _ _ h => h) (ha := (pa_cons (pv 2) (pa_cons (pe_ix ix_u (pv 1) (pe_un un_neg pe_int) (fun _ _ => rfl)) pa_nil)))) pa_nil))))) (pss_one (ps_ret (pv 1)))))), read__law_levels h⟩), F.bindsN fun _ _ _ _ _ _ us hl => match us, hl with | [_], _ => rfl⟩, C.g__law_levels, F.kp⟩
theorem ok__law_lowered (C : Ct K w mg) : GoodO P w K mg base 3 "_law_lowered" ["_law_bag_here", "_law_rows_here"] (sp__law_lowered K) := by
  obtain ⟨fd, F⟩ := C.says.def_ 49 (d := d__law_lowered) rfl
  exact ⟨⟨fd, F.ok (k := 2) sc__law_lowered (fun vs H Q E h => sp2_len vs H Q E h) (fun cdv A outer s H vs Q E hr h => ⟨t__law_lowered K E, (have hu := hr.units; (pss_cons (ps_set (i := 3) sc__law_lowered.nd rfl (Or.inl rfl) (pe_lst (pa_cons (pe_callTy (call_dictP' rfl) (by rfl) C.n_dict (by decide +kernel) (pa_cons (pe_lc (own := [("_law_way", 2)]) (g := (gName 2)) (tt := tYes) rfl sc__law_lowered.nd (pi_seq (pe_glob (by rfl) C.g_WAYS rfl)) (blkOk_by (N := n__law_lowered) (sc := defScope s__law_lowered) (by decide +kernel)) (fun _ _ _ _ _ => (pg_name (i := 2) sc__law_lowered.nd rfl (Or.inl rfl))) (fun _ _ _ _ _ => pts_nil) (fun _ _ _ _ _ => (pe_tup (pa_cons (pv 2) (pa_cons pe_int pa_nil))))) pa_nil)) pa_nil))) (pss_cons (ps_for (passes_of rfl) rfl (pi_seq (pe_revL (pv 1))) (pg_name (i := 4) sc__law_lowered.nd rfl (Or.inl rfl)) (pss_cons (ps_set (i := 5) sc__law_lowered.nd rfl (Or.inl rfl) (pe_fo (ok__law_level C) (hr.mono (by decide)) (by rfl) (passes_call (takes_of rfl rfl rfl rfl) fun _ _ _ _ h => h) (ha := (pa_cons (pv 4) (pa_cons (pe_ix ix_u (pv 3) (pe_un un_neg pe_int) (fun _ _ => rfl)) pa_nil))))) (pss_cons (ps_for (passes_of rfl) rfl (pi_seq (pe_glob (by rfl) C.g_WAYS rfl)) (pg_name (i := 2) sc__law_lowered.nd rfl (Or.inl rfl)) (pss_cons (ps_par (by rfl) sc__law_lowered.nd rfl rfl (by decide) rfl rfl (pa_cons (pe_dget (Nat.lt_of_le_of_lt (Nat.add_le_add_left (by decide) _) hu) (pv 5) (pv 2) (fun _ _ => rfl)) (pa_cons (pe_fo (ok__law_take C) (hr.mono (by decide)) (by rfl) (passes_call (takes_of rfl rfl rfl rfl) fun _ _ _ _ h => h) (ha := (pa_cons (pv 0) (pa_cons pe_int pa_nil)))) pa_nil)) (by rfl)) (pss_one (ps_if (pt_cmpR (op_uEq hu) (pv 7) pe_int (by rfl)) (pss_one (ps_asg (pe_ifExp (pt_cmpR op_uIs (pv 6) pe_non (by rfl)) (pe_fo (ok__law_take C) (hr.mono (by decide)) (by rfl) (passes_call (takes_of rfl rfl rfl rfl) fun _ _ _ _ h => h) (ha := (pa_cons (pv 0) (pa_cons pe_int pa_nil)))) (pe_callB (call_max2 rfl) (by rfl) C.n_max (by decide +kernel) (pa_cons pe_int (pa_cons (pe_op op_uSub (pe_op op_uSub (pv 6) pe_int) (pe_fo (ok__law_take C) (hr.mono (by decide)) (by rfl) (passes_call (takes_of rfl rfl rfl rfl) fun _ _ _ _ h => h) (ha := (pa_cons (pv 0) (pa_cons pe_int pa_nil))))) pa_nil)))) (pg_sub (pv 5) (pv 2) (set_dict (Nat.lt_of_le_of_lt (Nat.add_le_add_left (by decide) _) hu))))) pss_nil)))) (pss_one (ps_expr (pe_bm PySem.F.plainAttrs_list PySem.F.slot_list_append PySem.F.type_list_append mt_append (pv 3) (pa_cons (pv 5) pa_nil))))))) (pss_one (ps_ret (pv 3)))))), read__law_lowered C.F h⟩), F.bindsN fun _ _ _ _ _ _ us hl => match us, hl with | [_, _], _ => rfl⟩, C.g__law_lowered, F.kp⟩
theorem ok__law_rows (C : Ct K w mg) : GoodO P w K mg base 2 "_law_rows" ["_law_bag_here", "_law_most"] (sp__law_rows K) := by
  obtain ⟨fd, F⟩ := C.says.def_ 39 (d := d__law_rows) rfl
  exact ⟨⟨fd, F.ok (k := 1) sc__law_rows (fun vs H Q E h => sp2_len vs H Q E h) (fun cdv A outer s H vs Q E hr h => ⟨t__law_rows K E, (have hu := hr.units; (pss_cons (ps_par (by rfl) sc__law_rows.nd rfl rfl (by decide) rfl rfl (pa_cons (pe_fo (ok__law_take C) (hr.mono (by decide)) (by rfl) (passes_call (takes_of rfl rfl rfl rfl) fun _ _ _ _ h => h) (ha := (pa_cons (pv 0) (pa_cons pe_int pa_nil)))) (pa_cons (pe_ix ix_u (pe_lst (pa_cons pe_int (pa_cons pe_int (pa_cons pe_int (pa_cons pe_int pa_nil))))) (pe_fo (ok__law_take C) (hr.mono (by decide)) (by rfl) (passes_call (takes_of rfl rfl rfl rfl) fun _ _ _ _ h => h) (ha := (pa_cons (pv 0) (pa_cons pe_int pa_nil)))) (fun _ _ => rfl)) pa_nil)) (by rfl)) (pss_cons (ps_set (i := 4) sc__law_rows.nd rfl (Or.inl rfl) (pe_lst pa_nil)) (pss_cons (ps_for (passes_of rfl) rfl (pi_range1 (by rfl) C.n_range (pa_cons (pe_op op_uAdd pe_int (pe_fo (ok__law_take C) (hr.mono (by decide)) (by rfl) (passes_call (takes_of rfl rfl rfl rfl) fun _ _ _ _ h => h) (ha := (pa_cons (pv 0) (pa_cons (pv 1) pa_nil))))) pa_nil)) (pg_name (i := 5) sc__law_rows.nd rfl (Or.inl rfl)) (pss_cons (ps_set (i := 6) sc__law_rows.nd rfl (Or.inl rfl) (pe_lst pa_nil)) (pss_cons (ps_for (passes_of rfl) rfl (pi_range1 (by rfl) C.n_range (pa_cons pe_int pa_nil)) (pg_name (i := 7) sc__law_rows.nd rfl (Or.inl rfl)) (pss_cons (ps_set (i := 8) sc__law_rows.nd rfl (Or.inl rfl) (pe_ix ix_u (pe_lst (pa_cons pe_int (pa_cons (pe_op op_uAdd pe_int (pe_fo (ok__law_take C) (hr.mono (by decide)) (by rfl) (passes_call (takes_of rfl rfl rfl rfl) fun _ _ _ _ h => h) (ha := (pa_cons (pv 0) (pa_cons pe_int pa_nil))))) (pa_cons (pe_op op_uAdd pe_int (pe_fo (ok__law_take C) (hr.mono (by decide)) (by rfl) (passes_call (takes_of rfl rfl rfl rfl) fun _ _ _ _ h => h) (ha := (pa_cons (pv 0) (pa_cons pe_int pa_nil))))) (pa_cons (pe_op op_uAdd pe_int (pe_fo (ok__law_take C) (hr.mono (by decide)) (by rfl) (passes_call (takes_of rfl rfl rfl rfl) fun _ _ _ _ h => h) (ha := (pa_cons (pv 0) (pa_cons (pe_op op_uPow pe_int pe_int) pa_nil))))) (pa_cons (pe_op op_uSub (pe_op op_uPow pe_int pe_int) (pe_fo (ok__law_take C) (hr.mono (by decide)) (by rfl) (passes_call (takes_of rfl rfl rfl rfl) fun _ _ _ _ h => h) (ha := (pa_cons (pv 0) (pa_cons pe_int pa_nil))))) pa_nil)))))) (pv 2) (fun _ _ => rfl))) (pss_one (ps_expr (pe_bm PySem.F.plainAttrs_list PySem.F.slot_list_append PySem.F.type_list_append mt_append (pv 6) (pa_cons (pe_ifExp (PW.pt (pw_and (pt_cmpR op_uGt (pv 3) pe_int (by rfl)) (pw_and1 (pt_cmpR (op_uEq hu) (pe_fo (ok__law_take C) (hr.mono (by decide)) (by rfl) (passes_call (takes_of rfl rfl rfl rfl) fun _ _ _ _ h => h) (ha := (pa_cons (pv 0) (pa_cons (pv 3) pa_nil)))) pe_int (by rfl))))) pe_non (pv 8)) pa_nil)))))) (pss_one (ps_expr (pe_bm PySem.F.plainAttrs_list PySem.F.slot_list_append PySem.F.type_list_append mt_append (pv 4) (pa_cons (pv 6) pa_nil))))))) (pss_one (ps_ret (pv 4))))))), read__law_rows C.F h⟩), F.bindsN fun _ _ _ _ _ _ us hl => match us, hl with | [_, _], _ => rfl⟩, C.g__law_rows, F.kp⟩
theorem ok_both_lines (C : Ct K w mg) : GoodO P w K mg base 1 "both_lines" ["way", "prices", "towers", "to_towers", "from_towers"] (sp_both_lines K) := by
  obtain ⟨fd, F⟩ := C.says.def_ 3 (d := d_both_lines) rfl
  exact ⟨⟨fd, F.ok (k := 0) sc_both_lines (fun vs H Q E h => sp5_len vs H Q E h) (fun cdv A outer s H vs Q E hr h => ⟨t_both_lines K E, (have hu := hr.units; (pss_cons (ps_asg (pe_ix (ix_turn C.t__TURNS) (pe_glob (by rfl) C.g__TURNS rfl) (pv 0) (fun _ _ => rfl)) (pg_tup (by rfl) (pgs_cons (pg_name (i := 5) sc_both_lines.nd rfl (Or.inl rfl)) (pgs_cons (pg_name (i := 6) sc_both_lines.nd rfl (Or.inl rfl)) (pgs_cons (pg_name (i := 7) sc_both_lines.nd rfl (Or.inl rfl)) (pgs_cons (pg_name (i := 8) sc_both_lines.nd rfl (Or.inl rfl)) (pgs_cons (pg_name (i := 9) sc_both_lines.nd rfl (Or.inl rfl)) (pgs_cons (pg_name (i := 10) sc_both_lines.nd rfl (Or.inl rfl)) (pgs_cons (pg_name (i := 11) sc_both_lines.nd rfl (Or.inl rfl)) pgs_nil))))))))) (pss_one (ps_ret (pe_tup (pa_cons (pe_op op_uAdd (pe_op op_uAdd (pe_ix ix_u (pv 3) (pv 11) (fun _ _ => rfl)) (pe_ix ix_u (pv 1) (pv 5) (fun _ _ => rfl))) (pe_ix ix_u (pv 4) (pv 11) (fun _ _ => rfl))) (pa_cons (pe_op op_uAdd (pe_op op_uAdd (pe_op op_uAdd (pe_op op_uAdd (pe_ix ix_u (pv 3) (pv 10) (fun _ _ => rfl)) (pe_ix ix_u (pv 1) (pv 6) (fun _ _ => rfl))) (pe_ix ix_u (pv 2) (pv 8) (fun _ _ => rfl))) (pe_ix ix_u (pv 1) (pv 7) (fun _ _ => rfl))) (pe_ix ix_u (pv 4) (pv 9) (fun _ _ => rfl))) pa_nil))))))), read_both_lines C.F h⟩), F.bindsN fun _ _ _ _ _ _ us hl => match us, hl with | [_, _, _, _, _], _ => rfl⟩, C.g_both_lines, F.kp⟩
theorem ok_from_each_tower (C : Ct K w mg) : GoodO P w K mg base 1 "from_each_tower" ["towers"] (sp_from_each_tower K) := by
  obtain ⟨fd, F⟩ := C.says.def_ 6 (d := d_from_each_tower) rfl
  exact ⟨⟨fd, F.ok (k := 0) sc_from_each_tower (fun vs H Q E h => sp1_len vs H Q E h) (fun cdv A outer s H vs Q E hr h => ⟨t_from_each_tower K E, (have hu := hr.units; (pss_cons (ps_asg (pv 0) (pg_tup (by rfl) (pgs_cons (pg_name (i := 1) sc_from_each_tower.nd rfl (Or.inl rfl)) (pgs_cons (pg_name (i := 2) sc_from_each_tower.nd rfl (Or.inl rfl)) (pgs_cons (pg_name (i := 3) sc_from_each_tower.nd rfl (Or.inl rfl)) (pgs_cons (pg_name (i := 4) sc_from_each_tower.nd rfl (Or.inl rfl)) (pgs_cons (pg_name (i := 5) sc_from_each_tower.nd rfl (Or.inl rfl)) (pgs_cons (pg_name (i := 6) sc_from_each_tower.nd rfl (Or.inl rfl)) pgs_nil)))))))) (pss_one (ps_ret (pe_disp (pps_cons pe_str (pe_tup (pa_cons pe_int (pa_cons (pv 1) (pa_cons (pv 2) pa_nil)))) (pps_cons pe_str (pe_tup (pa_cons (pv 3) (pa_cons pe_int (pa_cons (pv 4) pa_nil)))) (pps_cons pe_str (pe_tup (pa_cons (pv 5) (pa_cons (pv 6) (pa_cons pe_int pa_nil)))) pps_nil))) rfl rfl (by simp) (by simp)))))), read_from_each_tower C.F h⟩), F.bindsN fun _ _ _ _ _ _ us hl => match us, hl with | [_], _ => rfl⟩, C.g_from_each_tower, F.kp⟩
theorem ok_turned (C : Ct K w mg) : GoodO P w K mg base 1 "turned" ["six"] (sp_turned K) := by
  obtain ⟨fd, F⟩ := C.says.def_ 5 (d := d_turned) rfl
  exact ⟨⟨fd, F.ok (k := 0) sc_turned (fun vs H Q E h => sp1_len vs H Q E h) (fun cdv A outer s H vs Q E hr h => ⟨t_turned K E, (have hu := hr.units; (pss_cons (ps_asg (pv 0) (pg_tup (by rfl) (pgs_cons (pg_name (i := 1) sc_turned.nd rfl (Or.inl rfl)) (pgs_cons (pg_name (i := 2) sc_turned.nd rfl (Or.inl rfl)) (pgs_cons (pg_name (i := 3) sc_turned.nd rfl (Or.inl rfl)) (pgs_cons (pg_name (i := 4) sc_turned.nd rfl (Or.inl rfl)) (pgs_cons (pg_name (i := 5) sc_turned.nd rfl (Or.inl rfl)) (pgs_cons (pg_name (i := 6) sc_turned.nd rfl (Or.inl rfl)) pgs_nil)))))))) (pss_one (ps_ret (pe_tup (pa_cons (pv 3) (pa_cons (pv 5) (pa_cons (pv 1) (pa_cons (pv 6) (pa_cons (pv 2) (pa_cons (pv 4) pa_nil))))))))))), read_turned C.F h⟩), F.bindsN fun _ _ _ _ _ _ us hl => match us, hl with | [_], _ => rfl⟩, C.g_turned, F.kp⟩
theorem ok__straight_ways (C : Ct K w mg) : GoodO P w K mg base 2 "_straight_ways" ["prices", "towers", "bound"] (sp__straight_ways K) := by
  obtain ⟨fd, F⟩ := C.says.def_ 35 (d := d__straight_ways) rfl
  exact ⟨⟨fd, F.ok (k := 1) sc__straight_ways (fun vs H Q E h => sp3_len vs H Q E h) (fun cdv A outer s H vs Q E hr h => ⟨t__straight_ways K E, (have hu := hr.units; (pss_cons (ps_set (i := 3) sc__straight_ways.nd rfl (Or.inl rfl) (pe_fo (ok_from_each_tower C) (hr.mono (by decide)) (by rfl) (passes_call (takes_of rfl rfl rfl rfl) fun _ _ _ _ h => h) (ha := (pa_cons (pv 1) pa_nil)))) (pss_cons (ps_set (i := 4) sc__straight_ways.nd rfl (Or.inl rfl) (pe_fo (ok_from_each_tower C) (hr.mono (by decide)) (by rfl) (passes_call (takes_of rfl rfl rfl rfl) fun _ _ _ _ h => h) (ha := (pa_cons (pe_fo (ok_turned C) (hr.mono (by decide)) (by rfl) (passes_call (takes_of rfl rfl rfl rfl) fun _ _ _ _ h => h) (ha := (pa_cons (pv 1) pa_nil))) pa_nil)))) (pss_cons (ps_set (i := 5) sc__straight_ways.nd rfl (Or.inl rfl) (pe_lst pa_nil)) (pss_cons (ps_for (passes_of rfl) rfl (pi_seq (pe_glob (by rfl) C.g_WAYS rfl)) (pg_name (i := 6) sc__straight_ways.nd rfl (Or.inl rfl)) (pss_cons (ps_asg (pe_fo (ok_both_lines C) (hr.mono (by decide)) (by rfl) (passes_call (takes_of rfl rfl rfl rfl) fun _ _ _ _ h => h) (ha := (pa_cons (pv 6) (pa_cons (pv 0) (pa_cons (pv 1) (pa_cons (pe_dget (Nat.lt_of_le_of_lt (Nat.add_le_add_left (by decide) _) hu) (pv 3) (pe_ix ix_u (pv 6) pe_int (fun _ _ => rfl)) (fun _ _ => rfl)) (pa_cons (pe_dget (Nat.lt_of_le_of_lt (Nat.add_le_add_left (by decide) _) hu) (pv 4) (pe_ix ix_u (pv 6) pe_int (fun _ _ => rfl)) (fun _ _ => rfl)) pa_nil))))))) (pg_tup (by rfl) (pgs_cons (pg_name (i := 7) sc__straight_ways.nd rfl (Or.inl rfl)) (pgs_cons (pg_name (i := 8) sc__straight_ways.nd rfl (Or.inl rfl)) pgs_nil)))) (pss_one (ps_if (PW.pt (pw_and (pt_cmpR op_uLt (pv 7) (pv 2) (by rfl)) (pw_and1 (pt_cmpR op_uLe (pv 7) (pv 8) (by rfl))))) (pss_one (ps_expr (pe_bm PySem.F.plainAttrs_list PySem.F.slot_list_append PySem.F.type_list_append mt_append (pv 5) (pa_cons (pv 6) pa_nil)))) pss_nil)))) (pss_one (ps_ret (pv 5)))))))), read__straight_ways C.F h⟩), F.bindsN fun _ _ _ _ _ _ us hl => match us, hl with | [_, _, _], _ => rfl⟩, C.g__straight_ways, F.kp⟩
theorem ok_straight_ways (C : Ct K w mg) : GoodO P w K mg base 5 "straight_ways" ["yard"] (sp_straight_ways K) := by
  obtain ⟨fd, F⟩ := C.says.def_ 34 (d := d_straight_ways) rfl
  exact ⟨⟨fd, F.ok (k := 4) sc_straight_ways (fun vs H Q E h => sp1_len vs H Q E h) (fun cdv A outer s H vs Q E hr h => ⟨t_straight_ways K E, (have hu := hr.units; (pss_cons (ps_expr (pe_fo (ok_check_yard C) (hr.mono (by decide)) (by rfl) (passes_call (takes_of rfl rfl rfl rfl) fun _ _ _ _ h => h) (ha := (pa_cons (pv 0) pa_nil)))) (pss_cons (ps_set (i := 1) sc_straight_ways.nd rfl (Or.inr rfl) (Exists.elim (ok_Yard_reckoning C).fn fun _ z => pe_meth0 (pv 0) (ok_Yard_reckoning (P := P) (base := base) C).cl (ok_Yard_reckoning (P := P) (base := base) C).mt z.1 (hr.mono (by decide)) z.2 .nil (passes_call (takes_of rfl rfl rfl rfl) fun _ _ _ _ h => h))) (pss_cons (ps_setLc (i := 2) (own := [("prices", 3), ("towers", 4)]) (g := (gTup K 2 (gCons (gName 3) (gCons (gName 4) gNil)))) (tt := tYes) rfl sc_straight_ways.nd rfl rfl (by exact sw_true rfl rfl rfl (by decide +kernel)) (pi_zipV (by rfl) C.n_zip (pa_cons (pe_fld (pv 1) rfl) (pa_cons (pe_fld (pv 1) rfl) pa_nil))) (blkOk_by (N := n_straight_ways) (sc := defScope s_straight_ways) (by decide +kernel)) (fun _ _ _ _ _ => (pg_tup (by rfl) (pgs_cons (pg_name (i := 3) sc_straight_ways.nd rfl (Or.inl rfl)) (pgs_cons (pg_name (i := 4) sc_straight_ways.nd rfl (Or.inl rfl)) pgs_nil)))) (fun _ _ _ _ _ => pts_nil) (fun _ _ _ _ _ => (pe_fo (ok__straight_ways C) (hr.mono (by decide)) (by rfl) passL (ha := (pa_cons (pv 3) (pa_cons (pv 4) (pa_cons (pe_fld (pv 1) rfl) pa_nil))))))) (pss_one (ps_ret (pe_revL (pv 2)))))))), read_straight_ways C.F C.kr h⟩), F.bindsN fun _ _ _ _ _ _ us hl => match us, hl with | [_], _ => rfl⟩, C.g_straight_ways, F.kp⟩
theorem ok__law_straight_right (C : Ct K w mg) : GoodO P w K mg base 6 "_law_straight_right" ["_law_rows_here", "_law_yard", "_law_own"] (sp__law_straight_right K) := by
  obtain ⟨fd, F⟩ := C.says.def_ 52 (d := d__law_straight_right) rfl
  exact ⟨⟨fd, F.ok (k := 5) sc__law_straight_right (fun vs H Q E h => sp3_len vs H Q E h) (fun cdv A outer s H vs Q E hr h => ⟨t__law_straight_right K E, (have hu := hr.units; (pss_cons (ps_set (i := 3) sc__law_straight_right.nd rfl (Or.inl rfl) (pe_lst pa_nil)) (pss_cons (ps_for (passes_of rfl) rfl (pi_enumU (by rfl) C.n_enumerate (pa_cons (pe_revL (pv 0)) pa_nil)) (pg_tup (by rfl) (pgs_cons (pg_name (i := 4) sc__law_straight_right.nd rfl (Or.inl rfl)) (pgs_cons (pg_name (i := 5) sc__law_straight_right.nd rfl (Or.inl rfl)) pgs_nil))) (pss_cons (ps_par3 (by rfl) sc__law_straight_right.nd rfl rfl rfl (by decide) (by decide) (by decide) rfl rfl rfl (pa_cons (pe_ix ix_u (pv 2) (pv 4) (fun _ _ => rfl)) (pa_cons (pe_ix ix_u (pv 2) (pe_op op_uAdd (pv 4) pe_int) (fun _ _ => rfl)) (pa_cons (pe_lst pa_nil) pa_nil))) (by rfl)) (pss_cons (ps_for (passes_of rfl) rfl (pi_seq (pe_glob (by rfl) C.g_WAYS rfl)) (pg_name (i := 9) sc__law_straight_right.nd rfl (Or.inl rfl)) (pss_cons (ps_set (i := 10) sc__law_straight_right.nd rfl (Or.inl rfl) (pe_fo (ok__law_other C) (hr.mono (by decide)) (by rfl) (passes_call (takes_of rfl rfl rfl rfl) fun _ _ _ _ h => h) (ha := (pa_cons (pe_ix ix_u (pv 9) pe_int (fun _ _ => rfl)) (pa_cons (pe_ix ix_u (pv 9) pe_int (fun _ _ => rfl)) pa_nil))))) (pss_cons (ps_set (i := 11) sc__law_straight_right.nd rfl (Or.inl rfl) (pe_fo (ok__law_sum C) (hr.mono (by decide)) (by rfl) (passes_call (takes_of rfl rfl rfl rfl) fun _ _ _ _ h => h) (ha := (pa_cons (pe_lst (pa_cons (pe_dget (Nat.lt_of_le_of_lt (Nat.add_le_add_left (by decide) _) hu) (pv 6) (pe_op op_uAdd (pe_ix ix_u (pv 9) pe_int (fun _ _ => rfl)) (pv 10)) (fun _ _ => rfl)) (pa_cons (pe_fo (ok__law_price C) (hr.mono (by decide)) (by rfl) (passes_call (takes_of rfl rfl rfl rfl) fun _ _ _ _ h => h) (ha := (pa_cons (pv 5) (pa_cons (pe_ix ix_u (pv 9) pe_int (fun _ _ => rfl)) (pa_cons (pe_ix ix_u (pv 9) pe_int (fun _ _ => rfl)) pa_nil))))) (pa_cons (pe_dget (Nat.lt_of_le_of_lt (Nat.add_le_add_left (by decide) _) hu) (pv 6) (pe_op op_uAdd (pv 10) (pe_ix ix_u (pv 9) pe_int (fun _ _ => rfl))) (fun _ _ => rfl)) pa_nil)))) pa_nil)))) (pss_one (ps_if (PW.pt (pw_and (pt_cmpR op_uNis (pv 11) pe_non (by rfl)) (pw_and1 (pt_cmpR (op_uEq hu) (pv 11) (pe_dget (Nat.lt_of_le_of_lt (Nat.add_le_add_left (by decide) _) hu) (pv 7) (pv 9) (fun _ _ => rfl)) (by rfl))))) (pss_one (ps_expr (pe_bm PySem.F.plainAttrs_list PySem.F.slot_list_append PySem.F.type_list_append mt_append (pv 8) (pa_cons (pv 9) pa_nil)))) pss_nil))))) (pss_one (ps_expr (pe_bm PySem.F.plainAttrs_list PySem.F.slot_list_insert PySem.F.type_list_insert mt_insertU (pv 3) (pa_cons pe_int (pa_cons (pv 8) pa_nil)))))))) (pss_one (ps_ret (pe_cmpR (op_uEq hu) (pe_fo (ok_straight_ways C) (hr.mono (by decide)) (by rfl) (passes_call (takes_of rfl rfl rfl rfl) fun _ _ _ _ h => h) (ha := (pa_cons (pv 1) pa_nil))) (pv 3) (by rfl))))))), read__law_straight_right C.F h⟩), F.bindsN fun _ _ _ _ _ _ us hl => match us, hl with | [_, _, _], _ => rfl⟩, C.g__law_straight_right, F.kp⟩
theorem ok_Reckoning_named (C : Ct K w mg) : GoodM P w K mg base 1 "Reckoning" "named" ["self", "names", "numbers"] (sp_Reckoning_named K) := by
  obtain ⟨fd, F⟩ := C.says.def_ 11 (d := d_Reckoning_named) rfl
  exact ⟨⟨fd, F.ok (k := 0) sc_Reckoning_named (fun vs H Q E h => sp3_len vs H Q E h) (fun cdv A outer s H vs Q E hr h => ⟨t_Reckoning_named K E, (have hu := hr.units; (pss_cons (ps_set (i := 3) sc_Reckoning_named.nd rfl (Or.inr rfl) (pe_fld (pv 0) rfl)) (pss_one (ps_ret (pe_dc (own := [("name", 4), ("number", 5)]) (g := (gTup K 2 (gCons (gName 4) (gCons (gName 5) gNil)))) (tt := tYes) rfl sc_Reckoning_named.nd (pi_zipV (by rfl) C.n_zip (pa_cons (pv 1) (pa_cons (pv 2) pa_nil))) (blkOk_by (N := n_Reckoning_named) (sc := defScope s_Reckoning_named) (by decide +kernel)) (fun _ _ _ _ _ => (pg_tup (by rfl) (pgs_cons (pg_name (i := 4) sc_Reckoning_named.nd rfl (Or.inl rfl)) (pgs_cons (pg_name (i := 5) sc_Reckoning_named.nd rfl (Or.inl rfl)) pgs_nil)))) (fun _ _ _ _ _ => pts_nil) (fun _ _ _ _ _ => (pv 4)) (fun _ _ _ _ _ => (pe_ifExp (pt_cmpR op_uLt (pv 5) (pv 3) (by rfl)) (pv 5) pe_non))))))), read_Reckoning_named C.F C.kr h⟩), F.bindsN fun _ _ _ _ _ _ us hl => match us, hl with | [_, _, _], _ => rfl⟩, C.m_Reckoning_named, C.kr.cl⟩
theorem ok_tables (C : Ct K w mg) : GoodO P w K mg base 5 "tables" ["yard"] (sp_tables K) := by
  obtain ⟨fd, F⟩ := C.says.def_ 29 (d := d_tables) rfl
  exact ⟨⟨fd, F.ok (k := 4) sc_tables (fun vs H Q E h => sp1_len vs H Q E h) (fun cdv A outer s H vs Q E hr h => ⟨t_tables K E, (have hu := hr.units; (pss_cons (ps_expr (pe_fo (ok_check_yard C) (hr.mono (by decide)) (by rfl) (passes_call (takes_of rfl rfl rfl rfl) fun _ _ _ _ h => h) (ha := (pa_cons (pv 0) pa_nil)))) (pss_cons (ps_set (i := 1) sc_tables.nd rfl (Or.inr rfl) (Exists.elim (ok_Yard_reckoning C).fn fun _ z => pe_meth0 (pv 0) (ok_Yard_reckoning (P := P) (base := base) C).cl (ok_Yard_reckoning (P := P) (base := base) C).mt z.1 (hr.mono (by decide)) z.2 .nil (passes_call (takes_of rfl rfl rfl rfl) fun _ _ _ _ h => h))) (pss_one (ps_ret (pe_lc (own := [("towers", 2)]) (g := (gName 2)) (tt := tYes) rfl sc_tables.nd (pi_seq (pe_fld (pv 1) rfl)) (blkOk_by (N := n_tables) (sc := defScope s_tables) (by decide +kernel)) (fun _ _ _ _ _ => (pg_name (i := 2) sc_tables.nd rfl (Or.inl rfl))) (fun _ _ _ _ _ => pts_nil) (fun _ _ _ _ _ => (Exists.elim (ok_Reckoning_named C).fn fun _ z => pe_meth (pv 1) (ok_Reckoning_named (P := P) (base := base) C).cl (ok_Reckoning_named (P := P) (base := base) C).mt z.1 (hr.mono (by decide)) z.2 .nil passL (pa_cons (pe_glob (by rfl) C.g_WAYS rfl) (pa_cons (pv 2) pa_nil)))))))))), read_tables C.F C.kr h⟩), F.bindsN fun _ _ _ _ _ _ us hl => match us, hl with | [_], _ => rfl⟩, C.g_tables, F.kp⟩
theorem ok_Reckoning_told (C : Ct K w mg) : GoodM P w K mg base 1 "Reckoning" "told" ["self", "number"] (sp_Reckoning_told K) := by
  obtain ⟨fd, F⟩ := C.says.def_ 10 (d := d_Reckoning_told) rfl
  exact ⟨⟨fd, F.ok (k := 0) sc_Reckoning_told (fun vs H Q E h => sp2_len vs H Q E h) (fun cdv A outer s H vs Q E hr h => ⟨t_Reckoning_told K E, (have hu := hr.units; (pss_one (ps_ret (pe_ifExp (pt_cmpR op_uLt (pv 1) (pe_fld (pv 0) rfl) (by rfl)) (pv 1) pe_non)))), read_Reckoning_told C.F C.kr h⟩), F.bindsN fun _ _ _ _ _ _ us hl => match us, hl with | [_, _], _ => rfl⟩, C.m_Reckoning_told, C.kr.cl⟩
theorem ok_tower_cost (C : Ct K w mg) : GoodO P w K mg base 5 "tower_cost" ["yard", "way"] (sp_tower_cost K) := by
  obtain ⟨fd, F⟩ := C.says.def_ 30 (d := d_tower_cost) rfl
  exact ⟨⟨fd, F.ok (k := 4) sc_tower_cost (fun vs H Q E h => sp2_len vs H Q E h) (fun cdv A outer s H vs Q E hr h => ⟨t_tower_cost K E, (have hu := hr.units; (pss_cons (ps_expr (pe_fo (ok_check_yard C) (hr.mono (by decide)) (by rfl) (passes_call (takes_of rfl rfl rfl rfl) fun _ _ _ _ h => h) (ha := (pa_cons (pv 0) pa_nil)))) (pss_cons (ps_expr (pe_fo (ok_check_way C) (hr.mono (by decide)) (by rfl) (passes_call (takes_of rfl rfl rfl rfl) fun _ _ _ _ h => h) (ha := (pa_cons (pv 1) pa_nil)))) (pss_cons (ps_set (i := 2) sc_tower_cost.nd rfl (Or.inl rfl) (Exists.elim (ok_Yard_reckoning C).fn fun _ z => pe_meth0 (pv 0) (ok_Yard_reckoning (P := P) (base := base) C).cl (ok_Yard_reckoning (P := P) (base := base) C).mt z.1 (hr.mono (by decide)) z.2 .nil (passes_call (takes_of rfl rfl rfl rfl) fun _ _ _ _ h => h))) (pss_one (ps_ret (Exists.elim (ok_Reckoning_told C).fn fun _ z => pe_meth (pv 2) (ok_Reckoning_told (P := P) (base := base) C).cl (ok_Reckoning_told (P := P) (base := base) C).mt z.1 (hr.mono (by decide)) z.2 .nil (passes_call (takes_of rfl rfl rfl rfl) fun _ _ _ _ h => h) (pa_cons (pe_ix ix_u (pe_ix ix_u (pe_fld (pv 2) rfl) (pe_un un_neg pe_int) (fun _ _ => rfl)) (pe_ix (ix_col C.t_COLUMNS) (pe_glob (by rfl) C.g_COLUMNS rfl) (pv 1) (fun _ _ => rfl)) (fun _ _ => rfl)) pa_nil)))))))), read_tower_cost C.F C.kr h⟩), F.bindsN fun _ _ _ _ _ _ us hl => match us, hl with | [_, _], _ => rfl⟩, C.g_tower_cost, F.kp⟩
theorem ok_is_integer (C : Ct K w mg) : GoodO P w K mg base 1 "is_integer" ["value"] (sp_is_integer K) := by
  obtain ⟨fd, F⟩ := C.says.def_ 20 (d := d_is_integer) rfl
  exact ⟨⟨fd, F.ok (k := 0) sc_is_integer (fun vs H Q E h => sp1_len vs H Q E h) (fun cdv A outer s H vs Q E hr h => ⟨t_is_integer K E, (have hu := hr.units; (pss_one (ps_ret (pe_and (pe_callB call_uIsi (by rfl) C.n_isinstance (by decide +kernel) (pa_cons (pv 0) (pa_cons (pe_bltn (v := .ty "int") (by rfl) C.n_int (by decide +kernel) rfl) pa_nil))) (pe_one (pe_not (pe_callB call_uIsi (by rfl) C.n_isinstance (by decide +kernel) (pa_cons (pv 0) (pa_cons (pe_bltn (v := .ty "bool") (by rfl) C.n_bool (by decide +kernel) rfl) pa_nil))))))))), read_is_integer C.F h⟩), F.bindsN fun _ _ _ _ _ _ us hl => match us, hl with | [_], _ => rfl⟩, C.g_is_integer, F.kp⟩
theorem ok_is_price (C : Ct K w mg) : GoodO P w K mg base 2 "is_price" ["value"] (sp_is_price K) := by
  obtain ⟨fd, F⟩ := C.says.def_ 19 (d := d_is_price) rfl
  exact ⟨⟨fd, F.ok (k := 1) sc_is_price (fun vs H Q E h => sp1_len vs H Q E h) (fun cdv A outer s H vs Q E hr h => ⟨t_is_price K E, (have hu := hr.units; (pss_one (ps_ret (pe_and (pe_fo (ok_is_integer C) (hr.mono (by decide)) (by rfl) (passes_call (takes_of rfl rfl rfl rfl) fun _ _ _ _ h => h) (ha := (pa_cons (pv 0) pa_nil))) (pe_one (pe_cmpR op_uGt (pv 0) pe_int (by rfl))))))), read_is_price C.F h⟩), F.bindsN fun _ _ _ _ _ _ us hl => match us, hl with | [_], _ => rfl⟩, C.g_is_price, F.kp⟩
theorem ok__is_price_row (C : Ct K w mg) : GoodO P w K mg base 3 "_is_price_row" ["value"] (sp__is_price_row K) := by
  obtain ⟨fd, F⟩ := C.says.def_ 28 (d := d__is_price_row) rfl
  exact ⟨⟨fd, F.ok (k := 2) sc__is_price_row (fun vs H Q E h => sp1_len vs H Q E h) (fun cdv A outer s H vs Q E hr h => ⟨t__is_price_row K E, (have hu := hr.units; (pss_one (ps_ret (pe_and (pe_callB call_uIsi (by rfl) C.n_isinstance (by decide +kernel) (pa_cons (pv 0) (pa_cons (pe_tup (pa_cons (pe_bltn (v := .ty "list") (by rfl) C.n_list (by decide +kernel) rfl) (pa_cons (pe_bltn (v := .ty "tuple") (by rfl) C.n_tuple (by decide +kernel) rfl) pa_nil))) pa_nil))) (pe_and (pe_cmpR (op_uEq hu) (pe_callB call_uLen (by rfl) C.n_len boot_len (pa_cons (pv 0) pa_nil)) (pe_callB call_uLen (by rfl) C.n_len boot_len (pa_cons (pe_glob (by rfl) C.g_WAYS rfl) pa_nil)) (by rfl)) (pe_one (pe_callB (cr_all rfl) (by rfl) C.n_all (by decide +kernel) (pa_cons (pe_lc (own := [("price", 1)]) (g := (gName 1)) (tt := tYes) rfl sc__is_price_row.nd (pi_seq (pv 0)) (blkOk_by (N := n__is_price_row) (sc := defScope s__is_price_row) (by decide +kernel)) (fun _ _ _ _ _ => (pg_name (i := 1) sc__is_price_row.nd rfl (Or.inl rfl))) (fun _ _ _ _ _ => pts_nil) (fun _ _ _ _ _ => (pe_or (pe_cmpR op_uIs (pv 1) pe_non (by rfl)) (pe_one (pe_fo (ok_is_price C) (hr.mono (by decide)) (by rfl) passL (ha := (pa_cons (pv 1) pa_nil))))))) pa_nil)))))))), read__is_price_row C.F h⟩), F.bindsN fun _ _ _ _ _ _ us hl => match us, hl with | [_], _ => rfl⟩, C.g__is_price_row, F.kp⟩
theorem ok__are_rows (C : Ct K w mg) : GoodO P w K mg base 4 "_are_rows" ["value"] (sp__are_rows K) := by
  obtain ⟨fd, F⟩ := C.says.def_ 27 (d := d__are_rows) rfl
  exact ⟨⟨fd, F.ok (k := 3) sc__are_rows (fun vs H Q E h => sp1_len vs H Q E h) (fun cdv A outer s H vs Q E hr h => ⟨t__are_rows K E, (have hu := hr.units; (pss_one (ps_ret (pe_and (pe_callB call_uIsi (by rfl) C.n_isinstance (by decide +kernel) (pa_cons (pv 0) (pa_cons (pe_tup (pa_cons (pe_bltn (v := .ty "list") (by rfl) C.n_list (by decide +kernel) rfl) (pa_cons (pe_bltn (v := .ty "tuple") (by rfl) C.n_tuple (by decide +kernel) rfl) pa_nil))) pa_nil))) (pe_and (pe_chain op_uLe op_uLe pe_int (pe_callB call_uLen (by rfl) C.n_len boot_len (pa_cons (pv 0) pa_nil)) (pe_int_of (by rfl) (C.int_MOST_CRATES))) (pe_one (pe_callB (cr_all rfl) (by rfl) C.n_all (by decide +kernel) (pa_cons (pe_lc (own := [("row", 1)]) (g := (gName 1)) (tt := tYes) rfl sc__are_rows.nd (pi_seq (pv 0)) (blkOk_by (N := n__are_rows) (sc := defScope s__are_rows) (by decide +kernel)) (fun _ _ _ _ _ => (pg_name (i := 1) sc__are_rows.nd rfl (Or.inl rfl))) (fun _ _ _ _ _ => pts_nil) (fun _ _ _ _ _ => (pe_fo (ok__is_price_row C) (hr.mono (by decide)) (by rfl) passL (ha := (pa_cons (pv 1) pa_nil))))) pa_nil)))))))), read__are_rows C.F h⟩), F.bindsN fun _ _ _ _ _ _ us hl => match us, hl with | [_], _ => rfl⟩, C.g__are_rows, F.kp⟩
theorem ok_Yard_init (C : Ct K w mg) : GoodM P w K mg base 5 "Yard" "__init__" ["self", "rows"] (sp_Yard_init K) := by
  obtain ⟨fd, F⟩ := C.says.def_ 23 (d := d_Yard_init) rfl
  exact ⟨⟨fd, F.ok (k := 4) sc_Yard_init (fun vs H Q E h => sp2_len vs H Q E h) (fun cdv A outer s H vs Q E hr h => ⟨t_Yard_init K E, (have hu := hr.units; (pss_cons (ps_if (pt_not (pt_val (pe_fo (ok__are_rows C) (hr.mono (by decide)) (by rfl) (passes_call (takes_of rfl rfl rfl rfl) fun _ _ _ _ h => h) (ha := (pa_cons (pv 1) pa_nil))))) (pss_one (ps_rse (okx_InvalidYard C) (hr.mono (by decide)) rfl (takes_of rfl rfl rfl rfl) (by rfl) (pa_cons (pv 1) pa_nil))) pss_nil) (pss_cons (ps_fld (pv 0) (pe_callTy (call_uTup rfl) (by rfl) C.n_tuple (by decide +kernel) (pa_cons (pe_lc (own := [("row", 2)]) (g := (gName 2)) (tt := tYes) rfl sc_Yard_init.nd (pi_seq (pv 1)) (blkOk_by (N := n_Yard_init) (sc := defScope s_Yard_init) (by decide +kernel)) (fun _ _ _ _ _ => (pg_name (i := 2) sc_Yard_init.nd rfl (Or.inl rfl))) (fun _ _ _ _ _ => pts_nil) (fun _ _ _ _ _ => (pe_callTy (call_uTup rfl) (by rfl) C.n_tuple (by decide +kernel) (pa_cons (pv 2) pa_nil)))) pa_nil)) rfl) (pss_one (ps_fld (pv 0) pe_non rfl))))), read_Yard_init C.F h⟩), F.bindsN fun _ _ _ _ _ _ us hl => match us, hl with | [_, _], _ => rfl⟩, C.m_Yard_init, C.F.cl⟩
theorem ok__law_right (C : Ct K w mg) : Good P w K mg base 10 "_law_right" ["_law_bag_here"] (sp__law_right K) := by
  obtain ⟨fd, F⟩ := C.says.def_ 53 (d := d__law_right) rfl
  exact ⟨⟨fd, fnG_of (k := 9) F sc__law_right (fun vs H Q E h => sp1_len vs H Q E h) (fun cdv A outer s H vs Q E hA hr h => ⟨t__law_right K E, (have hu := hr.units; (pss_cons (ps_set (i := 1) sc__law_right.nd rfl (Or.inl rfl) (pe_fo (ok__law_rows C) (hr.mono (by decide)) (by rfl) (passes_call (takes_of rfl rfl rfl rfl) fun _ _ _ _ h => h) (ha := (pa_cons (pv 0) (pa_cons (pe_ix ix_u (pe_lst (pa_cons pe_int (pa_cons pe_int (pa_cons pe_int pa_nil)))) (pe_fo (ok__law_take C) (hr.mono (by decide)) (by rfl) (passes_call (takes_of rfl rfl rfl rfl) fun _ _ _ _ h => h) (ha := (pa_cons (pv 0) (pa_cons pe_int pa_nil)))) (fun _ _ => rfl)) pa_nil))))) (pss_cons (ps_par (by rfl) sc__law_right.nd rfl rfl (by decide) rfl rfl (pa_cons (pe_mk (ok_Yard_init C) C.mk_Yard C.g_Yard (hr.mono (by decide)) (by rfl) (passes_call (takes_of rfl rfl rfl rfl) fun _ _ _ _ h => h) (ha := (pa_cons (pv 1) pa_nil))) (pa_cons (pe_fo (ok__law_levels C) (hr.mono (by decide)) (by rfl) (passes_call (takes_of rfl rfl rfl rfl) fun _ _ _ _ h => h) (ha := (pa_cons (pv 1) pa_nil))) pa_nil)) (by rfl)) (pss_cons (ps_if (PW.pt (pw_or (pt_cmpR (op_neLD hu) (pe_fo (ok_tables C) (hr.mono (by decide)) (by rfl) (passes_call (takes_of rfl rfl rfl rfl) fun _ _ _ _ h => h) (ha := (pa_cons (pv 2) pa_nil))) (pv 3) (by rfl)) (pw_or (pt_cmpR op_uNis (pe_fo (ok_is_paper C) (hr.mono (by decide)) (by rfl) (passes_call (takes_of rfl rfl rfl rfl) fun _ _ _ _ h => h) (ha := (pa_cons (pv 2) (pa_cons (pv 3) pa_nil)))) pe_bl (by rfl)) (pw_or1 (pt_not (pt_val (pe_fo (ok__law_straight_right C) (hr.mono (by decide)) (by rfl) (passes_call (takes_of rfl rfl rfl rfl) fun _ _ _ _ h => h) (ha := (pa_cons (pv 1) (pa_cons (pv 2) (pa_cons (pv 3) pa_nil))))))))))) (pss_one (ps_ret pe_bl)) pss_nil) (pss_cons (ps_for (passes_of rfl) rfl (pi_range1 (by rfl) C.n_range (pa_cons pe_int pa_nil)) (pg_name (i := 4) sc__law_right.nd rfl (Or.inl rfl)) (pss_cons (ps_set (i := 5) sc__law_right.nd rfl (Or.inl rfl) (pe_fo (ok__law_bent C) (hr.mono (by decide)) (by rfl) (passes_call (takes_of rfl rfl rfl rfl) fun _ _ _ _ h => h) (ha := (pa_cons (pv 0) (pa_cons (pe_ix ix_u (pe_lst (pa_cons (pv 3) (pa_cons (pe_fo (ok__law_lowered C) (hr.mono (by decide)) (by rfl) (passes_call (takes_of rfl rfl rfl rfl) fun _ _ _ _ h => h) (ha := (pa_cons (pv 0) (pa_cons (pv 1) pa_nil)))) pa_nil))) (pe_fo (ok__law_take C) (hr.mono (by decide)) (by rfl) (passes_call (takes_of rfl rfl rfl rfl) fun _ _ _ _ h => h) (ha := (pa_cons (pv 0) (pa_cons pe_int pa_nil)))) (fun _ _ => rfl)) pa_nil))))) (pss_cons (ps_par3 (by rfl) sc__law_right.nd rfl rfl rfl (by decide) (by decide) (by decide) rfl rfl rfl (pa_cons (pe_fo (ok__law_due C) (hr.mono (by decide)) (by rfl) (passes_call (takes_of rfl rfl rfl rfl) fun _ _ _ _ h => h) (ha := (pa_cons (pv 1) (pa_cons (pv 5) pa_nil)))) (pa_cons (pe_callB (call_uReprQ hA hu C.ks) (by rfl) C.n_repr (by decide +kernel) (pa_cons (pv 5) pa_nil)) (pa_cons (pe_ix ix_u (pe_glob (by rfl) C.g_WAYS rfl) (pe_fo (ok__law_take C) (hr.mono (by decide)) (by rfl) (passes_call (takes_of rfl rfl rfl rfl) fun _ _ _ _ h => h) (ha := (pa_cons (pv 0) (pa_cons pe_int pa_nil)))) (fun _ _ => rfl)) pa_nil))) (by rfl)) (pss_cons (ps_if (PW.pt (pw_or (pt_cmpR (op_uNe hu) (pe_callB (call_uReprQ hA hu C.ks) (by rfl) C.n_repr (by decide +kernel) (pa_cons (pe_fo (ok_is_paper C) (hr.mono (by decide)) (by rfl) (passes_call (takes_of rfl rfl rfl rfl) fun _ _ _ _ h => h) (ha := (pa_cons (pv 2) (pa_cons (pv 5) pa_nil)))) pa_nil)) (pe_callB (call_uReprQ hA hu C.ks) (by rfl) C.n_repr (by decide +kernel) (pa_cons (pv 6) pa_nil)) (by rfl)) (pw_or1 (pt_cmpR (op_uNe hu) (pe_callB (call_uReprQ hA hu C.ks) (by rfl) C.n_repr (by decide +kernel) (pa_cons (pv 5) pa_nil)) (pv 7) (by rfl))))) (pss_one (ps_ret pe_bl)) pss_nil) (pss_cons (ps_if (pt_cmpR (op_uNe hu) (pe_fn (ok__law_caught C) hA (hr.mono (by decide)) (by rfl) (passes_call (takes_of rfl rfl rfl rfl) fun _ _ _ _ h => h) (ha := (pa_cons (pv 2) (pa_cons (pv 5) (pa_cons (pv 8) pa_nil))))) (pe_ifExp (pt_truth (pv 6) (by intro _; rfl)) (pe_dget (Nat.lt_of_le_of_lt (Nat.add_le_add_left (by decide) _) hu) (pe_ix ix_u (pv 5) (pe_un un_neg pe_int) (fun _ _ => rfl)) (pv 8) (fun _ _ => rfl)) (pe_lst (pa_cons pe_str (pa_cons (pv 7) pa_nil)))) (by rfl)) (pss_one (ps_ret pe_bl)) pss_nil) (pss_one (ps_if (PW.pt (pw_and (pt_truth (pv 6) (by intro _; rfl)) (pw_and1 (pt_val (pe_fo (ok__law_above C) (hr.mono (by decide)) (by rfl) (passes_call (takes_of rfl rfl rfl rfl) fun _ _ _ _ h => h) (ha := (pa_cons (pe_dget (Nat.lt_of_le_of_lt (Nat.add_le_add_left (by decide) _) hu) (pe_ix ix_u (pv 5) (pe_un un_neg pe_int) (fun _ _ => rfl)) (pv 8) (fun _ _ => rfl)) (pa_cons (pe_fo (ok_tower_cost C) (hr.mono (by decide)) (by rfl) (passes_call (takes_of rfl rfl rfl rfl) fun _ _ _ _ h => h) (ha := (pa_cons (pv 2) (pa_cons (pv 8) pa_nil)))) pa_nil)))))))) (pss_one (ps_ret pe_bl)) pss_nil))))))) (pss_cons (ps_par (by rfl) sc__law_right.nd rfl rfl (by decide) rfl rfl (pa_cons (pe_fo (ok__law_lowered C) (hr.mono (by decide)) (by rfl) (passes_call (takes_of rfl rfl rfl rfl) fun _ _ _ _ h => h) (ha := (pa_cons (pv 0) (pa_cons (pv 1) pa_nil)))) (pa_cons (pe_ix ix_u (pe_lst (pa_cons pe_non (pa_cons pe_str (pa_cons pe_str (pa_cons pe_int (pa_cons (pe_lst (pa_cons pe_str pa_nil)) (pa_cons pe_str pa_nil))))))) (pe_fo (ok__law_take C) (hr.mono (by decide)) (by rfl) (passes_call (takes_of rfl rfl rfl rfl) fun _ _ _ _ h => h) (ha := (pa_cons (pv 0) (pa_cons pe_int pa_nil)))) (fun _ _ => rfl)) pa_nil)) (by rfl)) (pss_one (ps_ret (pe_and (pe_cmpR op_uIs (pe_fo (ok_is_paper C) (hr.mono (by decide)) (by rfl) (passes_call (takes_of rfl rfl rfl rfl) fun _ _ _ _ h => h) (ha := (pa_cons (pv 2) (pa_cons (pv 9) pa_nil)))) pe_bl (by rfl)) (pe_one (pe_cmpR (op_uEq hu) (pe_fn (ok__law_caught C) hA (hr.mono (by decide)) (by rfl) (passes_call (takes_of rfl rfl rfl rfl) fun _ _ _ _ h => h) (ha := (pa_cons (pv 2) (pa_cons (pv 9) (pa_cons (pv 10) pa_nil))))) (pe_lst (pa_cons pe_str (pa_cons (pe_callB (call_uReprQ hA hu C.ks) (by rfl) C.n_repr (by decide +kernel) (pa_cons (pv 10) pa_nil)) pa_nil))) (by rfl)))))))))))), read__law_right C.F h⟩), F.bindsN fun _ _ _ _ _ _ us hl => match us, hl with | [_], _ => rfl⟩, C.g__law_right, F.kp⟩
theorem okF_law (C : Ct K w mg) {fd : FuncData} (F : FunD K d_law.name d_law.qual d_law.params d_law.body d_law.scope (d_law.dvs K) (d_law.kws K) (d_law.at_ K) fd) : FnG P w K mg base 11 (He.ga K "law") fd ["_law_script"] (sp_law0 K) :=
  fnG_of (k := 10) F sc_law (fun vs H Q E h => sp1_len vs H Q E h) (fun cdv A outer s H vs Q E hA hr h => ⟨t_law K E, (have hu := hr.units; (pss_cons (ps_for (passes_of rfl) rfl (pi_range1 (by rfl) C.n_range (pa_cons (pe_callB (call_max2 rfl) (by rfl) C.n_max (by decide +kernel) (pa_cons pe_int (pa_cons (pe_callB (call_min2 rfl) (by rfl) C.n_min (by decide +kernel) (pa_cons pe_int (pa_cons (pe_callB call_uLen (by rfl) C.n_len boot_len (pa_cons (pv 0) pa_nil)) pa_nil))) pa_nil))) pa_nil)) (pg_name (i := 1) sc_law.nd rfl (Or.inl rfl)) (pss_one (ps_if (pt_not (pt_val (pe_fn (ok__law_right C) hA (hr.mono (by decide)) (by rfl) (passes_call (takes_of rfl rfl rfl rfl) fun _ _ _ _ h => h) (ha := (pa_cons (pe_fo (ok__law_bag C) (hr.mono (by decide)) (by rfl) (passes_call (takes_of rfl rfl rfl rfl) fun _ _ _ _ h => h) (ha := (pa_cons (pe_fo (ok__law_cell C) (hr.mono (by decide)) (by rfl) (passes_call (takes_of rfl rfl rfl rfl) fun _ _ _ _ h => h) (ha := (pa_cons (pv 0) (pa_cons (pv 1) pa_nil)))) pa_nil))) pa_nil))))) (pss_one (ps_ret pe_bl)) pss_nil))) (pss_one (ps_ret pe_bl)))), read_law C.F h⟩)
end
end U
open PySem PySem.W PySem.Calls PyProof.Rows
theorem PySem.Challenge.cw_cratetowers_k21_papers_of_yards_holds : PySem.Challenge.rw_cratetowers_k21_papers_of_yards.Holds := by
  w_on; o_law
  refine HandSHeadRun.head_any (r := OpenLaw.row PySem.Challenge.rw_cratetowers_k21_papers_of_yards) (q := view (OpenLaw.row PySem.Challenge.rw_cratetowers_k21_papers_of_yards).prog [77]) (H := U.hk) (ob := U.ob) (M := 20000) (loose := U.loose) (d := HandSHeadRun.topDef (OpenLaw.row PySem.Challenge.rw_cratetowers_k21_papers_of_yards).prog 77) (kwd := []) U.ob_eq
    (by kernel_rfl) (fun s => by kernel_rfl) U.run (by kernel_rfl) (by kernel_rfl) (by kernel_rfl) (by rfl) (by first | assumption | decide +kernel) (by decide +kernel) ⟨rfl, rfl, rfl, rfl, rfl, by decide +kernel⟩ ?hw ?hc
  case hw => w_witness2
  case hc =>
    refine U.walk_G (l := PySem.Challenge.rw_cratetowers_k21_papers_of_yards) (n := 63) (k := 11) (x := "_law_script") ⟨rfl, by decide, by decide⟩ rfl (by decide) (by kernel_rfl) ?F
    intro w mg fa h hmg0 Y G
    obtain ⟨K, KX, c, e⟩ := Y
    have hmg : mg ("law" : PySem.Str) = some (.ref fa) := by
      have e : (HandSHeadRun.topDef (OpenLaw.row PySem.Challenge.rw_cratetowers_k21_papers_of_yards).prog 77).name = ("law" : PySem.Str) := by kernel_rfl
      rw [← e]
      exact hmg0
    have C := U.ct_of KX G c e
    have e2 := hmg.symm.trans C.g_law
    cases e2
    obtain ⟨fd, F⟩ := c.1.def_ 54 (d := U.d_law) rfl
    have b := L2.FunD.bindsA (ps := ["_law_script"]) F fun _ _ _ _ _ _ us hl => match us, hl with | [_], _ => rfl
    exact ⟨K, U.sp_law0 K, fd, fun s v => b s [v] rfl, KX, fun base _ _ => U.okF_law C F, fun H a ns hl _ hS => ⟨a, ns, rfl, hS, fun _ => rfl⟩⟩

