import PyProof.Rows.All
import Wide.All
import OpenK.AllK
import Wide.FinOn
import KE.KStateDown
import Lean
import HandS.ForMost
import HandS.WordsExc
import HandS.Exc
import HandS.ExcInit
import HandS.IsInst
import HandS.Defaults
import HandS.Wide
import HandS.Style
import HandS.Strs
import HandS.More
import HandS.RaiseMore
import HandS.Flow
import HandS.HeadHook2
import HandS.HeadEnd
import HandS.EndBits
import HandS.StrMore
import PyProof.ReprRoads
import PyProof.Draws
import PyProof.EnumMake
import PyProof.ListStr
import PyProof.TupleOfStr
import HandS.Conv
import PyProof.Rows.StrRev
import HandS.HeadHook3
import HandS.Sort
import HandS.SortInts
import HandS.Small
import HandS.Deep
import KE.KDictSum
import KE.KDictList
import HandS.Zip
import PyProof.StrWalks
import HandS.TryMany
import HandS.ExcField
import HandS.ExcIs
import KE.KTryMore
import KE.KIsAll
import HandS.ExcOwn
import HandS.ClsMeth
import HandS.HeadNt
import PyProof.ReprLen
import HandS.CallLocal
import HandS.OwnEq
import KE.KCallOwn
import PyProof.Rows.StrLast
import Wide.Txt
import KE.GoesMore
import KE.KEqDeep
import PyProof.Rows.ReprShort
import KE.KDictZip
import HandS.DictComp
import HandS.TupAny
import KE.IntTextLaws
import PyProof.StrLawsRepr
import HandS.Head0
import HandS.Head1
import HandS.Head2
import PySem.Challenge.RW_cratetowers_k04_texts_of_yards
set_option Elab.async false
set_option linter.all false
set_option maxRecDepth 100000
set_option maxHeartbeats 0
namespace U
open PySem PySem.Spec PyProof.Rows L2

/-! ### operators on values, by the values' kinds -/
section
variable {X : Cx}
def uAdd : R2 := fun x y H Q => match x, y with
  | .int i, .int j => Q (.int (i + j)) H
  | .str i, .str j => i.length + j.length ≤ sizeLine ∧ Q (.str (i ++ j)) H
  | .ref a, .ref b => rCat (.ref a) (.ref b) H Q
  | _, _ => False
theorem op_uAdd : OpR X (binaryOp .Add) uAdd := by
  intro pins s σ H x y u v Q I rx ry h
  cases x <;> cases y <;> first
    | exact (show False from h).elim
    | exact op_add pins s σ H _ _ u v Q I rx ry ⟨_, _, rfl, rfl, h⟩
    | exact op_add_str pins s σ H _ _ u v Q I rx ry ⟨_, _, rfl, rfl, h⟩
    | exact op_cat pins s σ H _ _ u v Q I rx ry h
def uSub : R2 := fun x y H Q => match x, y with
  | .int i, .int j => Q (.int (i - j)) H
  | _, _ => False
theorem op_uSub : OpR X (binaryOp .Sub) uSub := by
  intro pins s σ H x y u v Q I rx ry h
  cases x <;> cases y <;> first
    | exact (show False from h).elim
    | exact op_sub pins s σ H _ _ u v Q I rx ry ⟨_, _, rfl, rfl, h⟩
/-- a text, so many times -/
def rMulS : R2 := fun x y H Q => ∃ z n, x = .str z ∧ y = .int n ∧ 0 ≤ n ∧ n ≤ 1000 ∧ z.length ≤ 10000 ∧ Q (.str (Txt.mul z n)) H
theorem op_mulS : OpR X (binaryOp .Mult) rMulS := by
  intro ps s σ H x y v u R I rx ry h
  obtain ⟨z, n, rfl, rfl, h0, h1, h2, q⟩ := h
  obtain ⟨t, rfl⟩ := rx
  obtain ⟨t', rfl⟩ := ry
  refine SB.mul ⟨?_, ?_, ?_⟩ fun t' k => ⟨.str _, H, I.tok _, ⟨_, rfl⟩, q⟩
  · have e1 : ¬ n < -(2 ^ 63 : Int) := by omega
    have e2 : ¬ n ≥ 2 ^ 63 := by omega
    rw [decide_eq_false e1, decide_eq_false e2] <;> rfl
  · intro k1 _ k2
    have e : (z.length : Int) * n ≤ 10000 * 1000 := Int.mul_le_mul (by omega) h1 h0 (by omega)
    have e3 : (z.length : Int) ≤ (2 ^ 63 - 1) / n := Int.le_ediv_of_mul_le (by omega) (by omega)
    omega
  · intro _ _
    have e : z.length * n.toNat ≤ 10000 * 1000 := Nat.mul_le_mul h2 (by omega)
    have hs := sizeLine_eq
    show decide (_ > sizeLine) = false
    exact decide_eq_false (Nat.not_lt.mpr (by omega))
def uMul : R2 := fun x y H Q => match x, y with
  | .int i, .int j => CMul i j ∧ Q (.int (i * j)) H
  | .str z, .int n => 0 ≤ n ∧ n ≤ 1000 ∧ z.length ≤ 10000 ∧ Q (.str (Txt.mul z n)) H
  | .ref a, .int n => rRep (.ref a) (.int n) H Q
  | _, _ => False
theorem op_uMul : OpR X (binaryOp .Mult) uMul := by
  intro pins s σ H x y u v Q I rx ry h
  cases x <;> cases y <;> first
    | exact (show False from h).elim
    | exact op_mul pins s σ H _ _ u v Q I rx ry ⟨_, _, rfl, rfl, h⟩
    | exact op_mulS pins s σ H _ _ u v Q I rx ry ⟨_, _, rfl, rfl, h⟩
    | exact op_rep pins s σ H _ _ u v Q I rx ry h
def uDiv : R2 := fun x y H Q => match x, y with
  | .int i, .int j => CDivW i j ∧ Q (.int (i / j)) H
  | _, _ => False
theorem op_uDiv : OpR X (binaryOp .FloorDiv) uDiv := by
  intro pins s σ H x y u v Q I rx ry h
  cases x <;> cases y <;> first
    | exact (show False from h).elim
    | exact op_fdivW pins s σ H _ _ u v Q I rx ry ⟨_, _, rfl, rfl, h⟩
def uMod : R2 := fun x y H Q => match x, y with
  | .int i, .int j => 0 < j ∧ Q (.int (i % j)) H
  | _, _ => False
theorem op_uMod : OpR X (binaryOp .Mod) uMod := by
  intro pins s σ H x y u v Q I rx ry h
  cases x <;> cases y <;> first
    | exact (show False from h).elim
    | exact op_mod pins s σ H _ _ u v Q I rx ry ⟨_, _, rfl, rfl, h⟩
def uPow : R2 := fun x y H Q => match x, y with
  | .int i, .int j => CPow i j ∧ Q (.int (i ^ j.toNat)) H
  | _, _ => False
theorem op_uPow : OpR X (binaryOp .Pow) uPow := by
  intro pins s σ H x y u v Q I rx ry h
  cases x <;> cases y <;> first
    | exact (show False from h).elim
    | exact op_pow pins s σ H _ _ u v Q I rx ry ⟨_, _, rfl, rfl, h⟩
/-! comparisons -/
def uEq (K : PySem.W.Frag) : R2 := fun x y H Q => match x, y with
  | .ref a, y => rEqD K (.ref a) y H Q
  | .int i, .int j => Q (.bl (decide (i = j))) H
  | .str i, .str j => Q (.bl (decide (i = j))) H
  | .non, y => rEq .non y H Q
  | .bl b, y => rEq (.bl b) y H Q
  | .int i, .non => Q (.bl false) H
  | .str i, .non => Q (.bl false) H
  | _, _ => False
theorem op_uEq (hu : X.A.units + 64 < cLine) : OpR X (compareOp .Eq) (uEq X.K) := by
  intro pins s σ H x y u v Q I rx ry h
  cases x <;> cases y <;> first
    | exact (show False from h).elim
    | exact op_eqD hu pins s σ H _ _ u v Q I rx ry h
    | exact op_eq pins s σ H _ _ u v Q I rx ry h
    | exact op_eq pins s σ H _ _ u v Q I rx ry ⟨rfl, by simpa [uEq] using h⟩
def uNe (K : PySem.W.Frag) : R2 := fun x y H Q => match x, y with
  | .ref a, y => rNeD K (.ref a) y H Q
  | .int i, .int j => Q (.bl (!decide (i = j))) H
  | .str i, .str j => Q (.bl (!decide (i = j))) H
  | .non, y => rNe .non y H Q
  | .bl b, y => rNe (.bl b) y H Q
  | .int i, .non => Q (.bl true) H
  | .str i, .non => Q (.bl true) H
  | _, _ => False
theorem op_uNe (hu : X.A.units + 64 < cLine) : OpR X (compareOp .NotEq) (uNe X.K) := by
  intro pins s σ H x y u v Q I rx ry h
  cases x <;> cases y <;> first
    | exact (show False from h).elim
    | exact op_neD hu pins s σ H _ _ u v Q I rx ry h
    | exact op_ne pins s σ H _ _ u v Q I rx ry h
    | exact op_ne pins s σ H _ _ u v Q I rx ry ⟨rfl, by simpa [uNe] using h⟩
def uCmp (p : Int → Int → Bool) : R2 := fun x y H Q => match x, y with
  | .int i, .int j => Q (.bl (p i j)) H
  | _, _ => False
theorem uCmp_of {f : Value → Value → Sem Value} {p : Int → Int → Bool} (h : OpR X f (rI0 fun i j => .bl (p i j))) : OpR X f (uCmp p) := by
  intro pins s σ H x y u v Q I rx ry q
  cases x <;> cases y <;> first
    | exact (show False from q).elim
    | exact h pins s σ H _ _ u v Q I rx ry ⟨_, _, rfl, rfl, q⟩
abbrev uLt : R2 := uCmp fun i j => decide (i < j)
abbrev uLe : R2 := uCmp fun i j => decide (i ≤ j)
abbrev uGt : R2 := uCmp fun i j => decide (j < i)
abbrev uGe : R2 := uCmp fun i j => decide (j ≤ i)
theorem op_uLt : OpR X (compareOp .Lt) uLt := uCmp_of op_lt
theorem op_uLe : OpR X (compareOp .LtE) uLe := uCmp_of op_le
theorem op_uGt : OpR X (compareOp .Gt) uGt := uCmp_of op_gt
theorem op_uGe : OpR X (compareOp .GtE) uGe := uCmp_of op_ge
def uIs : R2 := fun x y H Q => match y with
  | .non => Q (.bl (decide (x = .non))) H
  | .bl b => (match x with
    | .bl a => Q (.bl (decide (a = b))) H
    | _ => False)
  | _ => False
theorem op_uIs : OpR X (compareOp .Is) uIs := by
  intro pins s σ H x y u v Q I rx ry h
  cases y <;> try exact (show False from h).elim
  · exact op_isN pins s σ H _ _ u v Q I rx ry ⟨rfl, h⟩
  · cases x <;> try exact (show False from h).elim
    exact op_isBl pins s σ H _ _ u v Q I rx ry ⟨_, _, rfl, rfl, h⟩
def uNis : R2 := fun x y H Q => match y with
  | .non => Q (.bl (!decide (x = .non))) H
  | .bl b => (match x with
    | .bl a => Q (.bl (!decide (a = b))) H
    | _ => False)
  | _ => False
theorem op_uNis : OpR X (compareOp .IsNot) uNis := by
  intro pins s σ H x y u v Q I rx ry h
  cases y <;> try exact (show False from h).elim
  · exact op_notN pins s σ H _ _ u v Q I rx ry ⟨rfl, h⟩
  · cases x <;> try exact (show False from h).elim
    exact op_notBl pins s σ H _ _ u v Q I rx ry ⟨_, _, rfl, rfl, h⟩
def uIn (K : PySem.W.Frag) (neg : Bool) : R2 := fun x y H Q => match y with
  | .ref p => rIn K neg x (.ref p) H Q
  | .str z => (match x with
    | .str i => Q (.bl (if neg then !(!(Builtin.Str.occurrences z i 0 z.length 1).isEmpty) else !(Builtin.Str.occurrences z i 0 z.length 1).isEmpty)) H
    | _ => False)
  | _ => False
theorem op_uIn : OpR X (compareOp .In) (uIn X.K false) := by
  intro pins s σ H x y u v Q I rx ry h
  cases y <;> try exact (show False from h).elim
  · cases x <;> try exact (show False from h).elim
    exact op_in_str pins s σ H _ _ u v Q I rx ry ⟨_, _, rfl, rfl, h⟩
  · exact op_in_seq pins s σ H _ _ u v Q I rx ry h
theorem op_uNin : OpR X (compareOp .NotIn) (uIn X.K true) := by
  intro pins s σ H x y u v Q I rx ry h
  cases y <;> try exact (show False from h).elim
  · cases x <;> try exact (show False from h).elim
    exact op_notIn_str pins s σ H _ _ u v Q I rx ry ⟨_, _, rfl, rfl, h⟩
  · exact op_notIn_seq pins s σ H _ _ u v Q I rx ry h
/-! subscripts -/
def uIx (K : PySem.W.Frag) : R2 := fun x y H Q => match x, y with
  | .str z, .int i => z.length ≤ sizeLine ∧ ∃ c, atI z.cps.toList i = some c ∧ Q (.str ⟨#[c]⟩) H
  | .ref p, .int i => ∃ xs v, (SqL K H p xs ∨ SqT K H p xs) ∧ atI xs i = some v ∧ Q v H
  | _, _ => False
theorem ix_u : IxR X (uIx X.K) := by
  intro ea eb pins s σ H x y u v Q I rx ry h
  cases x <;> cases y <;> try exact (show False from h).elim
  · obtain ⟨h1, c, h2, q⟩ := h
    exact ix_str ea eb pins s σ H _ _ u v Q I rx ry ⟨_, _, c, rfl, rfl, h1, h2, q⟩
  · obtain ⟨xs, z, hs | hs, h2, q⟩ := h
    · exact ix_list ea eb pins s σ H _ _ u v Q I rx ry ⟨_, xs, _, z, rfl, rfl, hs, h2, q⟩
    · exact ix_tup ea eb pins s σ H _ _ u v Q I rx ry ⟨_, xs, _, z, rfl, rfl, hs, h2, q⟩
def uSl (K : PySem.W.Frag) : V → Option Int → Option Int → Hp → VK → Prop := fun x lo hi H Q => match x with
  | .str z => z.length ≤ sizeLine ∧ Q (.str (cutS z lo hi)) H
  | .ref a => rSlL K (.ref a) lo hi H Q ∨ rSlT K (.ref a) lo hi H Q
  | _ => False
theorem sl_u : SlR X (uSl X.K) := by
  intro pins s σ H x v sl lo hi ulo uhi Q I rx hsl hlo hhi h
  cases x <;> try exact (show False from h).elim
  · exact sl_str pins s σ H _ v sl lo hi ulo uhi Q I rx hsl hlo hhi ⟨_, rfl, h⟩
  · rcases h with h | h
    · exact sl_list pins s σ H _ v sl lo hi ulo uhi Q I rx hsl hlo hhi h
    · exact sl_tup pins s σ H _ v sl lo hi ulo uhi Q I rx hsl hlo hhi h
/-! calls -/
def uLen (K : PySem.W.Frag) : List V → Hp → VK → Prop := fun xs H Q => match xs with
  | [.str z] => z.length ≤ sizeLine ∧ Q (.int z.length) H
  | [.ref p] => ∃ ys, (SqL K H p ys ∨ SqT K H p ys) ∧ Q (.int ys.length) H
  | _ => False
theorem call_uLen : CallR X (.builtin "len") (uLen X.K) := by
  intro ps s σ H xs us R I r h
  match xs, h with
  | [.str z], h => exact call_len_str ps s σ H _ us R I r ⟨_, rfl, h⟩
  | [.ref p], h =>
    obtain ⟨ys, hs, q⟩ := h
    exact call_len_seq ps s σ H _ us R I r ⟨p, ys, rfl, hs, q⟩
def uIsi (K : PySem.W.Frag) : List V → Hp → VK → Prop := fun xs H Q => match xs with
  | [x, .ty T] => ∃ t b, TyX K H x t ∧ PySem.W.kitOne K t (.type T) = some b ∧ Q (.bl b) H
  | [x, .ref c] => (∃ t b, TyX K H x t ∧ PySem.W.kitOne K t (.ref c) = some b ∧ Q (.bl b) H) ∨ ∃ cs us t b, H c = some (.tup cs) ∧ Paired ClsV cs us ∧ TyX K H x t ∧ PySem.W.kitAny K t us = some b ∧ Q (.bl b) H
  | _ => False
theorem call_uIsi : CallR X (.builtin "isinstance") (uIsi X.K) := by
  intro ps s σ H xs us R I r h
  match xs, h with
  | [x, .ty T], h =>
    obtain ⟨t, b, h1, h2, q⟩ := h
    exact call_isi ps s σ H _ us R I r ⟨x, _, t, _, b, rfl, .ty T, h1, h2, q⟩
  | [x, .ref c], h =>
    rcases h with ⟨t, b, h1, h2, q⟩ | ⟨cs, ws, t, b, h0, h3, h1, h2, q⟩
    · exact call_isi ps s σ H _ us R I r ⟨x, _, t, _, b, rfl, .own c, h1, h2, q⟩
    · exact call_isiT ps s σ H _ us R I r ⟨x, c, cs, t, ws, b, rfl, h0, h3, h1, h2, q⟩
/-- len of an instance whose class has its own __len__ -/
def rLenO (C : Addr) (sp : Sp) : List V → Hp → VK → Prop := fun xs H Q => ∃ a dx fs, xs = [.ref a] ∧ H a = some (.ins C dx fs) ∧ sp [.ref a] H (fun v H' => ∃ n : Int, v = .int n ∧ 0 ≤ n ∧ n < 2 ^ 63 ∧ Q (.int n) H') E0
theorem call_lenO {k : Nat} {C f : Addr} {fd : FuncData} {ps : List Str} {sp : Sp} (F : FnOk X.prog X.w X.K X.mg X.base (L2.CX X.prog X.w) k f fd ps sp) (m : Meth X.K C "__len__" f) (hr : Room (k + 1) X.A) (hb : Binds X.K fd ps []) :
    CallR X (.builtin "len") (rLenO C sp) := by
  intro ps' s σ H xs us R I r h
  obtain ⟨a, dx, fs, rfl, ea, h⟩ := h
  obtain rfl := Vals.ref1 r
  obtain ⟨_, O, _⟩ := ins_get I.hok ea
  obtain ⟨od, J, _⟩ := O.look
  obtain ⟨m', hF⟩ := I.fr
  refine PySem.W.len_K hF I.ok.mod.kin J m.at_ m.fn ?_
  have e0 : Env0 X.prog X.w X.K X.mg X.base X.A.in1 X.stack s H := I.env0.in1
  have hl := F.len _ _ _ _ h
  have r2 : Vals [.ref a] [.ref a] := (.cons (by rfl) .nil)
  refine wpAny_call (codeAny_mono (F.run X.A.in1 X.stack s H ⟨[.ref a], []⟩ [.ref a] [.ref a] _ E0 hr.in1 e0 (by
    have := hb s [.ref a] I.kIn (by simpa using hl)
    simpa using this) r2 h) fun r s' hq => ?_)
  cases r with
  | error e => exact passL ps' σ H s e s' I hq
  | ok fl =>
    cases fl with
    | ret w =>
      obtain ⟨z, H', I', rz, n, ez, h0, h1, q⟩ := I.after hq
      subst ez
      obtain ⟨t, rfl⟩ := rz
      exact ⟨⟨h0, h1⟩, ⟨.int n, H', I'.tok _, ⟨_, rfl⟩, q⟩⟩
    | next => exact False.elim hq
    | brk => exact False.elim hq
    | cont => exact False.elim hq
end
end U
namespace U
open PySem PySem.Spec PyProof.Rows L2

/-! ### promises kept where no text of a container is being made -/
structure FnG (P : Program) (w : World) (K : PySem.W.Frag) (mg : Str → Option Value) (base : Heap) (k : Nat) (f : Addr) (fd : FuncData) (ps : List Str) (sp : Sp) : Prop where
  len : ∀ (vs : List V) (H : Hp) (Q : VK) (E : XK), sp vs H Q E → vs.length = ps.length
  go : ∀ A : Around, A.guards = some [] → ∀ (outer : List Env) (s : Shared) (H : Hp) (ar : Args) (us : List Value) (vs : List V) (Q : VK) (E : XK),
    Room k A → Env0 P w K mg base A outer s H → BindsTo s fd ar (ps.zip us) → Vals vs us → sp vs H Q E → codeAny (model P w) A (.call (.ref f) ar) (CR (L2.CX P w) outer P w H s Q E) s
section
variable {P : Program} {w : World} {K : PySem.W.Frag} {mg : Str → Option Value} {base : Heap}
theorem FnG.of {k : Nat} {f : Addr} {fd : FuncData} {ps : List Str} {sp : Sp} (F : FnOk P w K mg base (L2.CX P w) k f fd ps sp) : FnG P w K mg base k f fd ps sp :=
  ⟨F.len, fun A _ outer s H ar us vs Q E r e b v q => F.run A outer s H ar us vs Q E r e b v q⟩
/-- a def by its body -/
theorem fnG_of {x qual : Str} {pa : Arguments} {bd : List Stmt} {sc : Scope} {f : Addr} {fd : FuncData} {N ps : List Str} {k : Nat} {sp : Sp} (F : FunD K x qual pa bd sc [] [] f fd) (S : FnScope N ps sc) (hlen : ∀ vs H Q E, sp vs H Q E → vs.length = ps.length)
    (hb : ∀ (cdv : Value) (A : Around) (outer : List Env) (s : Shared) (H : Hp) (vs : List V) (Q : VK) (E : XK), A.guards = some [] → Room k (A.deeper (envOfC qual sc s.heap.objs.size f cdv)) → sp vs H Q E →
      ∃ t, PSs (cxOf (L2.CX P w) P w K mg base N qual sc f cdv A outer s H E) bd t ∧ t { nx := fun _ H' => Q .non H', rt := Q } (start N vs) H) : FnG P w K mg base (k + 1) f fd ps sp := by
  obtain ⟨oc, od, dV, kV, doc, pm, an, cdv, ct, osl, hfd, hlk, hcode, _, _⟩ := F.ex
  subst hfd
  refine ⟨hlen, fun A hA outer s H ar us vs Q E room env bnd vls prom => ?_⟩
  have len1 := hlen _ _ _ _ prom
  have kin : K.In s.heap := e_kin env
  have nol : s.heap.NoLimit := env.mod.nolimit.keeps fun b o z => (env.bs b o z).1
  refine codeAny_call_function room.depth (kin _ _ hlk) rfl S.co S.gen rfl (PySem.W.codeRec_of kin hcode) (bnd _ _ _ _ ?_)
  refine wpAny_newFunctionEnv_cells S.kind (kinds_of S) fun en hen s1 ic => ?_
  cases hen
  refine ⟨nol.keeps ic.toInCall.keep, codeAny_func ?_⟩
  obtain ⟨t, der, rd⟩ := hb cdv A outer s H vs Q E hA (room.deeper _) prom
  have inv0 := inv_start (CX := L2.CX P w) (E := E) S room.hd env len1 vls ic
  refine wpAny_mono (der.run [] s1 (start N vs) H _ inv0 rd) (fun fl s' out => ?_) fun _ _ z => z
  match fl, out with
  | .ret u, ⟨v, σ', H', J, rv, q⟩ => exact ⟨v, H', J.os, J.bare, J.base, J.hok, rv, q⟩
  | .next, ⟨σ', H', J, q⟩ => exact ⟨.non, H', J.os, J.bare, J.base, J.hok, rfl, q⟩
  | .brk, ⟨_, _, _, q⟩ => exact q.elim
  | .cont, ⟨_, _, _, q⟩ => exact q.elim
where
  e_kin {A : Around} {outer : List Env} {s : Shared} {H : Hp} (env : Env0 P w K mg base A outer s H) : K.In s.heap := env.mod.kin.keeps fun b o z => (env.bs b o z).1
  kinds_of {N ps : List Str} {sc : Scope} (S : FnScope N ps sc) {n : Nat} {us : List Value} : ∀ y ∈ ps.zip us, sc.names.lookup y.1 = some .local ∨ (sc.names.lookup y.1 = some .cell ∧ ((cellsFrom n sc.names []).lookup y.1).isSome = true) :=
    fun y hy => (S.par y.1 (List.of_mem_zip (a := y.1) (b := y.2) hy).1).imp id fun q => ⟨q, PySem.W.cellsFrom_some _ _ _ (.inl q)⟩
end

/-! ### a def of the module under its name -/
structure Good (P : Program) (w : World) (K : PySem.W.Frag) (mg : Str → Option Value) (base : Heap) (k : Nat) (x : Str) (ps : List Str) (sp : Sp) : Prop where
  fn : ∃ fd, FnG P w K mg base k (He.ga K x) fd ps sp ∧ Binds K fd ps []
  mg : mg x = some (.ref (He.ga K x))
  kp : PySem.W.keepIn K (.ref (He.ga K x)) = true
/-- a method that asks no text of a container -/
structure GoodM (P : Program) (w : World) (K : PySem.W.Frag) (mg : Str → Option Value) (base : Heap) (k : Nat) (C m : Str) (ps : List Str) (sp : Sp) : Prop where
  fn : ∃ fd, FnOk P w K mg base (L2.CX P w) k (He.ma K (He.ga K C) m) fd ps sp ∧ Binds K fd ps []
  mt : Meth K (He.ga K C) m (He.ma K (He.ga K C) m)
  cl : Cls K (He.ga K C)
/-- f(..) -/
def tFn (sp : Sp) (E : XK) (t : TA) : TE := fun σ H Q => t σ H fun vs H1 => sp vs H1 Q E
section
variable {X : Cx} {k : Nat} {x m : Str} {ps : List Str} {sp : Sp} {E : XK} {p pos apos : Pos} {e o : Expr} {es : List Expr} {ta : TE} {t : TA}
theorem run_G {f : Addr} {fd : FuncData} {pins : List (Addr × Obj)} {σ : L2.St} {H : Hp} {s : Shared} {Q : VK} {us : List Value} {vs : List V} (F : FnG X.prog X.w X.K X.mg X.base k f fd ps sp) (hA : X.A.guards = some []) (hr : Room k X.A) (hb : Binds X.K fd ps [])
    (hx : Passes (L2.CX X.prog X.w) X E) (I : Inv X pins σ H s) (r : Vals vs us) (h : sp vs H Q E) : wpAny (model X.prog X.w) X.A (call (.ref f) us) (EP X pins σ Q) X.xe s := by
  have hl : (us ++ []).length = ps.length := by rw [List.append_nil, ← r.length]; exact F.len _ _ _ _ h
  have bb := hb s us I.kIn hl
  rw [List.append_nil] at bb
  refine wpAny_call (codeAny_mono (F.go X.A hA X.stack s H ⟨us, []⟩ us vs Q E hr I.env0 bb r h) fun res s' out => ?_)
  match res, out with
  | .error er, out => exact hx pins σ H s er s' I out
  | .ok (.ret u), out => exact I.after out
  | .ok .next, out => exact False.elim out
  | .ok .brk, out => exact False.elim out
  | .ok .cont, out => exact False.elim out
theorem pe_fn (g : Good X.prog X.w X.K X.mg X.base k x ps sp) (hA : X.A.guards = some []) (hr : Room k X.A) (hg : Gl X x) (hx : Passes (L2.CX X.prog X.w) X E)
    (hpl : (backTo pos (starEach es X.env)).any (·.1) = false := by rfl) (he : starEach (e :: es) X.env = (false, eval e X.env) :: starEach es X.env := by rfl) (ha : PA X (e :: es) t)
    (hdb : (x == ("__debug__" : Str)) = false := by decide) :
    PE X (.Call (.Name x p) (e :: es) [] pos) (tFn sp E t) := by
  obtain ⟨fd, F, hb⟩ := g.fn
  refine ⟨fun pins s σ H Q I h => ?_⟩
  refine wpAny_Call_Name_kw (ld_glob I hg g.mg ?_ hdb)
  exact PySem.W.callWith_K (h₀ := X.base) I.ok.mod.kin g.kp (thn (ha.run pos pins s σ H _ I h) fun us s1 z => by
    obtain ⟨vs, H1, I1, r, q⟩ := z
    exact ⟨I1.kIn, run_G F hA hr hb hx I1 r q⟩) he hpl
theorem pe_fn0 (g : Good X.prog X.w X.K X.mg X.base k x ps sp) (hA : X.A.guards = some []) (hr : Room k X.A) (hg : Gl X x) (hx : Passes (L2.CX X.prog X.w) X E)
    (hdb : (x == ("__debug__" : Str)) = false := by decide) : PE X (.Call (.Name x p) [] [] pos) (tFn sp E tNil) := by
  obtain ⟨fd, F, hb⟩ := g.fn
  refine ⟨fun pins s σ H Q I h => ?_⟩
  refine wpAny_Call_Name_kw (ld_glob I hg g.mg ?_ hdb)
  exact PySem.W.callWith_K0 I.kIn g.kp (run_G (us := []) F hA hr hb hx I .nil h)
end

/-! ### a law's end -/
section
variable {P : Program} {w : World} {K : PySem.W.Frag} {mg mb : Str → Option Value} {k : Nat} {fa a : Addr} {fd : FuncData} {x : Str} {sp : Sp} {s1 : Shared} {vs : List Value} {ns : List Int}
/-- the script alone is tracked, locked, or nothing is -/
def One (a : Addr) (o : Obj) (xs : List V) (H : Hp) : Prop := ∀ b, H b = none ∨ (b = a ∧ H b = some (.frz o (.lst xs)))
theorem end_from (H : Hp) (o : Obj) (ho : s1.heap.get? a = some o) (hod : ∃ its n, o.data = .seq its n) (one : One a o (ns.map V.int) H) (hK : H a ≠ none → K.lookup a = none) (hok : HOk P w H s1.heap)
    (KX : K.In s1.heap) (hns : s1.heap.Ns mainGlobals mg) (hb : s1.heap.Ns builtinsNs mb) (hbb : ∀ x : Str, x ≠ "__name__" → mb x = bootBuiltins x) (hlim : s1.heap.NoLimit) (hg : s1.gens = #[]) (hr : Room k callerA)
    (F : ∀ base : Heap, K.In base → base.Ns mainGlobals mg → FnG P w K mg base k fa fd [x] sp) (hbind : ∀ (s : Shared) (u : Value), BindsTo s fd ⟨[u], []⟩ [(x, u)])
    (hsp : sp [.ref a] H (fun v _ => v = .bl true) fun _ _ _ => False) :
    codeAny (model P w) callerA (.call (.ref fa) ⟨[.ref a], []⟩) (fun r s' => r = .ok (.ret (.bool true)) ∧ OldK s1.heap s'.heap ∧ s'.os = s1.os ∧ AllBare s'.gens) s1 := by
  have only_a : ∀ b, b ≠ a → H b = none := fun b hb => (one b).elim id fun z => absurd z.1 hb
  have dict_free : ∀ b ob es ep, s1.heap.get? b = some ob → ob.data = .dict es ep → H b = none := fun b ob es ep e d => by
    by_cases q : b = a
    · obtain ⟨its, n, hd⟩ := hod
      rw [q, ho] at e
      rw [← Option.some.inj e, hd] at d
      cases d
    · exact only_a b q
  have ns_low : ∀ b (m : Str → Option Value), s1.heap.Ns b m → (hidT s1.heap H).Ns b m := fun b m z => by
    obtain ⟨ob, es, ep, e, d, r⟩ := z
    exact ⟨ob, es, ep, hidT_get e (dict_free b ob es ep e d), d, r⟩
  have k_low : K.In (hidT s1.heap H) := fun b ob e => by
    refine hidT_get (KX b ob e) ?_
    by_cases q : b = a
    · cases z : H b with
      | none => rfl
      | some u =>
        have y := hK (by rw [← q, z]; simp)
        rw [q, y] at e
        cases e
    · exact only_a b q
  obtain ⟨mc, l1, l2⟩ := hlim
  have md : Mod K mg (hidT s1.heap H) := ⟨k_low, ns_low _ _ hns, ⟨mb, ns_low _ _ hb, hbb⟩, ⟨mc, ns_low _ _ l1, l2⟩⟩
  have env : Env0 P w K mg (hidT s1.heap H) callerA [] s1 H :=
    { frames := rfl, mod := md, bs := fun b ob e => of_hidT e, bsz := Nat.le_of_eq (hidT_size _ _), funs := trivial, frf := fun b z => absurd z (by simp [frs]), hok := hok, bare := .of_eq hg }
  refine codeAny_mono ((F _ k_low (ns_low _ _ hns)).go callerA rfl [] s1 H ⟨[.ref a], []⟩ [.ref a] [.ref a] _ _ hr env (hbind s1 (.ref a)) (.cons rfl .nil) hsp) fun res s' out => ?_
  match res, out with
  | .error er, out =>
    obtain ⟨_, _, _, _, _, _, _, _, _, _, _, _, z⟩ := out
    exact z.elim
  | .ok .next, out => exact False.elim out
  | .ok .brk, out => exact False.elim out
  | .ok .cont, out => exact False.elim out
  | .ok (.ret u), out =>
    obtain ⟨v, H', eos, bare, un, hok', rv, ev⟩ := out
    have ev' : v = .bl true := ev
    subst ev'
    have eu : u = Value.bool true := rv
    refine ⟨by rw [eu], OldK.of_keep fun b ob e => ?_, eos, bare⟩
    rcases one b with q | ⟨q, z⟩
    · exact un.keep b ob e q (by simp [frs]) (by simp)
    · have z2 := un.frzs b _ _ z
      have y1 := (hok' b _ z2).1
      have y2 := (hok b _ z).1
      rw [← y2.symm.trans e |> Option.some.inj]
      exact y1
theorem end_G (KX : K.In s1.heap) (hns : s1.heap.Ns mainGlobals mg) (hb : s1.heap.Ns builtinsNs mb) (hbb : ∀ x : Str, x ≠ "__name__" → mb x = bootBuiltins x) (hlim : s1.heap.NoLimit) (hg : s1.gens = #[])
    (ha : s1.heap.get? a = some { cls := .type "list", data := .seq vs.toArray }) (hi : IntsAre vs ns) (hl : ns.length ≤ sizeLine) (hr : Room k callerA)
    (F : ∀ base : Heap, K.In base → base.Ns mainGlobals mg → FnG P w K mg base k fa fd [x] sp) (hbind : ∀ (s : Shared) (u : Value), BindsTo s fd ⟨[u], []⟩ [(x, u)])
    (hsp : ∀ H : Hp, (∀ b, H b = none ∨ ∃ o xs, H b = some (.frz o (.lst xs))) → SqL K H a (ns.map V.int) → sp [.ref a] H (fun v _ => v = .bl true) fun _ _ _ => False) :
    codeAny (model P w) callerA (.call (.ref fa) ⟨[.ref a], []⟩) (fun r s' => r = .ok (.ret (.bool true)) ∧ OldK s1.heap s'.heap ∧ s'.os = s1.os ∧ AllBare s'.gens) s1 := by
  have vv := vals_ints hi
  have ll := hi.length
  cases q : K.lookup a with
  | none =>
    have at_a : (fun b => if b = a then some (HO.frz { cls := .type "list", data := .seq vs.toArray } (.lst (ns.map V.int))) else none : Hp) a = some (.frz { cls := .type "list", data := .seq vs.toArray } (.lst (ns.map V.int))) := if_pos rfl
    have one : One a { cls := .type "list", data := .seq vs.toArray } (ns.map V.int) (fun b => if b = a then some (HO.frz { cls := .type "list", data := .seq vs.toArray } (.lst (ns.map V.int))) else none) := fun b => by
      by_cases e : b = a
      · exact .inr ⟨e, if_pos e⟩
      · exact .inl (if_neg e)
    refine end_from _ _ ha ⟨_, _, rfl⟩ one (fun _ => q) (fun b u z => ?_) KX hns hb hbb hlim hg hr F hbind (hsp _ (fun b => (one b).imp id fun z => ⟨_, _, z.2⟩) (.inl (.inr ⟨_, at_a⟩)))
    rcases one b with y | ⟨e, y⟩
    · cases y.symm.trans z
    · cases y.symm.trans z
      subst e
      exact ⟨ha, by rw [List.length_map]; exact hl, vs, _, vv, ha⟩
  | some ob =>
    have e := (KX a ob q).symm.trans ha
    have e2 := Option.some.inj e
    subst e2
    refine end_from (ns := ns) (fun _ => none) _ ha ⟨_, _, rfl⟩ (fun _ => .inl rfl) (fun z => absurd rfl z) (fun b u z => by cases z) KX hns hb hbb hlim hg hr F hbind
      (hsp _ (fun _ => .inl rfl) (.inr ⟨_, vs.toArray, _, q, rfl, rfl, rfl, by rw [List.size_toArray, ll]; exact hl, by simpa using vv⟩))
end
/-- a law from its head's facts, its def's promise kept where no text is under way -/
structure Owed (P : Program) (w : World) (h : Heap) (mg : Str → Option Value) (fa : Addr) (n k : Nat) (x : Str) : Prop where
  own : ∃ (K : PySem.W.Frag) (sp : Sp) (fd : FuncData), (∀ (s : Shared) (v : Value), BindsTo s fd ⟨[v], []⟩ [(x, v)]) ∧ K.In h ∧ (∀ base : Heap, K.In base → base.Ns mainGlobals mg → FnG P w K mg base k fa fd [x] sp) ∧
    ∀ (H : Hp) (a : Addr) (ns : List Int), ns.length ≤ n → (∀ z ∈ ns, Builtin.Int.intBits z ≤ 1048576) → SqL K H a (ns.map V.int) → sp [.ref a] H (fun v _ => v = .bl true) fun _ _ _ => False
theorem walk_G {l : PySem.W.OpenLaw} {n k : Nat} {q : Program} {loose : List Str} {XP : (Str → Option Value) → Heap → Prop} {YP : World → Heap → Prop} {d : DefRec} {x : Str} (room : Room k callerA) (most : l.most = some n) (fits : n ≤ sizeLine) (nodef : d.params.defaults = [])
    (owed : ∀ (w : World) (mg : Str → Option Value) (fa : Addr) (h : Heap), mg d.name = some (.ref fa) → YP w h → h.Ns mainGlobals mg → Owed l.prog w h mg fa n k x) : PySem.W.WalkO q loose XP YP l.row.toRowW d [] fun f vs => PySem.call f vs := by
  refine Att.attach_callB most nodef fun w s0 s1 mg mb fa o pm cd doc a vs ns G Y ho hd hcd named hobj hints hlen hbits hg => ?_
  obtain ⟨K, sp, fd, binds, kin, keeps, asks⟩ := (owed w mg fa _ named Y G.T.g).own
  exact end_G kin G.T.g G.T.b G.T.builtins G.T.nolimit hg hobj hints (Nat.le_trans hlen fits) room keeps binds fun H _ hS => asks H a ns hlen hbits hS
end U
namespace U
open PySem PySem.Spec PyProof.Rows L2

section
variable {X : Cx} {p pos apos : Pos} {e o : Expr} {es : List Expr} {t ta : TA} {te : TE}
/-! ### module constants -/
theorem pe_int_of {x : Str} {i : Int} (hg : Gl X x) (h : ∃ t, X.mg x = some (.int i t)) (hd : (x == ("__debug__" : Str)) = false := by decide) : PE X (.Name x pos) (tC (.int i)) := by
  obtain ⟨t, h⟩ := h
  exact pe_glob hg h ⟨t, rfl⟩ hd
theorem pe_str_of {x z : Str} (hg : Gl X x) (h : ∃ t, X.mg x = some (.str z t)) (hd : (x == ("__debug__" : Str)) = false := by decide) : PE X (.Name x pos) (tC (.str z)) := by
  obtain ⟨t, h⟩ := h
  exact pe_glob hg h ⟨t, rfl⟩ hd
/-! ### objects of one's own class -/
theorem pe_mk {k : Nat} {x : Str} {ps : List Str} {sp : Sp} {E : XK} (g : GoodM X.prog X.w X.K X.mg X.base k x "__init__" ps sp) (M : Mk X.K (He.ga X.K x) (He.ma X.K (He.ga X.K x) "__init__")) (hm : X.mg x = some (.ref (He.ga X.K x))) (hr : Room (k + 1) X.A) (hg : Gl X x) (hx : Passes (L2.CX X.prog X.w) X E)
    (hpl : (backTo pos (starEach es X.env)).any (·.1) = false := by rfl) (he : starEach (e :: es) X.env = (false, eval e X.env) :: starEach es X.env := by rfl) (ha : PA X (e :: es) t)
    (hdb : (x == ("__debug__" : Str)) = false := by decide) :
    PE X (.Call (.Name x p) (e :: es) [] pos) (tMake (He.ga X.K x) sp [] E t) := by
  obtain ⟨fd, F, hb⟩ := g.fn
  exact pe_make M F hr hg hm hb .nil hx ha hdb he hpl
theorem pe_lenY {k : Nat} {C : Str} {ps : List Str} {sp : Sp} (g : GoodM X.prog X.w X.K X.mg X.base k C "__len__" ps sp) (hr : Room (k + 1) X.A) (hg : Gl X "len") (hm : X.mg "len" = none) (ha : PA X [e] t)
    (he : starEach [e] X.env = [(false, eval e X.env)] := by rfl) : PE X (.Call (.Name "len" p) [e] [] pos) (tCB (rLenO (He.ga X.K C) sp) t) := by
  obtain ⟨fd, F, hb⟩ := g.fn
  exact pe_callB (es := []) (call_lenO F g.mt hr hb) hg hm boot_len ha (he := he)
/-! ### built-ins under short names -/
def uMax2 : List V → Hp → VK → Prop := fun xs H Q => ∃ i j, xs = [.int i, .int j] ∧ Q (.int (if j > i then j else i)) H
def uMin2 : List V → Hp → VK → Prop := fun xs H Q => ∃ i j, xs = [.int i, .int j] ∧ Q (.int (if j < i then j else i)) H
def rDivmod : List V → Hp → VK → Prop := fun xs H Q => ∃ i j, xs = [.int i, .int j] ∧ CDiv i j ∧ ∀ p, H p = none → Q (.ref p) (upd H p (.tup [.int (i / j), .int (i % j)]))
def rInt : List V → Hp → VK → Prop := fun xs H Q => (∃ i, xs = [.int i] ∧ Q (.int i) H) ∨ ∃ k, xs = [.bl k] ∧ Q (.int (if k then 1 else 0)) H
def rStrI : List V → Hp → VK → Prop := fun xs H Q => ∃ i, xs = [.int i] ∧ i.natAbs.log2 < 1920 ∧ Q (.str (toString i)) H
/-! ### the text of a value -/
def uRepr (K : PySem.W.Frag) : List V → Hp → VK → Prop := fun xs H Q => match xs with
  | [.int i] => i.natAbs.log2 < 1920 ∧ Q (.str (toString i)) H
  | [.non] => Q (.str "None") H
  | [.bl b] => Q (.str (if b then "True" else "False")) H
  | [.str z] => (reprText z).length ≤ sizeLine ∧ Q (.str (reprText z)) H
  | [.ref a] => ∃ d, Dp K H (.ref a) d ∧ d.showable = true ∧ d.hasDict = false ∧ d.depth ≤ 60 ∧ d.shown.length ≤ sizeLine ∧ Q (.str d.shown) H
  | _ => False
theorem call_uRepr (hA : X.A.guards = some []) (hu : X.A.units + 64 < cLine) : CallR X (.builtin "repr") (uRepr X.K) := by
  intro ps s σ H xs us R I r h
  match xs, h with
  | [.int i], h =>
    obtain ⟨_, rfl, t, rfl⟩ := vals1 r
    exact PySem.P.repr_of_int h.1 ⟨.str _, H, I.tok _, ⟨_, rfl⟩, h.2⟩
  | [.non], h =>
    obtain ⟨_, rfl, same⟩ := vals1 r
    cases same
    exact PySem.P.repr_of_none ⟨.str _, H, I.tok _, ⟨_, rfl⟩, h⟩
  | [.bl b], h =>
    obtain ⟨_, rfl, same⟩ := vals1 r
    cases same
    refine PySem.P.repr_of_bool ⟨.str _, H, I.tok _, ⟨s.toks, ?_⟩, h⟩
    cases b <;> rfl
  | [.str z], h =>
    obtain ⟨_, rfl, t, rfl⟩ := vals1 r
    exact PySem.P.repr_of_str ⟨.str _, H, I.tok _, ⟨_, rfl⟩, h.2⟩ h.1
  | [.ref a], h =>
    obtain ⟨_, rfl, same⟩ := vals1 r
    cases same
    obtain ⟨d, hd, hs, hn, hz, hl, q⟩ := h
    obtain ⟨as, rr⟩ := Dp.reads I d (.ref a) (.ref a) hd rfl
    exact repr_of_reads' rr hs (fun z => by rw [hn] at z; cases z) hA (by omega) (fun _ _ z => z) (fun h' u tk k => ⟨.str _, H, I.kept (t' := tk) k, ⟨_, rfl⟩, q⟩) hl
/-! ### methods of texts -/
def rSIdx : V → List V → Hp → VK → Prop := fun x xs H Q => ∃ (a b : Str) (k : Nat), x = .str a ∧ xs = [.str b] ∧ Txt.index0 a b = some k ∧ Q (.int (k : Nat)) H
theorem mt_sidx : MtR X "str.index" rSIdx := by
  intro ps s σ H x xs v us R I rx rs h
  obtain ⟨a, b, k, rfl, rfl, hk, q⟩ := h
  obtain ⟨t, rfl⟩ := rx
  obtain ⟨u, rfl, t', rfl⟩ := vals1 rs
  unfold Txt.index0 at hk
  generalize e : Builtin.Str.occurrences a b 0 a.length 1 = oc at hk
  match oc, e, hk with
  | i :: rest, e, hk =>
    have hk2 : i = k := Option.some.inj hk
    subst hk2
    exact PySem.SC.index e ⟨.int (i : Nat), H, I.tok _, ⟨_, rfl⟩, q⟩
def rTIdx (K : PySem.W.Frag) : V → List V → Hp → VK → Prop := fun x xs H Q => ∃ p, ∃ ys : List Str, ∃ z j, x = .ref p ∧ xs = [.str z] ∧ SqT K H p (ys.map V.str) ∧ ys[j]? = some z ∧ (∀ m, m < j → ys[m]? ≠ some z) ∧ Q (.int (j : Nat)) H
theorem mt_tidx : MtR X "tuple.index" (rTIdx X.K) := mt_tup_index
def rUpper : V → List V → Hp → VK → Prop := fun x xs H Q => ∃ a, x = .str a ∧ xs = [] ∧ a.length ≤ 5592405 ∧ Q (.str (Txt.upper a)) H
def rJoin (K : PySem.W.Frag) : V → List V → Hp → VK → Prop := fun x xs H Q => ∃ a p, ∃ ys : List Str, x = .str a ∧ xs = [.ref p] ∧ (SqL K H p (ys.map V.str) ∨ SqT K H p (ys.map V.str)) ∧ (ys.map (·.length)).sum + ys.length * a.length ≤ 16777216 ∧ Q (.str (Txt.join a ys)) H
/-- sep.join(e), one argument: told over the argument list -/
def tJoin (K : PySem.W.Frag) (to : TE) (te : TE) : TE := tM1 (rJoin K) to te
theorem pe_joinU (ho : PE X o te) {td : TE} (he : PE X e td) (hs : starEach [e] X.env = [(false, eval e X.env)] := by rfl) (hbase : attributeBase o "join" X.env (eval o X.env) = eval o X.env := by rfl) (hline : (apos.endLine == pos.line) = true := by rfl) :
    PE X (.Call (.Attribute o "join" apos) [e] [] pos) (tJoin X.K te td) := pe_join ho he hs hbase hline
theorem pe_upperU (ho : PE X o te) (hbase : attributeBase o "upper" X.env (eval o X.env) = eval o X.env := by rfl) (hline : (apos.endLine == pos.line) = true := by rfl) :
    PE X (.Call (.Attribute o "upper" apos) [] [] pos) (tM0 rUpper te) := pe_upper ho hbase hline
/-! ### list(..), tuple(..) -/
def strL (z : Str) : List V := z.cps.toList.map fun c => .str ⟨#[c]⟩
def uLst (K : PySem.W.Frag) : List V → Hp → VK → Prop := fun xs H Q => match xs with
  | [.ref p] => ∃ ys, (SqL K H p ys ∨ SqT K H p ys) ∧ ∀ l, H l = none → Q (.ref l) (upd H l (.lst ys))
  | [.str z] => z.length ≤ 100000 ∧ ∀ l, H l = none → Q (.ref l) (upd H l (.lst (strL z)))
  | _ => False
theorem vals_signs {z : Str} {acc : Array Value} (h : ItemsOf (SignAt z) acc z.cps.size) : Vals (strL z) acc.toList := by
  refine vals_of_at ?_ fun j x u hx hu => ?_
  · unfold strL
    rw [List.length_map, Array.length_toList, Array.length_toList, h.1]
  · unfold strL at hx
    rw [List.getElem?_map] at hx
    obtain ⟨c, hc, rfl⟩ := Option.map_eq_some_iff.mp hx
    obtain ⟨c', u', h1, h2⟩ := h.2 j u (by rw [← Array.getElem?_toList]; exact hu)
    rw [Array.getElem?_toList, h1] at hc
    cases hc
    exact ⟨u', h2⟩
theorem call_uLst (hc : X.calm = true) : CallR X (.type "list") (uLst X.K) := by
  intro ps s σ H xs us R I r h
  match xs, h with
  | [.ref p], ⟨ys, hs, q⟩ => exact call_list_of ps s σ H _ us R I r ⟨p, ys, rfl, hs, q⟩
  | [.str z], ⟨hz, q⟩ =>
    obtain ⟨_, rfl, t, rfl⟩ := vals1 r
    have hs := sizeLine_eq
    have hz' : z.cps.size ≤ 100000 := hz
    refine PySem.call_list_str (I.ok.hd hc) z t (fun h' tk acc c kp e it => ?_) (by omega)
    refine ⟨.ref s.heap.objs.size, _, I.laid (t' := tk) kp (Nat.le_refl _) (show ObjOk X.prog X.w _ h' _ (.lst (strL z)) from ⟨?_, acc.toList, c, vals_signs it, e⟩), rfl, q _ (I.hok.fresh (Nat.le_refl _))⟩
    unfold strL
    simp only [List.length_map, Array.length_toList]
    omega
def uTup (K : PySem.W.Frag) : List V → Hp → VK → Prop := fun xs H Q => match xs with
  | [.ref p] => ∃ ys, (SqL K H p ys ∧ ∀ l, H l = none → Q (.ref l) (upd H l (.tup ys))) ∨ (SqT K H p ys ∧ Q (.ref p) H)
  | [.str z] => z.length ≤ 100000 ∧ ∀ l, H l = none → Q (.ref l) (upd H l (.tup (strL z)))
  | _ => False
theorem call_uTup (hc : X.calm = true) : CallR X (.type "tuple") (uTup X.K) := by
  intro ps s σ H xs us R I r h
  match xs, h with
  | [.ref p], ⟨ys, h⟩ => exact call_tuple_of ps s σ H _ us R I r ⟨p, ys, rfl, h⟩
  | [.str z], ⟨hz, q⟩ =>
    obtain ⟨_, rfl, t, rfl⟩ := vals1 r
    have hs := sizeLine_eq
    have hz' : z.cps.size ≤ 100000 := hz
    refine PySem.call_tuple_str (I.ok.hd hc) z t (fun h' tk acc kp it => ?_) (by omega)
    have I1 := I.kept (h' := h') (t' := s.toks) kp
    have I2 : Inv X ps σ (upd H h'.objs.size (.tup (strL z))) { s with heap := h'.push { cls := .type "tuple", data := .seq acc }, toks := tk } :=
      I1.laid (t' := tk) (fun b o e => Heap.get?_push_of_some _ e) (Nat.le_refl _) (show ObjOk X.prog X.w _ _ _ (.tup (strL z)) from ⟨by
        unfold strL
        simp only [List.length_map, Array.length_toList]
        omega, acc.toList, vals_signs it, IsTup.new _ _⟩)
    refine ⟨.ref h'.objs.size, _, I2, rfl, ?_⟩
    exact q _ (I1.hok.fresh (Nat.le_refl _))
/-! ### what a for walks: a list or a tuple -/
def iSeq (K : PySem.W.Frag) (tl : TE) : TI := fun σ H R => iList K tl σ H R ∨ iTup K tl σ H R
theorem pi_seq {tg l : Expr} {tl : TE} (hl : PE X l tl) : PI X tg l (iSeq X.K tl) := by
  refine .mk ?_
  intro pins s σ H R I h
  rcases h with h | h
  · exact (pi_list hl).run pins s σ H R I h
  · exact (pi_tup hl).run pins s σ H R I h
def tTruth (K : PySem.W.Frag) (ta : TE) : TT := fun σ H Q => ta σ H fun x H' => ∃ k, TruV K x H' k ∧ Q k H'

end
end U
namespace U
open PySem PySem.Spec PyProof.Rows L2

/-! ### enumerate(text) -/
def IteS (z : Str) : It :=
  ⟨fun i _ => i < z.cps.size, fun i H v H' => ∃ T c, v = .ref T ∧ H T = none ∧ z.cps[i]? = some c ∧ H' = upd H T (.tup [.int (i : Nat), .str ⟨#[c]⟩]), fun i _ => i = z.cps.size⟩
/-- the text's own iterator at it, at its i-th sign -/
def SIt (it : Addr) (z : Str) (t : Tok) (i : Nat) (h : Heap) : Prop := h.IsStrIter it (strIterType z) z t i
theorem draws_str {P : Program} {w : World} {A : Around} (hh : A.handled = none) (it : Addr) (z : Str) (t : Tok) :
    Draws P w A it [it] z.cps.size (fun i v => ∃ c u, z.cps[i]? = some c ∧ v = .str ⟨#[c]⟩ u) (SIt it z t) := by
  unfold SIt strIterType
  split
  · exact Draws.strAscii hh it z t
  · exact Draws.strWide hh it z t
theorem turn_enumS {P : Program} {w : World} {K : PySem.W.Frag} {el : List Expr} {kk : Nat} {tp : Pos} (z : Str) (t : Tok) (e it : Addr) :
    Turn P w K (.Tuple el kk tp) (IteS z) [e, it] e (fun i h => (∃ old, IsEnum h e it ((i : Nat) : Int) old) ∧ SIt it z t i h ∧ e ≠ it) where
  mem := by simp
  obj := fun i h st b hb => by
    obtain ⟨⟨last, he⟩, itr, _⟩ := st
    obtain ⟨o, ho, hc, hd⟩ := itr
    rcases (show b = e ∨ b = it by simpa using hb) with q | q
    · subst q
      exact ⟨_, he, fun v q => nomatch q⟩
    · subst q
      exact ⟨o, ho, fun v q => by rw [hd] at q; cases q⟩
  keep := fun i h h' st k => by
    obtain ⟨⟨old, he⟩, ⟨o, ho, r⟩, ne⟩ := st
    exact ⟨⟨old, k e (by simp) _ he⟩, ⟨o, k it (by simp) o ho, r⟩, ne⟩
  item := by
    intro X hP hw hK hc
    intro i pins s σ H E I hf st hg
    subst hP hw hK
    obtain ⟨⟨old, he⟩, hit, ne⟩ := st
    have le := Heap.lt_size he
    have li : it < s.heap.objs.size := by
      obtain ⟨_, q, _⟩ := id hit
      exact Heap.lt_size q
    refine wpAny_pyNext_enum_itemD (draws_str (A := X.A.in1) (I.ok.hd hc) it z t) he hit hg ne (by simpa using ne) fun x h1 tk hx ho hit1 hT hz1 k1 => ?_
    obtain ⟨c, u, hcz, rfl⟩ := hx
    refine ⟨_, rfl, wpAny_letOwnedTupleGo_enum (s := { s with heap := h1, toks := tk + 1 }) ho fun h2 he2 sb => ?_⟩
    have T2 : h2.get? s.heap.objs.size = some { cls := .type "tuple", data := .seq #[.int i tk, .str ⟨#[c]⟩ u] } := (sb.2 _ (Nat.ne_of_gt le)).trans hT
    have new : ObjOk X.prog X.w (upd H s.heap.objs.size (.tup [.int (i : Nat), .str ⟨#[c]⟩])) h2 s.heap.objs.size (.tup [.int (i : Nat), .str ⟨#[c]⟩]) :=
      ⟨by show 2 ≤ sizeLine; decide, [.int i tk, .str ⟨#[c]⟩ u], .cons ⟨_, rfl⟩ (.cons ⟨_, rfl⟩ .nil), ⟨_, T2, rfl, _, rfl⟩⟩
    have I1 : Inv X pins σ (upd H s.heap.objs.size (.tup [.int (i : Nat), .str ⟨#[c]⟩])) { s with heap := h2, toks := tk + 1 } :=
      I.turnedNew (ch := [e, it]) (fun b ob hb q => (sb.2 b (fun y => hb (by simp [y]))).trans (k1 b ob (fun y => hb (by simp [y])) (fun y => hb (by simp [y])) q)) hf (Nat.le_refl _) new
    refine ⟨.ref s.heap.objs.size, _, I1, rfl, ⟨_, c, rfl, I.hok.fresh (Nat.le_refl _), hcz, rfl⟩, ⟨⟨.str ⟨#[c]⟩ u, ?_⟩, ?_, ne⟩, fun b hb => ?_⟩
    · rw [show ((i + 1 : Nat) : Int) = i + 1 by omega]
      exact he2
    · obtain ⟨o, q1, q2⟩ := hit1
      exact ⟨o, (sb.2 it (Ne.symm ne)).trans q1, q2⟩
    · have below : b < s.heap.objs.size := by
        rcases (show b = e ∨ b = it by simpa using hb) with q | q
        · rw [q]; exact le
        · rw [q]; exact li
      rw [upd_ne (Nat.ne_of_lt below)]
      exact (hf b hb).1
  done := by
    intro X hP hw hK hc
    intro i pins s σ H E I hf st hg
    subst hP hw hK
    obtain ⟨⟨old, he⟩, hit, ne⟩ := st
    obtain ⟨f0, f1, _, f3, f4, f5⟩ := hf it (by simp)
    have hi : i = z.cps.size := hg
    subst hi
    exact wpAny_pyNext_enum_endD (draws_str (A := X.A.in1) (I.ok.hd hc) it z t) he hit fun h' eb => ⟨rfl, I.turned (t' := s.toks) (fun b o hb q => eb b o hb q) f0 f1 f3 f4 f5⟩
  self := fun _ _ _ _ _ st h => by
    obtain ⟨⟨_, he⟩, _⟩ := st
    exact wpAny_pyIter_enum he h

def iEnumS (ta : TA) : TI := fun σ H R => ta σ H fun vs H1 => ∃ z, vs = [.str z] ∧ R (IteS z) H1
theorem pi_enumS {X : Cx} {e : Expr} {ta : TA} {p pos tpos : Pos} {elts : List Expr} {kk : Nat} (hg : Gl X "enumerate") (hm : X.mg "enumerate" = none) (ha : PA X [e] ta) (hs : starEach [e] X.env = [(false, eval e X.env)] := by rfl) :
    PI X (.Tuple elts kk tpos) (.Call (.Name "enumerate" p) [e] [] pos) (iEnumS ta) := by
  refine .mk ?_
  intro pins s σ H R I h
  refine Call_ (ld_blt I hg hm boot_enumerate (PyProof.Rows.callWith_type1 (thn (ha.run pos pins s σ H _ I h) fun us s1 z => ?_) hs rfl))
  obtain ⟨vs, H1, I1, r1, z, ex, q⟩ := z
  subst ex
  obtain ⟨u, rfl, t, rfl⟩ := vals1 r1
  refine PySem.call_enumerate_str fun h' he hit hsz hk => wpAny_pyIter_enum he ?_
  have I2 : Inv X pins σ H1 { s1 with heap := h' } := by
    exact I1.kept (t' := s1.toks) hk
  refine ⟨s1.heap.objs.size + 1, [s1.heap.objs.size + 1, s1.heap.objs.size], _, _, H1, rfl, I2, turn_enumS z t (s1.heap.objs.size + 1) s1.heap.objs.size, ⟨⟨.none, he⟩, hit, Nat.succ_ne_self _⟩, fun b hb => ?_, q⟩
  have hb2 : s1.heap.objs.size ≤ b := by
    rcases (show b = s1.heap.objs.size + 1 ∨ b = s1.heap.objs.size by simpa using hb) with q | q
    · exact q ▸ Nat.le_succ _
    · exact q ▸ Nat.le_refl _
  exact I1.fpOk hb2 (I1.hok.fresh hb2)
def iEnumU (K : PySem.W.Frag) (ta : TA) : TI := fun σ H R => iEnum K ta σ H R ∨ iEnumS ta σ H R
theorem pi_enumU {X : Cx} {e : Expr} {ta : TA} {p pos tpos : Pos} {elts : List Expr} {kk : Nat} (hg : Gl X "enumerate") (hm : X.mg "enumerate" = none) (ha : PA X [e] ta) (hs : starEach [e] X.env = [(false, eval e X.env)] := by rfl) :
    PI X (.Tuple elts kk tpos) (.Call (.Name "enumerate" p) [e] [] pos) (iEnumU X.K ta) := by
  refine .mk ?_
  intro pins s σ H R I h
  rcases h with h | h
  · exact (pi_enum hg hm ha hs).run pins s σ H R I h
  · exact (pi_enumS hg hm ha hs).run pins s σ H R I h
/-! ### comprehensions and loops, seen from their turns -/
/-- what an element does to the list under way at D -/
def Snoc (D : Addr) (N : Hp → Prop) : VK := fun y H => ∃ acc : List V, H D = some (.lst acc) ∧ acc.length < sizeLine ∧ N (upd H D (.lst (acc ++ [y])))
/-- one turn of a comprehension -/
def lcT (g : TG) (tt : TT) (te : TE) (vs : List Nat) (σ : L2.St) (D : Addr) (N : Hp → Prop) (x : V) (H : Hp) : Prop :=
  g x (wipe σ vs) H fun τ H2 => wipe τ vs = wipe σ vs ∧ tt τ H2 fun b H3 => if b = true then te τ H3 (Snoc D N) else N H3
/-- turns of an iterator to its end: B x H N is a turn behind which N holds -/
def Laps (J : It) (H0 : Hp) (fin : Hp → Prop) (B : V → Hp → (Hp → Prop) → Prop) : Prop :=
  ∃ W : Nat → Nat → Hp → Prop, (∃ m, W 0 m H0) ∧ ∀ (i m : Nat) (H : Hp), W i m H →
    (J.stop i H ∧ fin H) ∨ (J.go i H ∧ ∃ N : Hp → Prop, (∀ H', N H' → ∃ l, l < m ∧ W (i + 1) l H') ∧ ∀ x H', J.yld i H x H' → B x H' N)
def LcB (J : It) (g : TG) (tt : TT) (te : TE) (vs : List Nat) (σ : L2.St) (H : Hp) (D : Addr) (fin : Hp → Prop) : Prop :=
  Laps J (upd H D (.lst [])) fin fun x H' N => lcT g tt te vs σ D N x H'
/-- a comprehension over such pairs: Pv by the turn and the heap -/
theorem lc_enumS {z : Str} {g : TG} {tt : TT} {te : TE} {vs : List Nat} {σ : L2.St} {H1 : Hp} {D : Addr} {Qd : Hp → Prop} (Pv : Nat → Hp → Prop) (h0 : Pv 0 (upd H1 D (.lst [])))
    (hs : ∀ i c H T, z.cps[i]? = some c → Pv i H → H T = none → lcT g tt te vs σ D (Pv (i + 1)) (.ref T) (upd H T (.tup [.int (i : Nat), .str ⟨#[c]⟩])))
    (hd : ∀ H, Pv z.cps.size H → Qd H) : LcB (IteS z) g tt te vs σ H1 D Qd := by
  refine ⟨fun i m H => m = z.cps.size - i ∧ i ≤ z.cps.size ∧ Pv i H, ⟨z.cps.size, by simp, Nat.zero_le _, h0⟩, ?_⟩
  rintro i m H ⟨rfl, hi, p⟩
  by_cases lt : i < z.cps.size
  · refine .inr ⟨lt, Pv (i + 1), fun H' p' => ⟨z.cps.size - (i + 1), by omega, rfl, lt, p'⟩, fun x H' y => ?_⟩
    obtain ⟨T, c, rfl, hT, hc, rfl⟩ := y
    exact hs i c H T hc p hT
  · have e : i = z.cps.size := by omega
    subst e
    exact .inl ⟨rfl, hd H p⟩
theorem tLc_enumS {K : PySem.W.Frag} {ta : TA} {σ : L2.St} {g : TG} {tt : TT} {te : TE} {vs : List Nat} {Q : VK} {H : Hp} {z : Str} (h : ∀ R : List V → Hp → Prop, R [.str z] H → ta σ H R)
    (hc : ∀ D, H D = none → LcB (IteS z) g tt te vs σ H D (Q (.ref D))) : tLc (iEnumU K ta) g tt te vs σ H Q := .inr (h _ ⟨z, rfl, hc⟩)
end U
namespace U
open PySem PySem.Spec PyProof.Rows L2

/-! ### text[::-1] -/
def tRevS (te : TE) : TE := fun σ H Q => te σ H fun x H1 => ∃ z, x = .str z ∧ z.length ≤ sizeLine ∧ ∀ u, Q (.str (Txt.sliceBy z none none (-1, u))) H1
theorem pe_revS {X : Cx} {e : Expr} {te : TE} {k : Nat} {p1 p2 p3 pos : Pos} (he : PE X e te) : PE X (.Subscript e (.Slice none none (some (.UnaryOp .USub (.Constant (.int 1) k p1) p2)) p3) pos) (tRevS te) := by
  refine ⟨fun pins s σ H Q I h => ?_⟩
  refine Subscript_ (thn (he.run pins s σ H _ I h) fun v s1 z => ?_)
  obtain ⟨x, H1, I1, r1, y, ex, hz, q⟩ := z
  subst ex
  obtain ⟨t, rfl⟩ := r1
  have neg1 : PO X (some (.UnaryOp .USub (.Constant (.int 1) k p1) p2)) (tPart (tUn (rU fun i => .int (-i)) (tC (.int 1)))) := po_some (pe_un un_neg pe_int)
  rw [show eval (.Slice none none (some (.UnaryOp .USub (.Constant (.int 1) k p1) p2)) p3) X.env = eval (.Slice none none (some (.UnaryOp .USub (.Constant (.int 1) k p1) p2)) p3) X.env from rfl]
  refine wpAny_Slice ?_
  rw [evalPart_none]
  apply wpAny_pure
  apply wpAny_pure
  refine thn (neg1.run pins s1 σ H1 (fun o H4 => o = some (-1) ∧ H4 = H1) I1 ⟨1, rfl, -1, rfl, rfl, rfl⟩) fun vs s4 z => ?_
  obtain ⟨o, H4, I4, ps, eo, e4⟩ := z
  subst eo e4
  obtain ⟨l, el, em⟩ := IsPart.raw ps
  obtain ⟨u, rfl⟩ : ∃ u, l = some (-1, u) := by
    cases l with
    | none => cases em
    | some pr =>
      obtain ⟨a, u⟩ := pr
      have e2 : a = -1 := Option.some.inj em
      exact ⟨u, by rw [e2]⟩
  subst el
  refine tail_any (ops := [.ref s4.heap.objs.size, .str y t]) (typeIs_str _ _ _) F.slot_str_getitem.lookup
    (wpAny_getItem_str_slice (l := none) (u := none) (st := some (-1, u)) ⟨_, Heap.get?_push_size _ rfl, rfl, rfl⟩ rfl ?_) (by with_unfolding_all rfl)
  exact post_val_or_str ⟨Nat.le_trans (Txt.sliceBy_le y _ _ (-1, u) (by show (-1 : Int) ≠ 0; decide)) hz, fun t' c => ⟨.str (Txt.sliceBy y none none (-1, u)), H4, I4.kept (t' := c) fun b ob z => Heap.get?_push_of_some _ z, ⟨_, rfl⟩, q u⟩⟩
/-! ### raise C(e) of one's own exceptions, whose __init__ keeps one field -/
/-- what the written part says of such a class -/
def oexB (K : PySem.W.Frag) (C : Addr) : Bool := match K.lookup C with
  | some ⟨.type "type", dd, .cls cd, sl⟩ => (match cd.mro, sl.toList with
    | .ref C' :: bm, [_, _, _, _, some (.builtin n), _] => (C' == C && n == "ValueError.__new__") && (!cd.hasDel && cd.hasDict && PySem.HandSPX.refsVE bm)
    | _, _ => false)
  | _ => false
theorem oexB_ok {K : PySem.W.Frag} {C : Addr} (q : oexB K C = true) : ∃ nm qn N bs bm sn sub ab col dd k0 k1 k2 k3 k5, K.lookup C = some (excClassObj nm qn C N bs bm true sn sub ab col dd k0 k1 k2 k3 k5 "ValueError.__new__") ∧ PySem.HandSPX.refsVE bm = true := by
  unfold oexB at q
  split at q
  · rename_i dd cd sl ho
    split at q
    · rename_i own rest a0 a1 a2 a3 maker a5 order cells
      simp only [Bool.not_eq_true', beq_iff_eq, Bool.and_eq_true] at q
      obtain ⟨⟨eo, em⟩, ⟨nodel, dict1⟩, ground⟩ := q
      subst eo em
      obtain ⟨name, bases, line, space, qname, hasd, sl1, sl2, abst, coll, dels⟩ := cd
      dsimp only at order nodel dict1
      subst order nodel dict1
      have row : sl = #[a0, a1, a2, a3, some (.builtin "ValueError.__new__"), a5] := by
        obtain ⟨l⟩ := sl
        exact congrArg Array.mk cells
      subst row
      exact ⟨name, qname, space, bases, rest, sl1, sl2, abst, coll, dd, a0, a1, a2, a3, a5, ho, ground⟩
    · cases q
  · cases q
/-- all that the head tells of an exception class -/
def excB (K : PySem.W.Frag) (x f : Str) : Bool := oexB K (He.ga K x) && (He.eqO (PySem.W.findIn K (.ref (He.ga K x)) "__setattr__") (some (some (.builtin "object.__setattr__"))) && (decide (PySem.W.subIn K (.ref (He.ga K x)) (.type "BaseException") = some true) &&
  (decide (PySem.W.typeIn K (.ref (He.ga K x)) = some (.type "type")) && (PySem.W.keepIn K (.ref (He.ga K x)) && (He.eqO (PySem.W.findIn K (.ref (He.ga K x)) f) (some none) &&
  (He.eqO (PySem.W.findIn K (.ref (He.ga K x)) "__init__") (some (some (.ref (He.ma K (He.ga K x) "__init__")))) && decide (PySem.W.typeIn K (.ref (He.ma K (He.ga K x) "__init__")) = some (.type "function"))))))))
structure ExcT (K : PySem.W.Frag) (x f : Str) : Prop where
  oc : OexC K (He.ga K x)
  nf : PySem.W.findIn K (.ref (He.ga K x)) f = some none
  ini : PySem.W.findIn K (.ref (He.ga K x)) "__init__" = some (some (.ref (He.ma K (He.ga K x) "__init__")))
  fn : PySem.W.typeIn K (.ref (He.ma K (He.ga K x) "__init__")) = some (.type "function")
theorem excB_ok {K : PySem.W.Frag} {x f : Str} (h : excB K x f = true) : ExcT K x f := by
  unfold excB at h
  simp only [decide_eq_true_eq, Bool.and_eq_true] at h
  obtain ⟨h1, h2, h3, h4, h5, h6, h7, h8⟩ := h
  exact ⟨⟨oexB_ok h1, He.eqO_ok h2, h3, h4, h5⟩, He.eqO_ok h6, He.eqO_ok h7, h8⟩
/-- the exception's dict holds what it was made with -/
def spExc (f : Str) : Sp := fun vs H Q _ => ∃ (a C : Addr) (v : V), vs = [.ref a, v] ∧ H a = some (exo a C none) ∧ ∀ dx, H dx = none → dx ≠ a → Q .non (upd (upd H dx (exd dx [(f, v)])) a (exo a C (some dx)))
/-- the promise of its __init__ -/
def spExcI (K : PySem.W.Frag) (x f : Str) : Sp := fun vs H Q _ => ∃ (a : Addr) (v : V), vs = [.ref a, v] ∧ H a = some (exo a (He.ga K x) none) ∧ ∀ dx, H dx = none → dx ≠ a → Q .non (upd (upd H dx (exd dx [(f, v)])) a (exo a (He.ga K x) (some dx)))
theorem spExcI_len {K : PySem.W.Frag} {x f : Str} {n : Str} : ∀ vs H Q E, spExcI K x f vs H Q E → vs.length = (["self", n] : List Str).length := by
  intro vs H Q E h
  obtain ⟨a, v, rfl, _⟩ := h
  rfl
theorem read_excI {K : PySem.W.Frag} {x f : Str} (T : ExcT K x f) {vs : List V} {H : Hp} {Q : VK} {E : XK} (h : spExcI K x f vs H Q E) {n : Str} :
    tOst K f (tVar 0) (tVar 1) { nx := fun _ H' => Q .non H', rt := Q } (start ["self", n] vs) H := by
  obtain ⟨a, v, rfl, ha, q⟩ := h
  exact ⟨v, rfl, .ref a, rfl, a, He.ga K x, rfl, T.oc, T.nf, .inl ⟨ha, q⟩⟩
/-- an own exception class that may be raised -/
structure GoodX (P : Program) (w : World) (K : PySem.W.Frag) (mg : Str → Option Value) (base : Heap) (x f : Str) : Prop where
  fn : ∃ fd, FnOk P w K mg base (L2.CX P w) 1 (He.ma K (He.ga K x) "__init__") fd ["self", f] (spExcI K x f) ∧ Binds K fd ["self", f] []
  t : ExcT K x f
  mg : mg x = some (.ref (He.ga K x))
def tRse (K : PySem.W.Frag) (c f : Str) (E : XK) (ta : TA) : TS := fun _ σ H => tMkO (He.ga K c) (spExcI K c f) [] ta σ H fun cls d H' => E cls d H'
theorem back_one {H1 : Hp} {a dx : Addr} {fs : List (Str × V)} {o1 o2 o3 : HO} (ha : H1 a = none) (hne : dx ≠ a) : upd (del (upd (upd (upd H1 a o1) dx o2) a o3) a) dx (.xd fs) = upd H1 dx (.xd fs) := by
  funext b
  unfold upd del
  by_cases h1 : b = dx
  · rw [if_pos h1, if_pos h1]
  · rw [if_neg h1, if_neg h1]
    by_cases h2 : b = a
    · rw [if_pos h2, h2, ha]
    · simp only [if_neg h2, if_neg h1]
theorem ps_rse {X : Cx} {c f : Str} {E : XK} {e : Expr} {ta : TA} {p pos pos2 : Pos} (g : GoodX X.prog X.w X.K X.mg X.base c f) (hr : Room 2 X.A) (hc : X.calm = true) (tk : Takes X fun cls d _ H => E cls d H) (hg : Gl X c) (ha : PA X [e] ta)
    (hdb : (c == ("__debug__" : Str)) = false := by decide) (he : starEach [e] X.env = [(false, eval e X.env)] := by rfl) :
    PS X (.Raise (some (.Call (.Name c p) [e] [] pos)) none pos2) (tRse X.K c f E ta) := by
  obtain ⟨fd, F, hb⟩ := g.fn
  exact ps_raise hc tk (pmk_oex (es := []) g.t.oc g.t.ini g.t.fn F hr hb .nil passL hg g.mg ha hdb he)
/-- what is asked behind the argument of such a raise -/
theorem rse_of {K : PySem.W.Frag} {c f : Str} {E : XK} {v : V} {H1 : Hp} (h : ∀ d, H1 d = none → E (.ref (He.ga K c)) (some d) (upd H1 d (.xd [(f, v)]))) :
    [v].length ≤ 1000 ∧ ∀ a, H1 a = none → spExcI K c f (.ref a :: ([v] ++ [])) (upd H1 a (exo a (He.ga K c) none))
      (fun x H2 => x = .non ∧ ∃ (d : Addr) (fs : List (Str × V)), H2 a = some (exo a (He.ga K c) (some d)) ∧ H2 d = some (exd d fs) ∧ H1 d = none ∧ E (.ref (He.ga K c)) (some d) (upd (del H2 a) d (.xd fs))) (fun _ _ _ => False) := by
  refine ⟨by simp, fun a ha => ⟨a, v, rfl, upd_same, fun dx hd hne => ?_⟩⟩
  rw [upd_ne hne] at hd
  refine ⟨rfl, dx, [(f, v)], upd_same, ?_, hd, ?_⟩
  · rw [upd_ne hne, upd_same]
  · rw [back_one ha hne]
    exact h dx hd
end U
namespace U
open PySem PySem.Spec PyProof.Rows L2

/-! ### a def of the module, wherever it is called from -/
structure GoodO (P : Program) (w : World) (K : PySem.W.Frag) (mg : Str → Option Value) (base : Heap) (k : Nat) (x : Str) (ps : List Str) (sp : Sp) : Prop where
  fn : ∃ fd, FnOk P w K mg base (L2.CX P w) k (He.ga K x) fd ps sp ∧ Binds K fd ps []
  mg : mg x = some (.ref (He.ga K x))
  kp : PySem.W.keepIn K (.ref (He.ga K x)) = true
section
variable {X : Cx} {k : Nat} {x m : Str} {ps : List Str} {sp : Sp} {E : XK} {p pos apos : Pos} {e o : Expr} {es : List Expr} {ta : TE} {t : TA}
theorem tFn_eq (sp : Sp) (E : XK) (t : TA) : tCall sp [] E t = tFn sp E t := by
  unfold tCall tFn
  simp only [List.append_nil]
theorem pe_fo (g : GoodO X.prog X.w X.K X.mg X.base k x ps sp) (hr : Room k X.A) (hg : Gl X x) (hx : Passes (L2.CX X.prog X.w) X E)
    (hpl : (backTo pos (starEach es X.env)).any (·.1) = false := by rfl) (he : starEach (e :: es) X.env = (false, eval e X.env) :: starEach es X.env := by rfl) (ha : PA X (e :: es) t)
    (hdb : (x == ("__debug__" : Str)) = false := by decide) :
    PE X (.Call (.Name x p) (e :: es) [] pos) (tFn sp E t) := by
  obtain ⟨fd, F, hb⟩ := g.fn
  exact tFn_eq sp E t ▸ pe_call F hr hg g.mg g.kp hb .nil hx ha hdb he hpl
theorem pe_fo0 (g : GoodO X.prog X.w X.K X.mg X.base k x ps sp) (hr : Room k X.A) (hg : Gl X x) (hx : Passes (L2.CX X.prog X.w) X E)
    (hdb : (x == ("__debug__" : Str)) = false := by decide) : PE X (.Call (.Name x p) [] [] pos) (tFn sp E tNil) := by
  obtain ⟨fd, F, hb⟩ := g.fn
  exact tFn_eq sp E tNil ▸ pe_call0 F hr hg g.mg g.kp hb .nil hx hdb
end
/-! ### promises by the number of arguments -/
def sp1 (f : V → Hp → VK → XK → Prop) : Sp := fun vs H Q E => match vs with
  | [x] => f x H Q E
  | _ => False
def sp2 (f : V → V → Hp → VK → XK → Prop) : Sp := fun vs H Q E => match vs with
  | [x, y] => f x y H Q E
  | _ => False
def sp3 (f : V → V → V → Hp → VK → XK → Prop) : Sp := fun vs H Q E => match vs with
  | [x, y, z] => f x y z H Q E
  | _ => False
def sp4 (f : V → V → V → V → Hp → VK → XK → Prop) : Sp := fun vs H Q E => match vs with
  | [x, y, z, u] => f x y z u H Q E
  | _ => False
theorem sp1_len {f : V → Hp → VK → XK → Prop} {a : Str} : ∀ vs H Q E, sp1 f vs H Q E → vs.length = ([a] : List Str).length := fun vs H Q E h => match vs, h with
  | [_], _ => rfl
theorem sp2_len {f : V → V → Hp → VK → XK → Prop} {a b : Str} : ∀ vs H Q E, sp2 f vs H Q E → vs.length = ([a, b] : List Str).length := fun vs H Q E h => match vs, h with
  | [_, _], _ => rfl
theorem sp3_len {f : V → V → V → Hp → VK → XK → Prop} {a b c : Str} : ∀ vs H Q E, sp3 f vs H Q E → vs.length = ([a, b, c] : List Str).length := fun vs H Q E h => match vs, h with
  | [_, _, _], _ => rfl
theorem sp4_len {f : V → V → V → V → Hp → VK → XK → Prop} {a b c d : Str} : ∀ vs H Q E, sp4 f vs H Q E → vs.length = ([a, b, c, d] : List Str).length := fun vs H Q E h => match vs, h with
  | [_, _, _, _], _ => rfl
/-! ### kinds of values -/
inductive Ty where
  | non | bl | int | str | lst | tup | dct | yard
  deriving DecidableEq
def Ty.v (K : PySem.W.Frag) : Ty → Value
  | .non => .type "NoneType"
  | .bl => .type "bool"
  | .int => .type "int"
  | .str => .type "str"
  | .lst => .type "list"
  | .tup => .type "tuple"
  | .dct => .type "dict"
  | .yard => .ref (He.ga K "Yard")
def Ty.all : List Ty := [.non, .bl, .int, .str, .lst, .tup, .dct, .yard]
theorem Ty.mem_all (a : Ty) : a ∈ Ty.all := by cases a <;> decide
def Ty.sub (a b : Ty) : Bool := decide (a = b) || (decide (a = .bl) && decide (b = .int))
/-- a value of a kind -/
def Is (K : PySem.W.Frag) (H : Hp) (x : V) (a : Ty) : Prop := TyX K H x (a.v K)
/-- a tuple of the module without a dict -/
def tupO (K : PySem.W.Frag) (x : Str) : Bool := match K.lookup (He.ga K x) with
  | some o => decide (o.cls = .type "tuple") && o.dict.isNone
  | none => false
theorem tupO_ok {K : PySem.W.Frag} {x : Str} (h : tupO K x = true) (H : Hp) : tyV K "tuple" (.ref (He.ga K x)) H := by
  unfold tupO at h
  split at h
  · rename_i o ho
    simp only [Bool.and_eq_true, decide_eq_true_eq, Option.isNone_iff_eq_none] at h
    exact .inr (.inl ⟨rfl, o, ho, h.1, h.2⟩)
  · cases h
/-- what the head tells, whatever the law -/
def kfB (K : PySem.W.Frag) : Bool := (Ty.all.all fun a => Ty.all.all fun b => decide (PySem.W.kitOne K (a.v K) (b.v K) = some (a.sub b))) &&
  ((He.tupB K "WAYS" [.str "ab", .str "ac", .str "ba", .str "bc", .str "ca", .str "cb"] &&
  ((He.Fa.cls "Yard").ok K && ((He.Fa.noat "Yard" "_rows").ok K && (He.eqO (PySem.W.findIn K (.ref (He.ga K "Yard")) "__class__") (some (some (.builtin "object.__class__"))) &&
  (He.eqO (PySem.W.specialIn K (.builtin "object.__class__") "__get__") (some (some (.builtin "getset_descriptor.__get__"))) && (decide (PySem.W.takesIn K (.builtin "object.__class__") = some true) && (decide (PySem.W.mroIn K (He.ga K "Yard") (.type "object") = some true) && ((tupO K "WAYS" && ((He.Fa.noat "Yard" "_reckoning").ok K && (Ty.all.all fun a => PySem.W.notFirst K (He.ga K "Yard") (a.v K)))))))))))))
structure KF (K : PySem.W.Frag) : Prop where
  kit : ∀ a b : Ty, PySem.W.kitOne K (a.v K) (b.v K) = some (a.sub b)
  ways : ∀ H, SqT K H (He.ga K "WAYS") [.str "ab", .str "ac", .str "ba", .str "bc", .str "ca", .str "cb"]
  cl : Cls K (He.ga K "Yard")
  na : NoAttr K (He.ga K "Yard") "_rows"
  c1 : PySem.W.findIn K (.ref (He.ga K "Yard")) "__class__" = some (some (.builtin "object.__class__"))
  c2 : PySem.W.specialIn K (.builtin "object.__class__") "__get__" = some (some (.builtin "getset_descriptor.__get__"))
  c3 : PySem.W.takesIn K (.builtin "object.__class__") = some true
  c4 : PySem.W.mroIn K (He.ga K "Yard") (.type "object") = some true
  wO : ∀ H, tyV K "tuple" (.ref (He.ga K "WAYS")) H
  na2 : NoAttr K (He.ga K "Yard") "_reckoning"
  nf : ∀ a : Ty, PySem.W.notFirst K (He.ga K "Yard") (a.v K) = true
theorem kfB_ok {K : PySem.W.Frag} (h : kfB K = true) : KF K := by
  unfold kfB at h
  simp only [decide_eq_true_eq, Bool.and_eq_true] at h
  obtain ⟨h1, h3, h4, h5, h6, h7, h8, h9, h11, h12, h13⟩ := h
  refine ⟨fun a b => ?_, fun H => He.tupB_ok h3 H, He.cls_ok h4, He.noat_ok h5, He.eqO_ok h6, He.eqO_ok h7, h8, h9, fun H => tupO_ok h11 H, He.noat_ok h12, fun a => List.all_eq_true.mp h13 a a.mem_all⟩
  have := List.all_eq_true.mp (List.all_eq_true.mp h1 a a.mem_all) b b.mem_all
  exact of_decide_eq_true this
section
variable {K : PySem.W.Frag} {H : Hp} {x : V}
theorem is_non : Is K H .non .non := .base .non
theorem is_bl (b : Bool) : Is K H (.bl b) .bl := .base (.bl b)
theorem is_int (i : Int) : Is K H (.int i) .int := .base (.int i)
theorem is_str (z : Str) : Is K H (.str z) .str := .base (.str z)
theorem is_lst {p : Addr} {xs : List V} (h : H p = some (.lst xs)) : Is K H (.ref p) .lst := .base (.lst h)
theorem is_tup {p : Addr} {xs : List V} (h : H p = some (.tup xs)) : Is K H (.ref p) .tup := .base (.tup h)
theorem is_dct {p : Addr} {xs : List (Key × V)} (h : H p = some (.dK xs)) : Is K H (.ref p) .dct := .base (.dK h)
theorem is_sqL {p : Addr} {xs : List V} (h : SqL K H p xs) : Is K H (.ref p) .lst := by
  rcases h with (h | ⟨o, h⟩) | ⟨o, its, n, h, hc, _⟩
  · exact .base (.lst h)
  · exact .base (.frz h)
  · exact .kList h hc
theorem is_sqT {p : Addr} {xs : List V} (h : SqT K H p xs) : Is K H (.ref p) .tup := by
  rcases h with (h | ⟨o, h⟩) | ⟨o, its, n, h, hc, _⟩
  · exact .base (.tup h)
  · exact .fTuple h
  · exact .kTuple h hc
theorem is_yard (F : KF K) {p dx : Addr} {fs : List (Str × V)} (h : H p = some (.ins (He.ga K "Yard") dx fs)) : Is K H (.ref p) .yard := .base (.ins h F.cl F.c1 F.c2 F.c3 F.c4)
/-- only texts are texts, only integers are integers, and so on -/
theorem Is.str_inv (h : Is K H x .str) : ∃ z, x = .str z := by
  have key : ∀ t, TyX K H x t → t = .type "str" → ∃ z, x = .str z := by
    intro t h e
    cases h with
    | base b => cases b <;> first | exact ⟨_, rfl⟩ | (injection e with e; exact absurd e (by decide)) | cases e
    | _ => injection e with e; exact absurd e (by decide)
  exact key _ h rfl
theorem Is.int_inv (h : Is K H x .int) : ∃ z, x = .int z := by
  have key : ∀ t, TyX K H x t → t = .type "int" → ∃ z, x = .int z := by
    intro t h e
    cases h with
    | base b => cases b <;> first | exact ⟨_, rfl⟩ | (injection e with e; exact absurd e (by decide)) | cases e
    | _ => injection e with e; exact absurd e (by decide)
  exact key _ h rfl
theorem Is.bl_inv (h : Is K H x .bl) : ∃ z, x = .bl z := by
  have key : ∀ t, TyX K H x t → t = .type "bool" → ∃ z, x = .bl z := by
    intro t h e
    cases h with
    | base b => cases b <;> first | exact ⟨_, rfl⟩ | (injection e with e; exact absurd e (by decide)) | cases e
    | _ => injection e with e; exact absurd e (by decide)
  exact key _ h rfl
theorem Is.non_inv (h : Is K H x .non) : x = .non := by
  have key : ∀ t, TyX K H x t → t = .type "NoneType" → x = .non := by
    intro t h e
    cases h with
    | base b => cases b <;> first | rfl | (injection e with e; exact absurd e (by decide)) | cases e
    | _ => injection e with e; exact absurd e (by decide)
  exact key _ h rfl
theorem Is.ref_inv {a : Ty} (h : Is K H x a) (ha : a ≠ .non ∧ a ≠ .bl ∧ a ≠ .int ∧ a ≠ .str) : ∃ p, x = .ref p := by
  have key : ∀ t, TyX K H x t → t = a.v K → ∃ p, x = .ref p := by
    intro t h e
    cases h with
    | base b =>
      cases b <;> first
        | exact ⟨_, rfl⟩
        | (exfalso; cases a <;> first | exact ha.1 rfl | exact ha.2.1 rfl | exact ha.2.2.1 rfl | exact ha.2.2.2 rfl | (injection e with e; exact absurd e (by decide)) | cases e)
    | byt b => exfalso; cases a <;> first | (injection e with e; exact absurd e (by decide)) | cases e
    | _ => exact ⟨_, rfl⟩
  exact key _ h rfl
end
/-! ### heaps that keep what they have -/
theorem same_new {H : Hp} {p : Addr} {o : HO} (h : H p = none) : Same H (upd H p o) := fun b u e => by
  rw [upd_ne (ne_of_none e h)]
  exact e
theorem Same.sqT {K : PySem.W.Frag} {H H' : Hp} {a : Addr} {xs : List V} (e : Same H H') (h : SqT K H a xs) : SqT K H' a xs :=
  h.imp (Or.imp (e _ _) fun ⟨o, z⟩ => ⟨o, e _ _ z⟩) id
/-- a new object, its address and its heap by what is known of them -/
theorem new_of {H : Hp} {o : HO} {Q : VK} (h : ∀ p H', H p = none → Same H H' → H' p = some o → Q (.ref p) H') : ∀ p, H p = none → Q (.ref p) (upd H p o) := fun p hp => h p _ hp (same_new hp) upd_same
end U
namespace U
open PySem PySem.Spec PyProof.Rows L2

/-! ### the module's table of thirds -/
def thirds : List (Str × Str) := [("ab", "c"), ("ac", "b"), ("ba", "c"), ("bc", "a"), ("ca", "b"), ("cb", "a")]
def ThK (K : PySem.W.Frag) (w : World) : Prop := ∀ q ∈ thirds, KDct K w (He.ga K "THIRDS") q.1 (.str q.2)
def rThird (K : PySem.W.Frag) : R2 := fun x y H Q => ∃ z v, x = .ref (He.ga K "THIRDS") ∧ y = .str z ∧ (z, v) ∈ thirds ∧ Q (.str v) H
theorem ix_third {X : Cx} (h : ThK X.K X.w) : IxR X (rThird X.K) := by
  intro ea eb pins s σ H x y u v Q I rx ry q
  obtain ⟨z, t, rfl, rfl, hm, q⟩ := q
  exact ix_kdict ea eb pins s σ H _ _ u v Q I rx ry ⟨_, z, _, rfl, rfl, h _ hm, q⟩
def thB (K : PySem.W.Frag) : Bool := He.valsB K (He.ga K "THIRDS") (thirds.map fun q => (q.1, He.Dv.str q.2))
theorem thK_of {K : PySem.W.Frag} {w : World} (hd : ∃ es n, KDict K w (He.ga K "THIRDS") es n) (hv : thB K = true) : ThK K w := by
  obtain ⟨es, n, h1, h2, h3⟩ := hd
  intro q hq
  obtain ⟨u, e, r⟩ := He.valsB_ok hv (List.mem_map.mpr ⟨q, hq, rfl⟩)
  exact ⟨es, n, u, h1, h2, e, r⟩
end U
namespace U
open PySem PySem.Spec PyProof.Rows L2

/-! ### sorted(d.values()), fewer than 64 integers -/
def tSortVals (td : TE) : TE := fun σ H Q => td σ H fun x H1 => ∃ (d : Addr) (tab : List (Key × V)) (is : List Int), x = V.ref d ∧ H1 d = some (.dK tab) ∧ tab.map (·.2) = is.map V.int ∧ is.length < 64 ∧
  ∀ (ys : List Int) (l : Addr), H1 l = none → ys.Perm is → ys.Pairwise (· ≤ ·) → Q (.ref l) (upd H1 l (.lst (ys.map V.int)))
/-- the texts of the values of such a table are integers -/
theorem vals_int {tab : List (Key × V)} {raw : List (Key × Value)} {is : List Int} (rel : KV tab raw) (nums : tab.map (·.2) = is.map V.int) : raw.length = is.length ∧ ∀ (j : Nat) (v : Value), (∃ k, raw[j]? = some (k, v)) → ∃ (i : Int) (t : Tok), is[j]? = some i ∧ v = .int i t := by
  refine ⟨?_, fun j v ⟨k, hk⟩ => ?_⟩
  · have two : tab.length = is.length := by simpa using congrArg List.length nums
    exact (KV.length rel).symm.trans two
  · obtain ⟨x, atj, same⟩ := KV.at' rel hk
    have third : (tab.map (·.2))[j]? = some x := by simp [atj]
    rw [nums, List.getElem?_map] at third
    obtain ⟨i, hi, ex⟩ := Option.map_eq_some_iff.mp third
    subst ex
    obtain ⟨t, ev⟩ := same
    exact ⟨i, t, hi, ev⟩
theorem pe_sortVals {X : Cx} {o : Expr} {p pos apos mpos : Pos} {td : TE} (calm : X.calm = true) (glob : Gl X "sorted") (free : X.mg "sorted" = none) (hd : PE X o td)
    (base : attributeBase o "values" X.env (eval o X.env) = eval o X.env := by rfl) (line : (apos.endLine == mpos.line) = true := by rfl)
    (alone : starEach [.Call (.Attribute o "values" apos) [] [] mpos] X.env = [(false, eval (.Call (.Attribute o "values" apos) [] [] mpos) X.env)] := by rfl) :
    PE X (.Call (.Name "sorted" p) [.Call (.Attribute o "values" apos) [] [] mpos] [] pos) (tSortVals td) := by
  refine .mk ?_
  intro ps s σ H R I h
  apply wpAny_Call_Name_kw
  refine ld_blt I glob free (u := .builtin "sorted") (by decide +kernel) ?_ (by decide +kernel) (by decide +kernel)
  rw [alone]
  apply PySem.callWith_builtin1
  refine wpAny_Call_method0_late base line (thn (hd.run ps s σ H _ I h) ?_)
  rintro v s1 ⟨x, H1, I1, r1, d, tab, is, rfl, at_, nums, few, q⟩
  cases r1
  have ⟨_, notSys, raw, rel, of⟩ := dk_of I1.hok at_
  have ⟨ep, dict⟩ := of.dictAt
  have ⟨ob, _, got, kind, _⟩ := id dict
  have ⟨len, int⟩ := vals_int rel nums
  have fits : raw.length ≤ sizeLine := Nat.le_trans (Nat.le_of_lt (len ▸ few)) (show 64 ≤ sizeLine by decide)
  refine ⟨_, _, F.plainAttrs_dict, F.slot_dict_values, F.type_dict_values, ⟨ob, got, kind.1⟩, ?_, ?_⟩
  · intro b e
    injection e with e
    exact ⟨ob, e ▸ got, kind.2.1⟩
  refine Calls.callWith_builtin rfl (PySem.evalArgs_none ?_)
  refine call_meetsIn F.slot_dict_values ⟨ob, got, kind.1⟩ F.entry_dict_values (F.args_dict_values_1 _) (meets_dict_values (mixKind X.prog X.w) d notSys) ⟨⟨raw, of⟩, ?_⟩
  -- the view lies at the end of the heap
  have old : ∀ b u, s1.heap.get? b = some u → (s1.heap.push (Obj.mk (.type "dict_values") none (.fields #[.ref d]) #[])).get? b = some u := fun _ _ => Heap.get?_push_of_some _
  have view : (s1.heap.push (Obj.mk (.type "dict_values") none (.fields #[.ref d]) #[])).get? s1.heap.objs.size = some (Obj.mk (.type "dict_values") none (.fields #[.ref d]) #[]) := Heap.get?_push_size _ rfl
  have I2 := I1.kept (t' := s1.toks) old
  have dict2 := dict.keep old
  apply Calls.call_function_entry kind_sorted plain_sorted entry_sorted (args_sorted1 _)
  unfold Builtin.«sorted»
  refine wpAny_bind (m := checkCount _ 1 1 _) ?_
  apply wpAny_pure
  apply wpAny_bind
  refine PySem.W.kdu_collect (A := X.A.in1) (PySem.W.kdl_values (knd := mixKind X.prog X.w) (kvs := raw) (ep := ep) (d := d) (r := s1.heap.objs.size)) (I2.ok.hd calm) ⟨⟨_, view, rfl, rfl⟩, dict2⟩ fits ?_
  intro h2 tk acc kept each
  have len2 : acc.toList.length = is.length := by rw [Array.length_toList, each.1, len]
  have are : IntsAre acc.toList is := ints_each len2 fun j v e => int j v (each.2 j v (by rwa [← Array.getElem?_toList]))
  have I3 : Inv X ps σ H1 { s1 with heap := h2, toks := tk } := by exact I2.kept kept
  apply wpAny_bind
  refine wpAny_newList ?_ (Nat.le_trans (Nat.le_of_lt (len2 ▸ few)) (show 64 ≤ sizeLine by decide))
  have fresh : (h2.push (seqObj "list" acc.toList.toArray 0)).get? h2.objs.size = some (seqObj "list" acc.toList.toArray 0) := by exact Heap.get?_push_size _ rfl
  show wpAny _ _ _ _ _ { s1 with toks := tk, heap := h2.push (seqObj "list" acc.toList.toArray 0) }
  apply wpAny_bind
  apply wpAny_holding
  refine wpAny_call_entry slot_list_sort ⟨_, fresh, rfl⟩ entry_list_sort (list_sort_tree (s := { s1 with toks := tk, heap := h2.push (seqObj "list" acc.toList.toArray 0) }) fresh are (by rw [len2]; exact few) ?_) (args_list_sort _)
  intro out ys shown perm rising
  refine ⟨_, rfl, ?_⟩
  have ⟨cap, now⟩ := sortedHeap_at (vs := acc.toList) (out := out) fresh
  have short : (ys.map V.int).length ≤ sizeLine := by
    rw [List.length_map]
    exact Nat.le_trans (perm.length_eq ▸ Nat.le_of_lt few) (show 64 ≤ sizeLine by decide)
  apply wpAny_pure
  refine ⟨_, rfl, .ref h2.objs.size, _, I3.laid (o := .lst (ys.map V.int)) (t' := tk) ?_ (Nat.le_refl _) ⟨short, out.toList, cap, vals_of_ints shown, by rw [Array.toArray_toList]; exact now⟩, rfl, q ys _ (I3.hok.fresh (Nat.le_refl _)) perm rising⟩
  intro b u e
  have lt := Heap.lt_size e
  rw [sortedHeap_old (Nat.ne_of_lt lt) (size_push' _ _ ▸ Nat.lt_succ_of_lt lt)]
  exact Heap.get?_push_of_some _ (by exact e)
end U
namespace U
open PySem PySem.Spec PyProof.Rows L2

/-! ### len(set(text)) -/
/-- the unlike signs of a text, in the order in which they are met -/
def metS (l : List Nat) : List Nat := l.foldl (fun m c => if c ∈ m then m else m ++ [c]) []
theorem metS_snoc (l : List Nat) (c : Nat) : metS (l ++ [c]) = if c ∈ metS l then metS l else metS l ++ [c] := by
  unfold metS
  rw [List.foldl_append]
  rfl
def inM (l : List Nat) (t : Str) : Bool := l.any fun c => decide (t = ⟨#[c]⟩)
theorem inM_sign (l : List Nat) (c : Nat) : inM l ⟨#[c]⟩ = decide (c ∈ l) := by
  unfold inM
  rw [Bool.eq_iff_iff, List.any_eq_true, decide_eq_true_iff]
  constructor
  · rintro ⟨d, hd, e⟩
    have e := of_decide_eq_true e
    injection e with e
    have e2 : c = d := by simpa using congrArg Array.toList e
    exact e2 ▸ hd
  · exact fun h => ⟨c, h, decide_eq_true rfl⟩
theorem metS_le (l : List Nat) : (metS l).length ≤ l.length := by
  have key : ∀ (l m : List Nat), (l.foldl (fun m c => if c ∈ m then m else m ++ [c]) m).length ≤ m.length + l.length := by
    intro l
    induction l with
    | nil => intro m; exact Nat.le_refl _
    | cons c r ih =>
      intro m
      rw [List.length_cons, List.foldl_cons]
      refine Nat.le_trans (ih _) ?_
      split
      · omega
      · have e : (m ++ [c]).length = m.length + 1 := by simp
        omega
  have q := key l []
  rw [List.length_nil, Nat.zero_add] at q
  exact q
theorem setOf_in {P : Program} {w : World} {h h' : Heap} {D : Addr} {S S' : Str → Bool} {n n' : Nat} (q : h.SetOf (strKind P w) D S n) (k : ∀ o, h.get? D = some o → h'.get? D = some o) (e : ∀ t, S t = S' t) (en : n = n') : h'.SetOf (strKind P w) D S' n' := by
  obtain rfl : S = S' := funext e
  subst en
  obtain ⟨o, es, ep, tb, at_, more⟩ := q
  exact ⟨o, es, ep, tb, k o at_, more⟩
section
variable {P : Program} {w : World} {A : Around} {E : Value → Shared → Prop} {z : Str}
theorem signs_loop {R : Result → Shared → Prop} {it D : Addr} {fp wr : List Addr} {St : Nat → Heap → Prop} (W : Walks P w A.in1 it fp wr z.cps.size (SignAt z) St) (off : D ∉ fp) (few : z.cps.size + 1 < scanBound) :
    ∀ (k i : Nat) (s : Shared), i + k = z.cps.size → St i s.heap → s.heap.SetOf (strKind P w) D (inM (metS (z.cps.toList.take i))) (metS (z.cps.toList.take i)).length →
      (∀ h tk, (∀ b o, b ≠ D → b ∉ wr → s.heap.get? b = some o → h.get? b = some o) → h.SetOf (strKind P w) D (inM (metS z.cps.toList)) (metS z.cps.toList).length → R (.ok (.ret .none)) { s with heap := h, toks := tk }) →
      codeAny (model P w) A (.builtin "set.update.loop" ⟨[.ref D, .ref it], []⟩) R s := by
  have offw : D ∉ wr := fun m => off (W.sub _ m)
  intro k
  induction k with
  | zero =>
    intro i s hi st now fin
    obtain rfl : i = z.cps.size := hi
    refine codeAny_builtin (PyProof.Rows.F.entry_set_update_loop) (by
      rw [Around.under_plainId (PyProof.Rows.F.plain_set_update_loop) _]
      refine wpAny_bind (m := pyNext (.ref it)) (W.done s _ _ st fun h' tk' kept => ?_)
      refine wpAny_pure (fin h' tk' (fun b o _ nw e => kept b o nw e) ?_)
      rw [List.take_of_length_le (by rw [Array.length_toList]; exact Nat.le_refl _)] at now
      exact setOf_in now (fun o e => kept D o offw e) (fun _ => rfl) rfl)
  | succ k more =>
    intro i s hi st now fin
    have lt : i < z.cps.size := by omega
    refine codeAny_builtin (PyProof.Rows.F.entry_set_update_loop) (by
      rw [Around.under_plainId (PyProof.Rows.F.plain_set_update_loop) _]
      refine wpAny_bind (m := pyNext (.ref it)) (W.item i s _ _ lt st fun v h1 tk1 sign st1 kept => ?_)
      obtain ⟨c, u, hc, rfl⟩ := sign
      have now1 := setOf_in now (fun o e => kept D o offw e) (fun _ => rfl) rfl
      have short : (metS (z.cps.toList.take i)).length + 1 < scanBound := by
        have le1 := metS_le (z.cps.toList.take i)
        have le2 : (z.cps.toList.take i).length ≤ z.cps.size := by rw [List.length_take, Array.length_toList]; exact Nat.min_le_right _ _
        exact Nat.lt_of_le_of_lt (Nat.add_le_add_right (Nat.le_trans le1 le2) 1) few
      have hc' : z.cps.toList[i]? = some c := by rw [Array.getElem?_toList]; exact hc
      refine wpAny_bind (m := holding [Value.str ⟨#[c]⟩ u] (setAdd D (.str ⟨#[c]⟩ u))) (wpAny_holding ?_)
      refine wpAny_holding (m := _) (wpAny_bind ((strKind P w).pyHash (k := (⟨#[c]⟩ : Str)) (by exact strKind_is _ _ _ _) ?_))
      refine wpAny_setAddHashed_of (s := { s with heap := h1, toks := tk1 + 1 }) (knd := strKind P w) (by exact strKind_is _ _ _ _) rfl now1 short fun h2 but now2 => ?_
      have now3 : h2.SetOf (strKind P w) D (inM (metS (z.cps.toList.take (i + 1)))) (metS (z.cps.toList.take (i + 1))).length := by
        rw [List.take_succ, hc', Option.toList_some, metS_snoc]
        refine setOf_in now2 (fun o e => e) (fun t => ?_) ?_
        · by_cases m : c ∈ metS (z.cps.toList.take i)
          · rw [if_pos m]
            by_cases e : t = ⟨#[c]⟩
            · subst e
              rw [inM_sign, decide_eq_true m]
              rfl
            · rw [decide_eq_false e, Bool.or_false]
          · rw [if_neg m]
            simp only [inM, List.any_append, List.any_cons, List.any_nil, Bool.or_false]
        · rw [inM_sign]
          by_cases m : c ∈ metS (z.cps.toList.take i)
          · simp only [m, decide_true, if_true]
          · simp only [m, decide_false, if_false, List.length_append, List.length_singleton]
            rfl
      refine wpAny_pure ⟨plainId_quiet (PyProof.Rows.F.plain_set_update_loop) _, more (i + 1) _ (by omega) (W.frame _ h1 _ st1 fun b hb o e => ?_) now3 fun h3 tk3 kept3 now4 => ?_⟩
      · rw [but.2 b fun e : b = D => off (e ▸ hb)]
        exact e
      · refine fin h3 tk3 (fun b o nD nw e => kept3 b o nD nw ?_) now4
        rw [but.2 b nD]
        exact kept b o nw e)
theorem str_no_set : pure false = isSubtype (.type "str") (.type "set") := by rw [isSubtype_type]; kernel_rfl
theorem sub_str_fz : isSubtype (.type "str") (.type "frozenset") = pure false := by rw [isSubtype_type]; kernel_rfl
local macro_rules | `(tactic| walk_at "g") => `(tactic| repeat (any_goals (first | assumption | wp_step)))
theorem set_text {u : Tok} {s : Shared} {Q : Value → Shared → Prop} (calm : A.handled = none) (few : z.cps.size + 1 < scanBound)
    (h : ∀ (h' : Heap) (tk : Nat), h'.SetOf (strKind P w) s.heap.objs.size (inM (metS z.cps.toList)) (metS z.cps.toList).length → (∀ b o, s.heap.get? b = some o → h'.get? b = some o) → Q (.ref s.heap.objs.size) { s with heap := h', toks := tk }) :
    wpAny (model P w) A (call (.type "set") [.str z u]) Q E s := by
  obtain ⟨cd, rest, mro⟩ := PySem.F.called_set.mro
  have made := PySem.F.called_set.made; have sub := PySem.F.called_set.sub; have f1 := PySem.F.called_set.notType
  have f2 := PySem.F.called_set.canCreate; have f3 := PySem.F.typeCall_set_1 (.str z u)
  refine wpAny_call (M := model P w) (codeAny_of_tree ?_); show wpAny _ _ (callAny (.type "set") _) _ _ _
  refine wpAny_pure ⟨Code.quiet_builtin _ (by decide +kernel), codeAny_builtin (PySem.F.entry_type_call) ?_⟩
  rw [Around.under_plain (weight_type_call_type "set" [.str z u] []) rfl]
  walk_at "g"
  refine codeAny_mono (code_set_new_1 (.str z u) (E := E) (Q₁ := fun ob s1 => ∃ led : Bool, ob = .ref s.heap.objs.size ∧ s1 = { s with heap := s.heap.push { cls := .type "set", dict := none, data := .set #[] 0 (.fresh 0 0 led) } }) fun led => ⟨led, rfl, rfl⟩) fun r s1 hr => ?_
  match r, hr with
  | .error e, hr => exact hr
  | .ok .next, hr => exact hr.elim
  | .ok .brk, hr => exact hr.elim
  | .ok .cont, hr => exact hr.elim
  | .ok (.ret ob), hr =>
    obtain ⟨led, rfl, rfl⟩ := hr
    have new : (s.heap.push { cls := .type "set", dict := none, data := .set #[] 0 (.fresh 0 0 led) }).get? s.heap.objs.size = some { cls := .type "set", dict := none, data := .set #[] 0 (.fresh 0 0 led) } := Heap.get?_push_size _ rfl
    have ty : Shared.TypeIs { s with heap := s.heap.push { cls := .type "set", dict := none, data := .set #[] 0 (.fresh 0 0 led) } } (.ref s.heap.objs.size) "set" := ⟨_, new, rfl⟩
    have g1 := PySem.F.called_set.init.lookup; have g2 := PySem.F.called_set.init.bind (.ref s.heap.objs.size)
    walk_at "g"
    refine codeAny_mono (codeAny_call_builtin (R := wants (fun r s2 => r = .none ∧ ∃ h' tk, s2 = { s with heap := h', toks := tk } ∧ h'.SetOf (strKind P w) s.heap.objs.size (inM (metS z.cps.toList)) (metS z.cps.toList).length ∧ ∀ b o, s.heap.get? b = some o → h'.get? b = some o) E)
      PySem.F.called_set.init.plain PySem.F.entry_set_init (check_set_init_1 ty ?_)) fun r2 s2 hr2 => ?_
    · have k1 := str_no_set.symm; have k2 := sub_str_fz
      have k3 : (Value.type "str" == Value.type "dict") = false := by decide
      unfold Builtin.«set.__init__» Builtin.Frozenset.updateFrom noKeywords
      generalize walkOf : pyIter = PI
      wp_walk
      subst walkOf
      refine wpAny_pyIter_str fun o St W st0 => wpAny_bind (wpAny_runValue ?_)
      have ne : s.heap.objs.size ∉ [(s.heap.push { cls := .type "set", dict := none, data := .set #[] 0 (.fresh 0 0 led) }).objs.size] := by
        rw [Heap.size_push, List.mem_singleton]
        exact Nat.ne_of_lt (Nat.lt_succ_self _)
      refine signs_loop (W _ (by simp [calm])) ne few z.cps.size 0 _ (Nat.zero_add _) st0 ?_ fun h2 tk2 kept now => ?_
      · exact setOf_in ((setObjOf_fresh (knd := strKind P w) led).setOf (Heap.get?_push_of_some _ new) (by unfold scanBound; omega)) (fun o e => e) (fun _ => rfl) rfl
      · show wpAny _ _ _ _ _ _
        refine wpAny_pure ?_
        change wpAny _ _ (ret Value.none) _ _ _
        refine wpAny_pure ⟨rfl, h2, tk2, rfl, now, fun b o' e => ?_⟩
        have lt := Heap.lt_size e
        refine kept b o' (Nat.ne_of_lt lt) ?_ (Heap.get?_push_of_some _ (Heap.get?_push_of_some _ e))
        rw [Heap.size_push, List.mem_singleton]
        exact Nat.ne_of_lt (Nat.lt_succ_of_lt lt)
    · match r2, hr2 with
      | .error e, hr2 => exact hr2
      | .ok .next, hr2 => exact hr2.elim
      | .ok .brk, hr2 => exact hr2.elim
      | .ok .cont, hr2 => exact hr2.elim
      | .ok (.ret ob), hr2 =>
        obtain ⟨rfl, h', tk, rfl, now, kept⟩ := hr2
        walk_at "g"
        exact h _ _ now kept
end
section
variable {X : Cx} {p p2 q pos : Pos} {a : Expr} {ta : TE}
def tLenSet (ta : TE) : TE := fun σ H Q => ta σ H fun x H1 => ∃ z : Str, x = .str z ∧ z.length ≤ 4000 ∧ Q (.int ((metS z.cps.toList).length : Nat)) H1
theorem pe_lenSet (calm : X.calm = true) (gl : Gl X "len") (free : X.mg "len" = none) (gl2 : Gl X "set") (free2 : X.mg "set" = none) (ha : PE X a ta)
    (alone : starEach [a] X.env = (false, eval a X.env) :: starEach [] X.env := by rfl) : PE X (.Call (.Name "len" p) [.Call (.Name "set" p2) [a] [] q] [] pos) (tLenSet ta) := by
  refine .mk ?_
  intro ps s σ H R I h
  refine Call_ (ld_blt I gl free boot_len (callWith_builtin1 (args_cons ?_ rfl) rfl rfl))
  refine Call_ (ld_blt I gl2 free2 boot_set (callWith_type1 (args_cons (thn (ha.run ps s σ H _ I h) fun v s1 out => args_nil ?_) alone) alone rfl))
  obtain ⟨x, H1, I1, rx, z, rfl, hz, want⟩ := out
  obtain ⟨u, rfl⟩ := rx
  have hz' : z.cps.size ≤ 4000 := hz
  have le : (metS z.cps.toList).length ≤ z.cps.size := Nat.le_trans (metS_le z.cps.toList) (by rw [Array.length_toList]; exact Nat.le_refl _)
  refine set_text (I1.ok.hd calm) (by unfold scanBound; omega) fun h' tk now kept => args_nil ?_
  obtain ⟨o, es, ep, tb, at_, ex, dat, _, _, _, fit, num⟩ := now
  have I2 : Inv X ps σ H1 { s1 with heap := h', toks := tk } := I1.kept fun b o e => kept b o e
  exact call_len_set at_ ex dat fit (by rw [num]; omega) ⟨.int (metS z.cps.toList).length, H1, I2.tok _, ⟨_, by rw [num]⟩, want⟩
end
end U
namespace U
open PySem PySem.Spec PyProof.Rows L2

/-! ### except (A, B, ..): which exceptions such a clause takes -/
section
variable {M : Model} {A : Around} {s : Shared} {E : Value → Shared → Prop}
theorem loop_all {f : Value → PUnit → Sem (ForInStep PUnit)} (cs : List Value) (each : ∀ c ∈ cs, ∀ P : ForInStep PUnit → Shared → Prop, P (.yield PUnit.unit) s → wpAny M A (f c PUnit.unit) P E s) {Q : PUnit → Shared → Prop} (q : Q PUnit.unit s) :
    wpAny M A (forIn cs PUnit.unit f) Q E s := by
  induction cs with
  | nil => rw [List.forIn_nil]; exact wpAny_pure q
  | cons c r ih =>
    rw [List.forIn_cons]
    exact wpAny_bind (each c List.mem_cons_self _ (ih fun d hd => each d (List.mem_cons_of_mem _ hd)))
theorem loop_any {β : Type} {g : Value → β → Sem (ForInStep β)} {i d : β} (p : Value → Bool) (cs : List Value) (each : ∀ c ∈ cs, ∀ P : ForInStep β → Shared → Prop, P (if p c = true then .done d else .yield i) s → wpAny M A (g c i) P E s)
    {Q : β → Shared → Prop} (q : Q (if cs.any p = true then d else i) s) : wpAny M A (forIn cs i g) Q E s := by
  induction cs with
  | nil => rw [List.forIn_nil]; exact wpAny_pure q
  | cons c r ih =>
    rw [List.forIn_cons]
    refine wpAny_bind (each c List.mem_cons_self _ ?_)
    rw [List.any_cons] at q
    cases e : p c with
    | true =>
      rw [e] at q
      exact wpAny_pure q
    | false =>
      rw [e] at q
      exact ih (fun x hx => each x (List.mem_cons_of_mem _ hx)) q
end
theorem exmAny_any {K : PySem.W.Frag} {cls : Value} : ∀ {cs : List Value} {b : Bool}, PySem.W.exmAny K cls cs = some b → (∀ c ∈ cs, PySem.W.exmOne K cls c = some (decide (PySem.W.exmOne K cls c = some true))) ∧ b = cs.any fun c => decide (PySem.W.exmOne K cls c = some true)
  | [], b, h => ⟨fun c m => (nomatch m), (Option.some.inj h).symm⟩
  | c :: r, b, h => by
    obtain ⟨b1, d1, h1, h2, rfl⟩ := PySem.W.exmAny_cons h
    obtain ⟨a1, a2⟩ := exmAny_any h2
    have e : PySem.W.exmOne K cls c = some (decide (PySem.W.exmOne K cls c = some true)) := by
      rw [h1]
      cases b1 <;> rfl
    refine ⟨fun x m => ?_, ?_⟩
    · rcases List.mem_cons.mp m with rfl | m
      · exact e
      · exact a1 x m
    · rw [List.any_cons, ← a2]
      have := h1.symm.trans e
      rw [Option.some.inj this]
theorem exm_list {M : Model} {K : PySem.W.Frag} {cls : Value} {cs : List Value} {tp e : Addr} {b : Bool} {h : Heap} (X : K.In h) (of : PySem.W.Looks M h (typeOf (.ref e)) cls) (hp : h.get? tp = some { cls := .type "tuple", data := .seq cs.toArray })
    (hx : PySem.W.exmAny K cls cs = some b) : PySem.W.Looks M h (excMatches (.ref e) (.ref tp)) b := by
  intro A Q E s kept q
  obtain ⟨each, rfl⟩ := exmAny_any hx
  have isTup : PySem.W.Looks M h (isInstance (.ref tp) (.type "tuple")) true := ((PySem.W.Looks.ld hp).andThen .now).andThen (PySem.W.Looks.of_pure isSubtype_tuple_tuple)
  rcases s with ⟨hh, g, d, tk, os⟩
  have k : ∀ b o, h.get? b = some o → hh.get? b = some o := kept
  have at_ := k _ _ hp
  have one := fun c m => PySem.W.exm_cls (M := M) X (each c m)
  unfold excMatches
  refine wpAny_bind ((isTup.keeps k).at ?_)
  dsimp only
  rw [if_pos rfl]
  refine wpAny_bind (wpAny_seqItems at_ rfl ?_)
  dsimp only [Option.getD, Option.getD_some]
  refine wpAny_bind (wpAny_pure (wpAny_bind (loop_all cs (fun c m P hP => ?_) ?_)))
  · refine wpAny_bind (((one c m).1.keeps k).at ?_)
    exact wpAny_pure hP
  · refine wpAny_bind ((of.keeps k).at ?_)
    refine wpAny_bind (loop_any (fun c => decide (PySem.W.exmOne K cls c = some true)) cs (d := ⟨some true, PUnit.unit⟩) (fun c m P hP => ?_) ?_)
    · refine wpAny_bind (((one c m).2.keeps k).at ?_)
      cases z : decide (PySem.W.exmOne K cls c = some true) with
      | true =>
        rw [z] at hP
        exact wpAny_pure hP
      | false =>
        rw [z] at hP
        exact wpAny_pure hP
    · cases z : cs.any fun c => decide (PySem.W.exmOne K cls c = some true) with
      | true =>
        rw [z] at q
        exact wpAny_pure q
      | false =>
        rw [z] at q
        exact wpAny_pure q
end U
namespace U
open PySem PySem.Spec PyProof.Rows L2

/-! ### try: several clauses, each with or without a name, of one class or of several -/
theorem flying_keep {B h h' : Heap} {l : List Env} {a : Addr} {Z : Obj → Prop} (k : ∀ b o, h.get? b = some o → h'.get? b = some o) (x : HandSPX.FlyingZ B l a Z h) : HandSPX.FlyingZ B l a Z h' := by
  obtain ⟨x1, x2, x3, oe, vs, T, oT, ts, y1, y2, y3, y4, y5, y6, y7, y8⟩ := x
  exact ⟨fun b o e => k _ _ (x1 b o e), x2, x3.of_keeps fun b o e _ => ⟨o, k _ _ e, rfl⟩, oe, vs, T, oT, ts, k _ _ y1, y2, y3, y4, y5, y6, k _ _ y7, y8⟩
/-- the expression of a clause: which classes it takes -/
def TeX (X : Cx) (e : Expr) (m : Value → Option Bool) : Prop := ∀ {a : Addr} {oe : Obj} {cls : Value} {b : Bool} {pn pins : List (Addr × Obj)} {σ : L2.St} {H : Hp} {s : Shared} {Q : Bool → Shared → Prop} {E : Value → Shared → Prop},
  Inv (X.suite a ((a, oe) :: pn)) pins σ H s → s.heap.get? a = some oe → oe.cls = cls → m cls = some b → (∀ h', (∀ c o, s.heap.get? c = some o → h'.get? c = some o) → Q b { s with heap := h' }) →
  wpAny (model X.prog X.w) (X.A.mark (some (.ref a))) (eval e X.env) (fun c s1 => wpAny (model X.prog X.w) (X.A.mark (some (.ref a))) (excMatches (.ref a) c) Q E s1) E s
section
variable {X : Cx}
theorem look_name {a : Addr} {pn pins : List (Addr × Obj)} {σ : L2.St} {H : Hp} {s : Shared} {x : Str} {c : Value} {np : Pos} (hc : Names X x c) (S : Inv (X.suite a pn) pins σ H s) {Q : Value → Shared → Prop} {E : Value → Shared → Prop} (q : Q c s) :
    wpAny (model X.prog X.w) (X.A.mark (some (.ref a))) (eval (.Name x np) X.env) Q E s := by
  obtain ⟨g, nd, m | ⟨m, v, nn⟩⟩ := hc
  · exact ld_glob S g m q nd
  · exact ld_blt S g m v q nn nd
theorem type_looks {M : Model} {h : Heap} {a : Addr} {oe : Obj} (he : h.get? a = some oe) : PySem.W.Looks M h (typeOf (.ref a)) oe.cls := fun A Q E s k q => wpAny_typeOf_ref (k _ _ he) q
theorem te_name {x : Str} {c : Value} {np : Pos} (hc : Names X x c) : TeX X (.Name x np) fun cls => PySem.W.exmOne X.K cls c := by
  intro a oe cls b pn pins σ H s Q E S he ec hm q
  subst ec
  exact look_name hc S ((PySem.W.exm_one S.kIn (type_looks he) hm).here (q s.heap fun _ _ z => z))
inductive NamesL (X : Cx) : List (Str × Pos) → List Value → Prop
  | nil : NamesL X [] []
  | cons {x : Str × Pos} {c : Value} {xs : List (Str × Pos)} {cs : List Value} (h : Names X x.1 c) (r : NamesL X xs cs) : NamesL X (x :: xs) (c :: cs)
theorem te_names {a : Addr} {pn pins : List (Addr × Obj)} {σ : L2.St} {H : Hp} {s : Shared} (S : Inv (X.suite a pn) pins σ H s) {pos : Pos} : ∀ {xs : List (Str × Pos)} {cs : List Value} {Q : List Value → Shared → Prop} {E : Value → Shared → Prop}, NamesL X xs cs → Q cs s →
    wpAny (model X.prog X.w) (X.A.mark (some (.ref a))) (spliced (backTo pos (starEach (xs.map fun x => Expr.Name x.1 x.2) X.env))) Q E s
  | [], _, Q, E, .nil, q => args_nil q
  | x :: xs, c :: cs, Q, E, .cons h r, q => args_cons (look_name h S (te_names S r q))
theorem te_tup {xs : List (Str × Pos)} {cs : List Value} {k : Nat} {tp : Pos} (hc : NamesL X xs cs) (few : cs.length ≤ 1000) : TeX X (.Tuple (xs.map fun x => Expr.Name x.1 x.2) k tp) fun cls => PySem.W.exmAny X.K cls cs := by
  intro a oe cls b pn pins σ H s Q E S he ec hm q
  subst ec
  refine wpAny_Tuple_spliced (te_names S hc ⟨Nat.le_trans few (by decide), ?_⟩)
  have old : ∀ c o, s.heap.get? c = some o → (s.heap.push { cls := .type "tuple", data := .seq cs.toArray }).get? c = some o := fun c o z => Heap.get?_push_of_some _ z
  exact (exm_list (S.kept (t' := s.toks) old).kIn (type_looks (old _ _ he)) (Heap.get?_push_size _ rfl) hm).here (q _ old)
end
/-- a clause: what it takes, its name's slot, its suite -/
structure Clz where
  m : Value → Option Bool
  nm : Option Nat
  ts : Addr → Value → Option Addr → TS
def named (i : Option Nat) (a : Addr) (σ : L2.St) : L2.St := match i with
  | none => σ
  | some i => σ.set i (some (.ref a))
def unnamed (i : Option Nat) (σ : L2.St) : L2.St := match i with
  | none => σ
  | some i => σ.set i none
def undone (i : Option Nat) (D : Ends) : Ends := { nx := fun σ H => D.nx (unnamed i σ) H, rt := D.rt, bk := fun σ H => D.bk (unnamed i σ) H, ct := fun σ H => D.ct (unnamed i σ) H }
/-- what is asked of an exception by the clauses in turn -/
def wCl (Wout : WX) (D : Ends) : List Clz → WX
  | [] => Wout
  | c :: r => fun cls d σ H => ∃ b, c.m cls = some b ∧ (b = true → ∀ a, H a = none → c.ts a cls d (undone c.nm D) (named c.nm a σ) H) ∧ (b = false → wCl Wout D r cls d σ H)
def NmOk (X : Cx) : Option Str → Option Nat → Prop
  | none, none => True
  | some n, some i => X.N[i]? = some n ∧ X.env.kindOf n = some .local
  | _, _ => False
inductive ClsOk (X : Cx) : List ExceptHandler → List Clz → Prop
  | nil : ClsOk X [] []
  | cons {e : Expr} {m : Value → Option Bool} {name : Option Str} {nm : Option Nat} {ts : Addr → Value → Option Addr → TS} {b0 : Stmt} {suite : List Stmt} {pos' : Pos} {hds : List ExceptHandler} {l : List Clz} (te : TeX X e m) (hn : NmOk X name nm)
      (su : ∀ (a : Addr) (oe : Obj) (cls : Value) (d : Option Addr) (pn : List (Addr × Obj)), Zc cls d oe → (∃ vs, oe.data = .fields vs) → PSs (X.suite a ((a, oe) :: pn)) (b0 :: suite) (ts a cls d)) (r : ClsOk X hds l) :
      ClsOk X (.ExceptHandler (some e) name (b0 :: suite) pos' :: hds) (⟨m, nm, ts⟩ :: l)
section
variable {X : Cx} {body : List Stmt} {h0 : ExceptHandler} {hds : List ExceptHandler} {l : List Clz} {pos : Pos} {tb : WX → TS} {Wout : WX}
/-- the state behind a suite, seen from around it -/
theorem sp_back {pins : List (Addr × Obj)} {a : Addr} {q : Addr × Obj} {D D' : Ends} {f : Flow} {s : Shared} (ok : X.Ok) (h : SP (X.suite a (q :: (X.pn ++ pins))) [] D' f s)
    (e : ∀ σ H s', Inv X pins σ H s' → s' = s → (D'.nx σ H → D.nx σ H) ∧ (D'.bk σ H → D.bk σ H) ∧ (D'.ct σ H → D.ct σ H)) (er : D'.rt = D.rt) : SP X pins D f s := by
  cases f with
  | next =>
    obtain ⟨σ', H', S, z⟩ := h
    exact ⟨σ', H', S.unsuite ok, (e σ' H' s (S.unsuite ok) rfl).1 z⟩
  | brk =>
    obtain ⟨σ', H', S, z⟩ := h
    exact ⟨σ', H', S.unsuite ok, (e σ' H' s (S.unsuite ok) rfl).2.1 z⟩
  | cont =>
    obtain ⟨σ', H', S, z⟩ := h
    exact ⟨σ', H', S.unsuite ok, (e σ' H' s (S.unsuite ok) rfl).2.2 z⟩
  | ret u =>
    obtain ⟨v, σ', H', S, r, z⟩ := h
    exact ⟨v, σ', H', S.unsuite ok, r, er ▸ z⟩
theorem ps_try_cl (hs : X.stack = X.env :: X.outer) (hf : X.env.frame = some X.env.locals) (hN : X.N.Nodup) (tk : Takes X Wout)
    (hb : ∀ (W : WX) (pn : List (Addr × Obj)) (xe : Value → Shared → Prop), Takes (X.tr pn xe) W → PassesOwn (model X.prog X.w) X.A X.env xe → PSs (X.tr pn xe) body (tb W))
    (hh : ClsOk X (h0 :: hds) l) : PS X (.Try body (h0 :: hds) [] [] pos) (fun D σ H => tb (wCl Wout D l) D σ H) := by
  refine .mk ?_
  intro pins s σ H D I h
  have ok := I.ok
  have frames : X.A.frames = some (X.env :: X.outer) := by rw [ok.frames, hs]
  refine wpAny_Try_except (wpAny_mono ((hb (wCl Wout D l) (X.pn ++ pins) (fun e s1 => wpAny (model X.prog X.w) X.A (noteFrame e X.env) (fun _ s2 => wpAny (model X.prog X.w) X.A (setFlight e none) (fun _ s3 =>
    wpAny (model X.prog X.w) X.A (handleBy e X.env (h0 :: hds)) (SP X pins D) X.xe s3) X.xe s2) X.xe s1) (fun u s' thrown => ?_) PassesOwn.looking).run [] s σ H D (I.toTry _) h) (fun f s1 out => ?_) fun e s1 z => z)
  · obtain ⟨a, B, sI, pins', σ', H', cls, d, rfl, J0, nb, up, sky0, na, os, ag, wish⟩ := thrown
    have J : Inv X pins σ' H' sI := J0.ofTry ok
    have sky : Sky B (X.env :: X.outer) a (Zc cls d) X.env.locals s'.heap := hs ▸ sky0
    change wpAny (model X.prog X.w) X.A (noteFrame (.ref a) X.env) _ _ _
    refine sky.land Zc.steady frames hf fun h3 fl3 up3 => ?_
    -- the clauses, from any heap in which it flies
    have go : ∀ {hds' : List ExceptHandler} {l' : List Clz}, ClsOk X hds' l' → wCl Wout D l' cls d σ' H' → ∀ hx, HandSPX.FlyingZ B (X.env :: X.outer) a (Zc cls d) hx → s'.heap.UpToSlots hx →
        wpAny (model X.prog X.w) X.A (handleBy (.ref a) X.env hds') (SP X pins D) X.xe { s' with heap := hx } := by
      intro hds' l' hk
      induction hk with
      | nil =>
        intro w hx fl upx
        obtain ⟨_, _, _, oe, vs, T, oT, ts', he, hz, hd, h1, _⟩ := id fl
        refine wpAny_handleBy_nil (by
          unfold PySem.passOn
          refine (wpAny_bind (wpAny_field he hd h1 ?_))
          rw [if_neg (show ¬ ((Value.ref T == Value.none) = true) by simp)]
          have out : wpAny (model X.prog X.w) X.A (setFlight (.ref a) X.env.frame) (fun _ s4 => wpAny (model X.prog X.w) X.A (throw (.ref a) : Sem Flow) (SP X pins D) X.xe s4) X.xe { s' with heap := hx } := by
            rw [hf]
            refine HandSPX.setFlight_upZ fl fun h4 held up4 => wpAny_throw (tk _ _ ⟨a, B, sI, pins, σ', H', cls, d, rfl, J, nb, (up.trans upx).trans up4, .inr (.inr (by rw [hs]; exact held)), na, os, ag, w⟩)
          first
            | exact wpAny_bind (wpAny_pure (wpAny_bind out))
            | exact wpAny_bind out)
      | @cons e m name nm ts b0 suite pos' hds2 l2 te hn su r ih =>
        intro w hx fl upx
        obtain ⟨b, hm, yes, no⟩ := w
        rcases fl.there with ⟨oe, vs, he, hz, hd⟩
        have Jx : Inv X pins σ' H' { s' with heap := hx } := J.landed nb fl.1 (up.trans upx) os ag
        have off : ∀ {hy : Heap} {oy : Obj} {vy : Array Value}, hy.FunFrames B (X.env :: X.outer) → hy.get? a = some oy → oy.data = .fields vy → a ≠ X.env.locals ∧ a ∉ X.fs := fun {hy oy vy} ff ey dy => by
          have nfr : a ∉ frs (X.env :: X.outer) := fun hm => by
            rcases ff.mem hm with ⟨_, o', e', hnf⟩
            rw [ey] at e'
            cases e'
            exact hnf _ dy
          refine ⟨fun z => nfr (List.mem_filterMap.mpr ⟨X.env, List.mem_cons_self, by rw [hf, z]⟩), fun hm => ?_⟩
          obtain ⟨e1, h1, q1⟩ := List.mem_filterMap.mp hm
          exact nfr (List.mem_filterMap.mpr ⟨e1, List.mem_cons_of_mem _ h1, q1⟩)
        obtain ⟨nL, nF⟩ := off fl.2.2.1 he hd
        refine wpAny_handleBy_cons (codeAny_handlers_test (te (Jx.suite he hd na nL nF) he hz.1 hm fun h4 kept => ?_)) (fun z => nomatch z)
        have fl4 := flying_keep kept fl
        have up4 : s'.heap.UpToSlots h4 := upx.trans (Heap.UpToSlots.of_keeps kept)
        cases b with
        | false => exact ih (no rfl) h4 fl4 up4
        | true =>
          have land : ∀ h5, HandSPX.FlyingZ B (X.env :: X.outer) a (Zc cls d) h5 → h4.UpToSlots h5 → ∃ oe5, Zc cls d oe5 ∧ (∃ vs, oe5.data = .fields vs) ∧ Inv (X.suite a ((a, oe5) :: (X.pn ++ pins))) [] σ' H' { s' with heap := h5 } := fun h5 fl5 up5 => by
            obtain ⟨oe5, vs5, he5, hz5, hd5⟩ := fl5.there
            obtain ⟨nL5, nF5⟩ := off fl5.2.2.1 he5 hd5
            have J5 : Inv X pins σ' H' { s' with heap := h5 } := J.landed (s' := { s' with heap := h5 }) nb fl5.1 (up.trans (up4.trans up5)) os ag
            exact ⟨oe5, hz5, ⟨_, hd5⟩, J5.suite he5 hd5 na nL5 nF5⟩
          match name, nm, hn with
          | none, none, _ =>
            refine codeAny_handlers_suite (HandSPX.lands_againZ fl4 fun h5 fl5 up5 => ?_)
            obtain ⟨oe5, hz5, hd5, S5⟩ := land h5 fl5 up5
            exact wpAny_mono ((su a oe5 cls d (X.pn ++ pins) hz5 hd5).run [] _ _ H' _ S5 (yes rfl a na)) (fun f s6 out => sp_back ok out (fun _ _ _ _ _ => ⟨id, id, id⟩) rfl) fun _ _ z => z.elim
          | some n, some i, ⟨hi, hln⟩ =>
            refine codeAny_handlers_suite_as (HandSPX.lands_againZ fl4 fun h5 fl5 up5 => ?_)
            obtain ⟨oe5, hz5, hd5, S5⟩ := land h5 fl5 up5
            refine store_ok (X := X.suite a ((a, oe5) :: (X.pn ++ pins))) (v := .ref a) S5 hN hi (.inl hln) rfl (fun s6 S6 => ?_) (.inr hln)
            refine wpAny_mono ((su a oe5 cls d (X.pn ++ pins) hz5 hd5).run [] s6 _ H' _ S6 (yes rfl a na)) (fun f s7 out => ?_) fun _ _ z => z.elim
            have ends : ∀ {σ7 : L2.St} {H7 : Hp} {Q : Shared → Prop}, Inv (X.suite a ((a, oe5) :: (X.pn ++ pins))) [] σ7 H7 s7 → (∀ s8, Inv X pins (σ7.set i none) H7 s8 → Q s8) →
                wpAny (model X.prog X.w) X.A (do bindName X.env n .none; unbindBehindTheSuite X.env n pos') (fun _ s8 => Q s8) X.xe s7 := fun S7 q => gone_ok (S7.unsuite ok) hN hi hln q
            cases f with
            | next => obtain ⟨σ7, H7, S7, q7⟩ := out; exact ends S7 fun s8 J8 => ⟨_, _, J8, q7⟩
            | brk => obtain ⟨σ7, H7, S7, q7⟩ := out; exact ends S7 fun s8 J8 => ⟨_, _, J8, q7⟩
            | cont => obtain ⟨σ7, H7, S7, q7⟩ := out; exact ends S7 fun s8 J8 => ⟨_, _, J8, q7⟩
            | ret u => obtain ⟨v7, σ7, H7, S7, r7, q7⟩ := out; exact ends S7 fun s8 J8 => ⟨_, _, _, J8, r7, q7⟩
    exact go hh wish h3 fl3 up3
  · cases f with
    | next => obtain ⟨σ', H', J, q⟩ := out; exact wpAny_execs_nil ⟨σ', H', J.ofTry ok, q⟩
    | brk => obtain ⟨σ', H', J, q⟩ := out; exact ⟨σ', H', J.ofTry ok, q⟩
    | cont => obtain ⟨σ', H', J, q⟩ := out; exact ⟨σ', H', J.ofTry ok, q⟩
    | ret u => obtain ⟨v, σ', H', J, r, q⟩ := out; exact ⟨v, σ', H', J.ofTry ok, r, q⟩
end
end U
namespace U
open PySem PySem.Spec PySem.Calls PyProof.Rows L2

/-! ### isinstance and fields of a caught exception of one's own, whatever its dict -/
section
variable {P : Program} {w : World} {A : Around} {E : Value → Shared → Prop} {s : Shared} {K : PySem.W.Frag} {x D : Addr} {ox : Obj} {od : Option Obj}
theorem found_data {name : Str} {a g : Value} (hc : (PySem.W.clsIn K D).isSome = true) (ha : PySem.W.findIn K (.ref D) name = some (some a)) (hg : PySem.W.specialIn K a "__get__" = some (some g)) (ht : PySem.W.takesIn K a = some true) : PySem.W.findObj K D od name = some (.bind g a) := by
  rcases Option.isSome_iff_exists.mp hc with ⟨cd, hc⟩
  simp [PySem.W.findObj, hc, ha, hg, ht]
/-- its __class__ -/
theorem class_asked (C : ExcC K D) {Q : Option Value → Shared → Prop} (X : K.In s.heap) (I : PySem.W.InstAt s.heap x ox D od) (h : Q (some (.ref D)) { s with toks := s.toks + 1 }) : wpAny (model P w) A (getAttr? (.ref x) "__class__") Q E s := by
  have is : (PySem.W.clsIn K D).isSome = true := by
    obtain ⟨cd, hc, _⟩ := PySem.W.any_some C.hd
    rw [hc]
    rfl
  have f0 := found_data (od := od) is C.ha C.hn C.ht
  obtain ⟨hp, g, d, t, os⟩ := s
  have l0 := I.type (M := model P w)
  have l1 := PySem.W.looks_findIn (M := model P w) X C.hg
  have l2 := PySem.W.looks_findIn (M := model P w) X C.hk
  have l3 := PySem.W.looks_find (M := model P w) X I f0
  have base : PySem.W.Looks (model P w) hp (isInstance (.ref x) (.type "BaseException")) true := l0.andThen (PySem.W.looks_subIn X C.hs)
  have n2 : (Value.builtin "BaseException.__getattribute__" == Value.builtin "object.__getattribute__") = false := by decide +kernel
  have n1 : (onTheHeap (Value.ref D) && Value.builtin "BaseException.__getattribute__" == Value.builtin "object.__getattribute__") = false := by rw [n2]; rfl
  unfold getAttr?; unfold getAttrBy?; unfold getAttrBy
  refine wpAny_bind (wpAny_mkText (wpAny_bind (wpAny_attempt (wpAny_holding (wpAny_bind (l0.at (wpAny_bind (l1.at ?_))))))))
  change wpAny _ _ (if (onTheHeap (Value.ref D) && Value.builtin "BaseException.__getattribute__" == Value.builtin "object.__getattribute__") = true then _ else _) _ _ _
  rw [n1, if_neg (show ¬ false = true by decide)]
  unfold getAttrByItsOwn; unfold hookBefore
  refine wpAny_bind (by
    rw [if_pos (show onTheHeap (Value.ref D) = true by rfl)]
    refine l2.at (wpAny_bind (wpAny_attempt (wpAny_holding ?_)))
    unfold callGetattribute
    rw [show (false && onTheHeap (Value.builtin "BaseException.__getattribute__")) = false from rfl, if_neg (show ¬ false = true by decide)]
    unfold boundAndCalled
    rw [PySem.F.excAttr_ValueError.ga.bind (Value.ref x)]
    refine wpAny_bind (m := pure _) (wpAny_pure ?_)
    change wpAny _ _ (call (.builtin "BaseException.__getattribute__") [.ref x, .str "__class__" t]) _ _ _
    refine wpAny_call (codeAny_call_builtin (PySem.F.excAttr_ValueError.ga.plain) PySem.F.entry_bexc_ga (@PySem.W.check_slot (model P w) _ _ ⟨hp, g, d, t + 1, os⟩ "BaseException.__getattribute__" "BaseException" "__getattribute__" (.ref x) [.str "__class__" t] [] _ (by decide +kernel) (by decide +kernel) base (PySem.F.args_bexc_ga (.ref x) (.str "__class__" t)) ?_))
    unfold PySem.Builtin.«object.__getattribute__»
    refine wpAny_bind (wpAny_of_eq (a := ((Value.ref x : Value), [Value.str "__class__" t])) (by first | rfl | (simp only [slotArgs]; rfl)) (wpAny_bind (wpAny_pure (wpAny_bind (l0.at (wpAny_bind (l3.at ?_)))))))
    change wpAny _ _ (holding [Value.builtin "object.__class__"] (call (.builtin "getset_descriptor.__get__") [.builtin "object.__class__", .ref x, .ref D]) >>= ret) _ _ _
    refine wpAny_bind (wpAny_holding (wpAny_call (PySem.W.class_get (s := ⟨hp, g, d, t + 1, os⟩) (ox := ox) (od := od) X I C.hm (wpAny_pure ?_))))
    change wpAny _ _ (handedOut (.ref D)) _ _ _
    rw [PySem.W.handedOut_of (v := .ref D) rfl]
    first
      | exact (wpAny_pure (wpAny_pure h))
      | exact wpAny_pure h
      | exact wpAny_pure (wpAny_bind (wpAny_pure (wpAny_pure h))))
theorem kit_exc (C : ExcC K D) : PySem.W.KitX K (.ref x) (.ref D) fun h => ∃ od, PySem.W.InstAt h x ox D od where
  ty := fun _ _ _ I => I.elim fun _ I => I.type
  it := fun _ _ X _ => by
    obtain ⟨cd, hc, _⟩ := PySem.W.any_some C.hd
    unfold PySem.W.clsIn at hc
    split at hc
    · rename_i at_
      intro A' Q' E' s' k q
      unfold isType loadHead
      exact wpAny_bind (wpAny_loadPart (k _ _ (X _ _ at_)) (wpAny_pure q))
    · cases hc
  ne := fun (h) tp dd its n sl X htp => by
    cases q : Value.ref D == .ref tp with
    | false => rfl
    | true =>
      cases Value.ref.inj (beq_iff_eq.mp q)
      obtain ⟨cd, hc, _⟩ := PySem.W.any_some C.hd
      unfold PySem.W.clsIn at hc
      split at hc
      · rename_i at_
        cases (X _ _ at_).symm.trans htp
      · cases hc
  ca := fun X I k => I.elim fun od I => class_asked (od := od) C X I k
end
theorem inst_exc {X : Cx} {a C dd : Addr} {oe : Obj} {pn pins : List (Addr × Obj)} {σ : L2.St} {H : Hp} {s : Shared} {fs : List (Str × V)} (hz : Zc (.ref C) (some dd) oe) (hf : ∃ vs, oe.data = .fields vs) (I : Inv (X.suite a ((a, oe) :: pn)) pins σ H s) (hd : H dd = some (.xd fs)) :
    ∃ od, PySem.W.InstAt s.heap a oe C (some od) ∧ ∀ n v, fs.lookup n = some v → ∃ u, PySem.W.lookIn n od = some (some u) ∧ RelV v u := by
  obtain ⟨vs, dat⟩ := hf
  obtain ⟨here, _⟩ := I.pin (a, oe) (List.mem_append.mpr (.inl (List.mem_cons_self)))
  have ok : ObjOk X.prog X.w H s.heap dd (.xd fs) := I.hok dd _ hd
  obtain ⟨mA, ns, rel⟩ := ok
  obtain ⟨od, ho, look⟩ := lookIn_ns ns
  refine ⟨od, ⟨here, hz.1, by unfold PySem.W.notCls; rw [dat] <;> rfl, by rw [hz.2]; exact ho⟩, fun n v e => ?_⟩
  obtain ⟨u, hu, ru⟩ := RelO.some_of (v := v) (o := mA n) (by rw [← e]; exact rel n)
  exact ⟨u, by rw [look, hu], ru⟩
/-- isinstance(e, c), e the exception of the suite -/
def rIsX (K : PySem.W.Frag) (a : Addr) (cls : Value) (d : Option Addr) : List V → Hp → VK → Prop := fun xs H Q => ∃ (D c dd : Addr) (fs : List (Str × V)) (b : Bool), xs = [.ref a, .ref c] ∧ cls = .ref D ∧ d = some dd ∧ H dd = some (.xd fs) ∧ ExcC K D ∧ PySem.W.kitOne K (.ref D) (.ref c) = some b ∧ Q (.bl b) H
theorem call_isX {X : Cx} {a : Addr} {cls : Value} {d : Option Addr} {oe : Obj} {pn : List (Addr × Obj)} (hz : Zc cls d oe) (hf : ∃ vs, oe.data = .fields vs) : CallR (X.suite a ((a, oe) :: pn)) (.builtin "isinstance") (rIsX X.K a cls d) := by
  intro pins s σ H xs us Q
  intro I r h
  obtain ⟨D, c, dd, fs, b, rfl, rfl, rfl, hd, C, kit, q⟩ := h
  obtain ⟨od, J, _⟩ := inst_exc hz hf I hd
  match us, r with
  | [_, _], .cons r1 (.cons r2 .nil) =>
    cases r1
    cases r2
    exact PySem.W.kia_one (kit_exc C) I.kIn ⟨_, J⟩ kit (fun z => nomatch z) fun tk => ⟨.bl b, H, I.kept (t' := tk) fun _ _ z => z, rfl, q⟩
/-- e.f, e the exception of the suite -/
def tXv (K : PySem.W.Frag) (a : Addr) (cls : Value) (d : Option Addr) (f : Str) (te : TE) : TE := fun σ H Q => te σ H fun x H1 => x = .ref a ∧ ∃ (C dd : Addr) (fs : List (Str × V)) (v : V), cls = .ref C ∧ d = some dd ∧ XfC K C ∧ PySem.W.findIn K (.ref C) f = some none ∧ H1 dd = some (.xd fs) ∧ fs.lookup f = some v ∧ Q v H1
theorem pe_xv {X : Cx} {a : Addr} {cls : Value} {d : Option Addr} {oe : Obj} {pn : List (Addr × Obj)} {e : Expr} {te : TE} {pos : Pos} {f : Str} (hz : Zc cls d oe) (hf : ∃ vs, oe.data = .fields vs) (he : PE (X.suite a ((a, oe) :: pn)) e te) (plain : attributeBase e f X.env (eval e X.env) = eval e X.env := by rfl) :
    PE (X.suite a ((a, oe) :: pn)) (.Attribute e f pos) (tXv X.K a cls d f te) := by
  refine .mk ?_
  intro ps s σ H Q I h
  refine attr_of plain (thn (he.run ps s σ H _ I h) fun u s1 out => ?_)
  obtain ⟨x, H1, I1, rx, rfl, C, dd, fs, v, rfl, rfl, T, no, hd, look, q⟩ := out
  obtain rfl : u = Value.ref a := rx
  obtain ⟨od, J, get⟩ := inst_exc hz hf I1 hd
  obtain ⟨u, hu, ru⟩ := get _ _ look
  exact HandSPX.exc_get I1.kIn J T.ga T.gg T.exC (PySem.W.findObj_own T.hdC no rfl hu) (handed_of ru) ⟨v, H1, I1.tok _, ru, q⟩
/-! ### calls in a try's body: what they may raise is told by the state -/
abbrev tFnS (sp : Sp) (W : WX) (t : TA) : TE := tCallS sp (WE W) t
section
variable {X : Cx} {k : Nat} {x C : Str} {ps : List Str} {sp : Sp} {W : WX} {p pos : Pos} {e : Expr} {es : List Expr} {t : TA}
theorem pe_foS (g : GoodO X.prog X.w X.K X.mg X.base k x ps sp) (hr : Room k X.A) (hg : Gl X x) (tk : Takes X W) (hpl : (backTo pos (starEach es X.env)).any (·.1) = false := by rfl) (he : starEach (e :: es) X.env = (false, eval e X.env) :: starEach es X.env := by rfl) (ha : PA X (e :: es) t)
    (hdb : (x == ("__debug__" : Str)) = false := by decide) : PE X (.Call (.Name x p) (e :: es) [] pos) (tFnS sp W t) := by
  obtain ⟨fd, F, hb⟩ := g.fn
  exact pe_callS F hr hg g.mg g.kp hb (passAt tk) ha hdb he hpl
/-- a new object of one's own class, made in a try's body -/
def tMakeS (C : Addr) (sp : Sp) (W : WX) (t : TA) : TE := fun σ H Q => t σ H fun vs H1 => ∀ x dx, H1 x = none → H1 dx = none → dx ≠ x → sp (.ref x :: vs) (upd (upd H1 dx (.own x)) x (.ins C dx [])) (fun v H2 => v = .non ∧ Q (.ref x) H2) (WE W σ)
theorem pe_mkS (g : GoodM X.prog X.w X.K X.mg X.base k C "__init__" ps sp) (M : Mk X.K (He.ga X.K C) (He.ma X.K (He.ga X.K C) "__init__")) (hm : X.mg C = some (.ref (He.ga X.K C))) (hr : Room (k + 1) X.A) (hg : Gl X C) (tk : Takes X W)
    (hpl : (backTo pos (starEach es X.env)).any (·.1) = false := by rfl) (he : starEach (e :: es) X.env = (false, eval e X.env) :: starEach es X.env := by rfl) (ha : PA X (e :: es) t)
    (hdb : (C == ("__debug__" : Str)) = false := by decide) : PE X (.Call (.Name C p) (e :: es) [] pos) (tMakeS (He.ga X.K C) sp W t) := by
  obtain ⟨fd, F, hb⟩ := g.fn
  refine .mk ?_
  intro pins s σ H Q I h
  refine wpAny_Call_Name_kw (ld_glob I hg hm (PySem.W.callWith_K (h₀ := X.base) I.ok.mod.kin M.kp (thn (ha.run pos pins s σ H _ I h) fun us s1 out => ?_) he hpl) hdb)
  obtain ⟨vs, H1, I1, r, q⟩ := out
  refine ⟨I1.kIn, ?_⟩
  have q1 := q (s1.heap.objs.size + 1) s1.heap.objs.size (I1.hok.fresh (Nat.le_succ _)) (I1.hok.fresh (Nat.le_refl _)) (Nat.ne_of_lt (Nat.lt_succ_self _))
  have I2 := Inv.made (C := He.ga X.K C) I1
  have r2 : Vals (V.ref (s1.heap.objs.size + 1) :: vs) (Value.ref (s1.heap.objs.size + 1) :: us) := .cons rfl r
  have hl : (Value.ref (s1.heap.objs.size + 1) :: us).length = ps.length := (r2.length.symm.trans (F.len _ _ _ _ q1))
  have bb := hb { s1 with heap := _ } (Value.ref (s1.heap.objs.size + 1) :: us) I2.kIn (by rw [List.append_nil]; exact hl)
  rw [List.append_nil] at bb
  refine wpAny_call (make_map (f := He.ma X.K (He.ga X.K C) "__init__") I1.kIn M.makes M.init (beq_iff_eq.mp M.fn) (codeAny_mono (F.run _ X.stack _ _ ⟨Value.ref (s1.heap.objs.size + 1) :: us, []⟩ _ _ _ _ (hr.make (He.ga X.K C) us []) (I2.env0.make (He.ga X.K C) us []) bb r2 q1) fun res s' out => ?_))
  match res, out with
  | .error er, out => exact passAt tk σ pins _ _ er s' I2 out
  | .ok (.ret u), out =>
    obtain ⟨v, H', I3, rv, ev, q3⟩ := I2.after out
    subst ev
    exact ⟨rv, ⟨V.ref (s1.heap.objs.size + 1), H', I3, rfl, q3⟩⟩
  | .ok .next, out => exact out.elim
  | .ok .brk, out => exact out.elim
  | .ok .cont, out => exact out.elim
theorem pe_fnS (g : Good X.prog X.w X.K X.mg X.base k x ps sp) (hA : X.A.guards = some []) (hr : Room k X.A) (hg : Gl X x) (tk : Takes X W) (hpl : (backTo pos (starEach es X.env)).any (·.1) = false := by rfl) (he : starEach (e :: es) X.env = (false, eval e X.env) :: starEach es X.env := by rfl) (ha : PA X (e :: es) t)
    (hdb : (x == ("__debug__" : Str)) = false := by decide) : PE X (.Call (.Name x p) (e :: es) [] pos) (tFnS sp W t) := by
  obtain ⟨fd, F, hb⟩ := g.fn
  refine .mk ?_
  intro pins s σ H Q I h
  refine wpAny_Call_Name_kw (ld_glob I hg g.mg (PySem.W.callWith_K (h₀ := X.base) I.ok.mod.kin g.kp (thn (ha.run pos pins s σ H _ I h) fun us s1 out => ?_) he hpl) hdb)
  obtain ⟨vs, H1, I1, r, q⟩ := out
  refine ⟨I1.kIn, ?_⟩
  have hl : (us ++ []).length = ps.length := by rw [List.append_nil, ← r.length]; exact F.len _ _ _ _ q
  have bb := hb s1 us I1.kIn hl
  rw [List.append_nil] at bb
  refine wpAny_call (codeAny_mono (F.go X.A hA X.stack s1 H1 ⟨us, []⟩ us vs Q _ hr I1.env0 bb r q) fun res s' out => ?_)
  match res, out with
  | .error er, out => exact passAt tk σ pins H1 s1 er s' I1 out
  | .ok (.ret u), out => exact I1.after out
  | .ok .next, out => exact out.elim
  | .ok .brk, out => exact out.elim
  | .ok .cont, out => exact out.elim
end
/-- a try as a statement -/
def tTry (Wout : WX) (tb : WX → TS) (l : List Clz) : TS := fun D σ H => tb (wCl Wout D l) D σ H
/-! ### what a law never comes to -/
def tNeverE : TE := fun _ _ _ => False
def tNeverS : TS := fun _ _ _ => False
theorem pe_never {X : Cx} {e : Expr} : PE X e tNeverE := ⟨fun _ _ _ _ _ _ h => h.elim⟩
theorem ps_never {X : Cx} {st : Stmt} : PS X st tNeverS := ⟨fun _ _ _ _ _ _ h => h.elim⟩
/-! ### one's own exceptions, all directly under one -/
structure XF (K : PySem.W.Frag) (B : Str) (cs : List Str) : Prop where
  m : ∀ x ∈ cs, ∀ y ∈ B :: cs, PySem.W.exmOne K (.ref (He.ga K x)) (.ref (He.ga K y)) = some (decide (y = B ∨ y = x))
  i : ∀ x ∈ cs, ∀ y ∈ B :: cs, PySem.W.kitOne K (.ref (He.ga K x)) (.ref (He.ga K y)) = some (decide (y = B ∨ y = x))
  c : ∀ x ∈ cs, ExcC K (He.ga K x)
  f : ∀ x ∈ cs, XfC K (He.ga K x)
  v : ∀ x ∈ cs, PySem.W.findIn K (.ref (He.ga K x)) "value" = some none
def excCB (K : PySem.W.Frag) (D : Addr) : Bool := decide (PySem.W.findIn K (.ref D) "__getattribute__" = some (some (.builtin "BaseException.__getattribute__"))) && (decide (PySem.W.findIn K (.ref D) "__getattr__" = some none) && (decide (PySem.W.subIn K (.ref D) (.type "BaseException") = some true) &&
  (PySem.W.hasDictIn K D && (decide (PySem.W.findIn K (.ref D) "__class__" = some (some (.builtin "object.__class__"))) && (decide (PySem.W.specialIn K (.builtin "object.__class__") "__get__" = some (some (.builtin "getset_descriptor.__get__"))) &&
  (decide (PySem.W.takesIn K (.builtin "object.__class__") = some true) && (decide (PySem.W.mroIn K D (.type "object") = some true) && decide (PySem.W.findIn K (.ref D) "value" = some none))))))))
def xFB (B : Str) (cs : List Str) (K : PySem.W.Frag) : Bool := cs.all fun x => excCB K (He.ga K x) && (B :: cs).all fun y => decide (PySem.W.exmOne K (.ref (He.ga K x)) (.ref (He.ga K y)) = some (decide (y = B ∨ y = x))) && decide (PySem.W.kitOne K (.ref (He.ga K x)) (.ref (He.ga K y)) = some (decide (y = B ∨ y = x)))
theorem xF_ok {K : PySem.W.Frag} {B : Str} {cs : List Str} (h : xFB B cs K = true) : XF K B cs := by
  have all : ∀ x ∈ cs, ExcC K (He.ga K x) ∧ PySem.W.findIn K (.ref (He.ga K x)) "value" = some none ∧ ∀ y ∈ B :: cs, PySem.W.exmOne K (.ref (He.ga K x)) (.ref (He.ga K y)) = some (decide (y = B ∨ y = x)) ∧ PySem.W.kitOne K (.ref (He.ga K x)) (.ref (He.ga K y)) = some (decide (y = B ∨ y = x)) := fun x hx => by
    have q := List.all_eq_true.mp h x hx
    rw [Bool.and_eq_true] at q
    obtain ⟨q1, q2⟩ := q
    unfold excCB at q1
    simp only [decide_eq_true_eq, Bool.and_eq_true] at q1
    obtain ⟨a1, a2, a3, a4, a5, a6, a7, a8, a9⟩ := q1
    refine ⟨⟨a1, a2, a3, a4, a5, a6, a7, a8⟩, a9, fun y hy => ?_⟩
    have z := List.all_eq_true.mp q2 y hy
    rw [Bool.and_eq_true] at z
    exact ⟨of_decide_eq_true z.1, of_decide_eq_true z.2⟩
  exact ⟨fun x hx y hy => ((all x hx).2.2 y hy).1, fun x hx y hy => ((all x hx).2.2 y hy).2, fun x hx => (all x hx).1, fun x hx => ⟨(all x hx).1.hg, (all x hx).1.hk, (all x hx).1.hs, (all x hx).1.hd⟩, fun x hx => (all x hx).2.1⟩
end U
namespace U
open PySem PySem.Spec PyProof.Rows L2

theorem ps_tryT {X : Cx} {body : List Stmt} {h0 : ExceptHandler} {hds : List ExceptHandler} {l : List Clz} {pos : Pos} {tb : WX → TS} {Wout : WX} (hs : X.stack = X.env :: X.outer) (hf : X.env.frame = some X.env.locals) (hN : X.N.Nodup) (tk : Takes X Wout)
    (hb : ∀ (W : WX) (pn : List (Addr × Obj)) (xe : Value → Shared → Prop), Takes (X.tr pn xe) W → PassesOwn (model X.prog X.w) X.A X.env xe → PSs (X.tr pn xe) body (tb W))
    (hh : ClsOk X (h0 :: hds) l) : PS X (.Try body (h0 :: hds) [] [] pos) (tTry Wout tb l) := ps_try_cl hs hf hN tk hb hh
/-! ### a classmethod of the module -/
def crB (K : PySem.W.Frag) (C : Addr) : Bool := PySem.W.readsIn K C (.type "type") && He.eqO (PySem.W.specialIn K (.ref C) "__getattribute__") (some (some (.builtin "type.__getattribute__")))
theorem crB_ok {K : PySem.W.Frag} {C : Addr} (h : crB K C = true) : ClX.CRead K C (.type "type") := by
  unfold crB at h
  rw [Bool.and_eq_true] at h
  exact ⟨h.1, He.eqO_ok h.2⟩
def cmB (K : PySem.W.Frag) (C : Addr) (m : Str) : Bool := He5.wrapB K C "classmethod" "classmethod.__get__" m && PySem.W.fnIn K (He5.wf K C "classmethod" m)
theorem cmB_ok {K : PySem.W.Frag} {C : Addr} {m : Str} (h : cmB K C m = true) : ClX.CMet K C (.type "type") m (He.ma K C m) (He5.wf K C "classmethod" m) := by
  unfold cmB at h
  rw [Bool.and_eq_true] at h
  exact He5.cmet_of h.1 h.2
/-- a classmethod that stands -/
structure GoodC (P : Program) (w : World) (K : PySem.W.Frag) (mg : Str → Option Value) (base : Heap) (k : Nat) (C m : Str) (ps : List Str) (sp : Sp) : Prop where
  fn : ∃ fd, FnOk P w K mg base (L2.CX P w) k (He5.wf K (He.ga K C) "classmethod" m) fd ps sp ∧ Binds K fd ps []
  rd : ClX.CRead K (He.ga K C) (.type "type")
  cm : ClX.CMet K (He.ga K C) (.type "type") m (He.ma K (He.ga K C) m) (He5.wf K (He.ga K C) "classmethod" m)
section
variable {X : Cx} {k : Nat} {C m : Str} {ps : List Str} {sp : Sp} {E : XK} {o e : Expr} {es : List Expr} {pos apos : Pos} {ta : TE} {t : TA} {pl : Sem Bool}
theorem pe_cm (g : GoodC X.prog X.w X.K X.mg X.base k C m ps sp) (he : PE X o ta) (hr : Room k X.A) (hx : Passes (L2.CX X.prog X.w) X E)
    (hst : starEach (e :: es) X.env = (false, eval e X.env) :: starEach es X.env := by rfl) (hpl : (backTo pos (starEach es X.env)).any (·.1) = false := by rfl) (ha : PA X (e :: es) t)
    (ht : eval (.Call (.Attribute o m apos) (e :: es) [] pos) X.env = (do
      let ov ← eval o X.env
      standAt apos.atName
      let (f, first) ← holding [ov] (getMethod ov m pl)
      callWith pos f first (backTo pos (starEach (e :: es) X.env)) (backToKw pos (keywordEach [] X.env))) := by rfl) :
    PE X (.Call (.Attribute o m apos) (e :: es) [] pos) (ClX.tCMeth (He.ga X.K C) (fun vs H Q E => sp (vs ++ []) H Q E) E ta t) := by
  obtain ⟨fd, F, hb⟩ := g.fn
  exact ClX.pe_cmeth he g.rd g.cm (F.raw hb .nil) hr hx ha hst hpl ht
end
def tCm (C : Addr) (sp : Sp) (E : XK) (ta : TE) (t : TA) : TE := fun σ H Q => ta σ H fun x H1 => x = .ref C ∧ t σ H1 fun vs H2 => sp (.ref C :: vs) H2 Q E
theorem tCm_eq (C : Addr) (sp : Sp) (E : XK) (ta : TE) (t : TA) : ClX.tCMeth C (fun vs H Q E => sp (vs ++ []) H Q E) E ta t = tCm C sp E ta t := by
  unfold ClX.tCMeth tCm
  simp only [List.append_nil]
theorem pe_cm' {X : Cx} {k : Nat} {C m : Str} {ps : List Str} {sp : Sp} {E : XK} {o e : Expr} {es : List Expr} {pos apos : Pos} {ta : TE} {t : TA} {pl : Sem Bool} (g : GoodC X.prog X.w X.K X.mg X.base k C m ps sp) (he : PE X o ta) (hr : Room k X.A) (hx : Passes (L2.CX X.prog X.w) X E)
    (hst : starEach (e :: es) X.env = (false, eval e X.env) :: starEach es X.env := by rfl) (hpl : (backTo pos (starEach es X.env)).any (·.1) = false := by rfl) (ha : PA X (e :: es) t)
    (ht : eval (.Call (.Attribute o m apos) (e :: es) [] pos) X.env = (do
      let ov ← eval o X.env
      standAt apos.atName
      let (f, first) ← holding [ov] (getMethod ov m pl)
      callWith pos f first (backTo pos (starEach (e :: es) X.env)) (backToKw pos (keywordEach [] X.env))) := by rfl) :
    PE X (.Call (.Attribute o m apos) (e :: es) [] pos) (tCm (He.ga X.K C) sp E ta t) := tCm_eq (He.ga X.K C) sp E ta t ▸ pe_cm g he hr hx hst hpl ha ht
/-! ### sorted(text), fewer than 64 signs -/
def rSortTx : List V → Hp → VK → Prop := fun xs H Q => ∃ z : Str, xs = [.str z] ∧ z.length < 64 ∧ ∀ (ys : List Str) (p : Addr), ys.Perm (z.cps.toList.map fun c => (⟨#[c]⟩ : Str)) → sortedS ys = true → H p = none → Q (.ref p) (upd H p (.lst (ys.map V.str)))
theorem strs_signs {z : Str} {acc : Array Value} (h : ItemsOf (SignAt z) acc z.cps.size) : StrsAre acc.toList (z.cps.toList.map fun c => (⟨#[c]⟩ : Str)) := by
  have v := vals_signs h
  have e : strL z = (z.cps.toList.map fun c => (⟨#[c]⟩ : Str)).map V.str := by
    unfold strL
    rw [List.map_map]
    rfl
  rw [e] at v
  exact strsAre_of v
theorem call_sortTx {X : Cx} (calm : X.calm = true) : CallR X (.builtin "sorted") rSortTx := by
  intro ps s σ H xs us R I r h
  obtain ⟨z, rfl, few, q⟩ := h
  obtain ⟨_, rfl, t, rfl⟩ := vals1 r
  have few' : z.cps.size < 64 := few
  apply Calls.call_function_entry kind_sorted plain_sorted entry_sorted (args_sorted1 _)
  unfold Builtin.«sorted»
  refine wpAny_bind (m := checkCount _ 1 1 _) (wpAny_pure ?_)
  refine wpAny_bind (wpAny_collect_str (A := X.A.in1) (by exact I.ok.hd calm) z t (fun s' acc kept g1 g2 g3 items => ?_) (Nat.le_trans (Nat.le_of_lt few') (show 64 ≤ sizeLine by decide)))
  obtain ⟨h2, g, d, tk, os⟩ := s'
  obtain rfl : g = s.gens := g1
  obtain rfl : d = s.drawn := g2
  obtain rfl : os = s.os := g3
  have are := strs_signs items
  have len2 : acc.toList.length = z.cps.size := by rw [Array.length_toList, items.1]
  have I3 : Inv X ps σ H { s with heap := h2, toks := tk } := I.kept kept
  refine wpAny_bind (wpAny_newList ?_ (Nat.le_trans (Nat.le_of_lt (len2 ▸ few')) (show 64 ≤ sizeLine by decide)))
  have fresh : (h2.push (seqObj "list" acc.toList.toArray 0)).get? h2.objs.size = some (seqObj "list" acc.toList.toArray 0) := Heap.get?_push_size _ rfl
  show wpAny _ _ _ _ _ { s with toks := tk, heap := h2.push (seqObj "list" acc.toList.toArray 0) }
  refine wpAny_bind (wpAny_holding (wpAny_call_entry slot_list_sort ⟨_, fresh, rfl⟩ entry_list_sort (list_sort_treeK strKind_oneLt (s := { s with toks := tk, heap := h2.push (seqObj "list" acc.toList.toArray 0) }) fresh are.keysOf (fun v1 v2 rest e => keyKind_strs (by rw [← e]; exact are)) (by rw [len2]; exact few') fun st' hp hs => ?_) (args_list_sort _)))
  obtain ⟨ys, shown, perm, rising⟩ := sorted_out_str are hp hs
  refine ⟨_, rfl, ?_⟩
  have ⟨cap, now⟩ := sortedHeap_at (vs := acc.toList) (out := (arrOf st').map (·.2)) fresh
  have short : (ys.map V.str).length ≤ sizeLine := by
    rw [List.length_map, perm.length_eq, List.length_map, Array.length_toList]
    exact Nat.le_trans (Nat.le_of_lt few') (show 64 ≤ sizeLine by decide)
  apply wpAny_pure
  refine ⟨_, rfl, .ref h2.objs.size, _, I3.laid (o := .lst (ys.map V.str)) (t' := tk) ?_ (Nat.le_refl _) ⟨short, ((arrOf st').map (·.2)).toList, cap, vals_of_strs shown, by rw [Array.toArray_toList]; exact now⟩, rfl, q ys _ perm rising (I3.hok.fresh (Nat.le_refl _))⟩
  intro b u e
  have lt := Heap.lt_size e
  rw [sortedHeap_old (Nat.ne_of_lt lt) (size_push' _ _ ▸ Nat.lt_succ_of_lt lt)]
  exact Heap.get?_push_of_some _ (by exact e)
end U
namespace U
open PySem PySem.Spec PyProof.Rows L2

/-! ### texts of data are texts -/
theorem ok_app {a b : Str} (ha : PyData.strOk a = true) (hb : PyData.strOk b = true) : PyData.strOk (a ++ b) = true := by
  show (a.cps ++ b.cps).all (· < 0x110000) = true
  rw [Array.all_append]
  exact Bool.and_eq_true_iff.mpr ⟨ha, hb⟩
theorem ok_of (s : String) : PyData.strOk (Str.ofString s) = true := by
  rw [Str.ofString_eq_toList]
  show ((s.toList.map Char.toNat).toArray).all (· < 0x110000) = true
  rw [List.all_toArray, List.all_eq_true]
  intro n hn
  obtain ⟨c, _, rfl⟩ := List.mem_map.mp hn
  refine decide_eq_true ?_
  have := c.valid
  unfold Char.toNat
  rcases this with h | ⟨_, h⟩
  · exact Nat.lt_trans h (by decide)
  · exact h
theorem ok_join {sep : Str} (hs : PyData.strOk sep = true) : ∀ {ts : List Str}, (∀ t ∈ ts, PyData.strOk t = true) → PyData.strOk (Str.join sep ts) = true
  | [], _ => by show PyData.strOk Str.empty = true; decide +kernel
  | [x], h => h x List.mem_cons_self
  | x :: y :: r, h => ok_app (ok_app (h x List.mem_cons_self) hs) (ok_join hs fun t m => h t (List.mem_cons_of_mem _ m))
theorem ok_from : ∀ {ts : List Str} {k : Nat} {acc : Str}, PyData.strOk acc = true → (∀ t ∈ ts, PyData.strOk t = true) → PyData.strOk (textFrom k acc ts) = true
  | [], _, _, ha, _ => ha
  | t :: r, k, acc, ha, h => by
    unfold textFrom
    exact ok_from (ok_app (ok_app ha (ok_of _)) (h t List.mem_cons_self)) fun x m => h x (List.mem_cons_of_mem _ m)
mutual
/-- all texts in it are shown by texts -/
def fine : PyData → Bool
  | .none | .int _ | .bool _ => true
  | .str x => PyData.strOk (reprText x)
  | .list xs | .tuple xs => fineAll xs
  | .dict kvs => fineKv kvs
def fineAll : List PyData → Bool
  | [] => true
  | x :: xs => fine x && fineAll xs
def fineKv : List (PyData × PyData) → Bool
  | [] => true
  | (k, v) :: r => fine k && (fine v && fineKv r)
end
mutual
theorem ok_shown : ∀ d : PyData, fine d = true → PyData.strOk d.shown = true
  | .none, _ => by decide +kernel
  | .bool true, _ => by decide +kernel
  | .bool false, _ => by decide +kernel
  | .int i, _ => by rw [PyData.shown_int]; exact ok_of _
  | .str x, h => by rw [PyData.shown_str]; simpa only [fine] using h
  | .list xs, h => by
    have q := ok_shownAll xs (by simpa only [fine] using h)
    rw [PyData.shown]
    exact ok_app (ok_from (ok_of _) q) (ok_of _)
  | .tuple xs, h => by
    have q := ok_shownAll xs (by simpa only [fine] using h)
    rw [PyData.shown]
    exact ok_app (ok_app (ok_of _) (ok_join (ok_of _) q)) (ok_of _)
  | .dict kvs, h => by
    have q := ok_shownKv kvs (by simpa only [fine] using h)
    rw [PyData.shown]
    exact ok_app (ok_app (ok_of _) (ok_join (ok_of _) q)) (ok_of _)
theorem ok_shownAll : ∀ xs : List PyData, fineAll xs = true → ∀ t ∈ PyData.shownAll xs, PyData.strOk t = true
  | [], _, t, m => by rw [PyData.shownAll] at m; cases m
  | x :: r, h, t, m => by
    have h : fine x = true ∧ fineAll r = true := by simpa only [fineAll, Bool.and_eq_true] using h
    rw [PyData.shownAll] at m
    rcases List.mem_cons.mp m with rfl | m
    · exact ok_shown x h.1
    · exact ok_shownAll r h.2 t m
theorem ok_shownKv : ∀ kvs : List (PyData × PyData), fineKv kvs = true → ∀ t ∈ PyData.shownKv kvs, PyData.strOk t = true
  | [], _, t, m => by rw [PyData.shownKv] at m; cases m
  | (k, v) :: r, h, t, m => by
    have h : fine k = true ∧ fine v = true ∧ fineKv r = true := by simpa only [fineKv, Bool.and_eq_true] using h
    rw [PyData.shownKv] at m
    rcases List.mem_cons.mp m with rfl | m
    · exact ok_app (ok_app (ok_shown k h.1) (ok_of _)) (ok_shown v h.2.1)
    · exact ok_shownKv r h.2.2 t m
end
/-! ### data with dicts in it -/
def kD : Key → PyData
  | .inl i => .int i
  | .inr x => .str x
mutual
inductive Dq (K : PySem.W.Frag) (H : Hp) : V → PyData → Prop
  | qnon : Dq K H .non .none
  | qbl (b : Bool) : Dq K H (.bl b) (.bool b)
  | qint (i : Int) : Dq K H (.int i) (.int i)
  | qstr (x : Str) : Dq K H (.str x) (.str x)
  | qlst {l : Addr} {vs : List V} {es : List PyData} : SqL K H l vs → DqAll K H vs es → Dq K H (.ref l) (.list es)
  | qtup {l : Addr} {vs : List V} {es : List PyData} : SqT K H l vs → DqAll K H vs es → Dq K H (.ref l) (.tuple es)
  | qdct {l : Addr} {kvs : List (Key × V)} {es : List (PyData × PyData)} : H l = some (.dK kvs) → es.map (·.1) = kvs.map (fun p => kD p.1) → DqAll K H (kvs.map (·.2)) (es.map (·.2)) → Dq K H (.ref l) (.dict es)
inductive DqAll (K : PySem.W.Frag) (H : Hp) : List V → List PyData → Prop
  | qnil : DqAll K H [] []
  | qcons {x : V} {xs : List V} {e : PyData} {es : List PyData} : Dq K H x e → DqAll K H xs es → DqAll K H (x :: xs) (e :: es)
end
/-- the interpreter's own table of modules is a dict -/
def sysB (K : PySem.W.Frag) : Bool := match K.lookup sysModules with
  | some o => decide (o.cls = .type "dict")
  | none => false
def KS (K : PySem.W.Frag) : Prop := ∃ o, K.lookup sysModules = some o ∧ o.cls = .type "dict"
theorem kS_ok {K : PySem.W.Frag} (h : sysB K = true) : KS K := by
  unfold sysB at h
  split at h
  · rename_i o e
    exact ⟨o, e, of_decide_eq_true h⟩
  · cases h
theorem kv_vals {kvs : List (Key × V)} {vs : List (Key × Value)} (h : KV kvs vs) : kvs.map (fun p => kD p.1) = vs.map (fun p => kD p.1) ∧ Vals (kvs.map (·.2)) (vs.map (·.2)) := by
  induction h with
  | nil => exact ⟨rfl, .nil⟩
  | cons r _ ih => exact ⟨by rw [List.map_cons, List.map_cons, r.1, ih.1], .cons r.2 ih.2⟩
theorem keys_read {P : Program} {w : World} {h : Heap} {es : List DictEntry} {vs : List (Key × Value)} (p : Pairs (mixKind P w) es vs) : ReadsAll h (es.map (·.key)) (vs.map fun p => kD p.1) [] ∧ es.map (·.val) = vs.map (·.2) := by
  induction p with
  | nil => exact ⟨.nil, rfl⟩
  | @cons e kv es kvs a b _ ih =>
    refine ⟨?_, by rw [List.map_cons, List.map_cons, b, ih.2]⟩
    have q : Reads h e.key (kD kv.1) [] := by
      rcases keyIs_shape a with ⟨i, t, e1, e2⟩ | ⟨x, t, e1, e2⟩
      · rw [e1, e2]; exact .int i t
      · rw [e1, e2]; exact .str x t
    exact ReadsAll.cons q ih.1
section
variable {X : Cx} {pins : List (Addr × Obj)} {σ : L2.St} {H : Hp} {s : Shared} {v : V} {d : PyData}
theorem Dq.reads (S : KS X.K) (I : Inv X pins σ H s) (h : Dq X.K H v d) : ∀ u, RelV v u → ∃ as, sysModules ∉ as ∧ Reads s.heap u d as := by
  obtain ⟨o0, so, sc⟩ := S
  have here := I.kIn _ _ so
  have other : ∀ l o, s.heap.get? l = some o → o.cls = .type "list" → sysModules ≠ l := by
    intro l o e c q
    rw [← q, here] at e
    cases e
    rw [sc] at c
    exact absurd c (by decide)
  refine Dq.rec (motive_1 := fun v d _ => ∀ u, RelV v u → ∃ as, sysModules ∉ as ∧ Reads s.heap u d as) (motive_2 := fun vs ds _ => ∀ us, Vals vs us → ∃ as, sysModules ∉ as ∧ ReadsAll s.heap us ds as) ?_ ?_ ?_ ?_ ?_ ?_ ?_ ?_ ?_ h
  · intro u r; cases r; exact ⟨_, by simp, .none⟩
  · intro b u r; cases r; exact ⟨_, by simp, .bool b⟩
  · intro i u r; obtain ⟨t, rfl⟩ := r; exact ⟨_, by simp, .int i t⟩
  · intro x u r; obtain ⟨t, rfl⟩ := r; exact ⟨_, by simp, .str x t⟩
  · intro l vs es hs _ ih u r
    cases r
    rcases I.list hs with ⟨its, rv, ⟨o, n, ho, hc, _, hd⟩, _⟩
    obtain ⟨as, na, q⟩ := ih _ rv
    exact ⟨_, fun m => (List.mem_cons.mp m).elim (other l o ho hc) na, Reads.list ho hc hd q⟩
  · intro l vs es hs _ ih u r
    cases r
    rcases I.tuple hs with ⟨its, rv, ⟨o, ho, hc, n, hd⟩, _⟩
    obtain ⟨as, na, q⟩ := ih _ rv
    exact ⟨_, na, Reads.tuple ho hc hd q⟩
  · intro l kvs es e ek _ ih u r
    cases r
    obtain ⟨_, nS, vs, rel, o, ents, ep, ho, hx, hdat, _, hp, _⟩ := dk_of I.hok e
    have kv := kv_vals rel
    obtain ⟨as, na, q⟩ := ih _ kv.2
    have kr := keys_read (h := s.heap) hp
    rw [← kv.1, ← ek] at kr
    rw [← kr.2] at q
    refine ⟨l :: [] ++ as, fun m => ?_, Reads.dict ho hx.1 hdat kr.1 q⟩
    rcases List.mem_cons.mp m with m | m
    · rw [← m] at nS
      exact absurd nS (by decide)
    · exact na m
  · intro us r; cases r; exact ⟨_, by simp, .nil⟩
  · intro x xs e es _ _ i1 i2 us r
    cases r with
    | cons r1 r2 =>
      obtain ⟨as, na, q1⟩ := i1 _ r1
      obtain ⟨bs, nb, q2⟩ := i2 _ r2
      exact ⟨_, fun m => (List.mem_append.mp m).elim na nb, ReadsAll.cons q1 q2⟩
theorem Dq.same {K : PySem.W.Frag} {H H' : Hp} {v : V} {d : PyData} (e : Same H H') (h : Dq K H v d) : Dq K H' v d :=
  Dq.rec (motive_1 := fun v d _ => Dq K H' v d) (motive_2 := fun vs ds _ => DqAll K H' vs ds) .qnon .qbl .qint .qstr (fun s _ ih => .qlst (Same.seq e s) ih) (fun s _ ih => .qtup (Same.sqT e s) ih) (fun at_ k _ ih => .qdct (e _ _ at_) k ih) .qnil (fun _ _ a b => .qcons a b) h
/-- the text of any data, dicts among them -/
def uReprQ (K : PySem.W.Frag) : List V → Hp → VK → Prop := fun xs H Q => ∃ v d, xs = [v] ∧ Dq K H v d ∧ d.showable = true ∧ d.depth ≤ 60 ∧ d.shown.length ≤ sizeLine ∧ Q (.str d.shown) H
theorem call_uReprQ (hA : X.A.guards = some []) (hu : X.A.units + 64 < cLine) (S : KS X.K) : CallR X (.builtin "repr") (uReprQ X.K) := by
  intro ps s σ H xs us R I r h
  obtain ⟨v, d, rfl, hd, hs, hz, hl, q⟩ := h
  cases hd with
  | qnon =>
    obtain ⟨_, rfl, same⟩ := vals1 r
    cases same
    rw [PyData.shown] at q
    exact PySem.P.repr_of_none ⟨.str _, H, I.tok _, ⟨_, rfl⟩, q⟩
  | qbl b =>
    obtain ⟨_, rfl, same⟩ := vals1 r
    cases same
    refine PySem.P.repr_of_bool ⟨.str _, H, I.tok _, ⟨s.toks, ?_⟩, q⟩
    cases b <;> rfl
  | qint i =>
    obtain ⟨_, rfl, t, rfl⟩ := vals1 r
    rw [PyData.shown_int] at q
    refine PySem.P.repr_of_int ?_ ⟨.str _, H, I.tok _, ⟨_, rfl⟩, q⟩
    simpa [PyData.showable] using hs
  | qstr x =>
    obtain ⟨_, rfl, t, rfl⟩ := vals1 r
    rw [PyData.shown_str] at q hl
    exact PySem.P.repr_of_str ⟨.str _, H, I.tok _, ⟨_, rfl⟩, q⟩ hl
  | qlst a b =>
    obtain ⟨_, rfl, same⟩ := vals1 r
    cases same
    obtain ⟨as, na, rr⟩ := Dq.reads S I (.qlst a b) _ rfl
    exact repr_of_reads' rr hs (fun _ => na) hA (by omega) (fun _ _ z => z) (fun h' u tk k => ⟨.str _, H, I.kept (t' := tk) k, ⟨_, rfl⟩, q⟩) hl
  | qtup a b =>
    obtain ⟨_, rfl, same⟩ := vals1 r
    cases same
    obtain ⟨as, na, rr⟩ := Dq.reads S I (.qtup a b) _ rfl
    exact repr_of_reads' rr hs (fun _ => na) hA (by omega) (fun _ _ z => z) (fun h' u tk k => ⟨.str _, H, I.kept (t' := tk) k, ⟨_, rfl⟩, q⟩) hl
  | qdct a b c =>
    obtain ⟨_, rfl, same⟩ := vals1 r
    cases same
    obtain ⟨as, na, rr⟩ := Dq.reads S I (.qdct a b c) _ rfl
    exact repr_of_reads' rr hs (fun _ => na) hA (by omega) (fun _ _ z => z) (fun h' u tk k => ⟨.str _, H, I.kept (t' := tk) k, ⟨_, rfl⟩, q⟩) hl
end
end U
namespace U
open PySem PySem.Spec PySem.Calls PyProof.Rows L2

/-! ### cls(..): an object of one's own class, whose class stands in a local name -/
def tMakeL (i : Nat) (C : Addr) (sp : Sp) (E : XK) (t : TA) : TE := fun σ H Q => σ[i]? = some (some (.ref C)) ∧ t σ H fun vs H1 => ∀ y dy, H1 y = none → H1 dy = none → dy ≠ y → sp (.ref y :: vs) (upd (upd H1 dy (.own y)) y (.ins C dy [])) (fun v H2 => v = .non ∧ Q (.ref y) H2) E
section
variable {X : Cx} {k i : Nat} {x C : Str} {ps : List Str} {sp : Sp} {E : XK} {p pos : Pos} {e : Expr} {es : List Expr} {t : TA}
theorem pe_mkL (g : GoodM X.prog X.w X.K X.mg X.base k C "__init__" ps sp) (M : Mk X.K (He.ga X.K C) (He.ma X.K (He.ga X.K C) "__init__")) (hr : Room (k + 1) X.A) (hN : X.N[i]? = some x) (hv : Vis X.env.scope x) (kp : PySem.W.keepIn X.K (.ref (He.ga X.K C)) = true) (hx : Passes (L2.CX X.prog X.w) X E)
    (hpl : (backTo pos (starEach es X.env)).any (·.1) = false := by rfl) (he : starEach (e :: es) X.env = (false, eval e X.env) :: starEach es X.env := by rfl) (ha : PA X (e :: es) t)
    (hdb : (x == ("__debug__" : Str)) = false := by decide) (hcd : (x == ("__classdict__" : Str)) = false := by decide) : PE X (.Call (.Name x p) (e :: es) [] pos) (tMakeL i (He.ga X.K C) sp E t) := by
  obtain ⟨fd, F, hb⟩ := g.fn
  refine .mk ?_
  intro pins s σ H Q I h
  obtain ⟨here, h⟩ := h
  refine wpAny_Call_Name_kw (thn ((pe_var (pos := p) hN hv hdb hcd).run pins s σ H (fun v H1 => v = .ref (He.ga X.K C) ∧ H1 = H) I ⟨_, here, rfl, rfl⟩) fun u s0 out0 => ?_)
  obtain ⟨v0, H0, I0, r0, e1, e2⟩ := out0
  subst e1 e2
  obtain rfl : u = Value.ref (He.ga X.K C) := r0
  refine PySem.W.callWith_K (h₀ := X.base) I0.ok.mod.kin kp (thn (ha.run pos pins s0 σ _ _ I0 h) fun us s1 out => ?_) he hpl
  obtain ⟨vs, H1, I1, r, q⟩ := out
  refine ⟨I1.kIn, ?_⟩
  have q1 := q (s1.heap.objs.size + 1) s1.heap.objs.size (I1.hok.fresh (Nat.le_succ _)) (I1.hok.fresh (Nat.le_refl _)) (Nat.ne_of_lt (Nat.lt_succ_self _))
  have I2 := Inv.made (C := He.ga X.K C) I1
  have r2 : Vals (V.ref (s1.heap.objs.size + 1) :: vs) (Value.ref (s1.heap.objs.size + 1) :: us) := .cons rfl r
  have hl : (Value.ref (s1.heap.objs.size + 1) :: us).length = ps.length := (r2.length.symm.trans (F.len _ _ _ _ q1))
  have bb := hb { s1 with heap := _ } (Value.ref (s1.heap.objs.size + 1) :: us) I2.kIn (by rw [List.append_nil]; exact hl)
  rw [List.append_nil] at bb
  refine wpAny_call (make_map (f := He.ma X.K (He.ga X.K C) "__init__") I1.kIn M.makes M.init (beq_iff_eq.mp M.fn) (codeAny_mono (F.run _ X.stack _ _ ⟨Value.ref (s1.heap.objs.size + 1) :: us, []⟩ _ _ _ _ (hr.make (He.ga X.K C) us []) (I2.env0.make (He.ga X.K C) us []) bb r2 q1) fun res s' out => ?_))
  match res, out with
  | .error er, out => exact hx pins _ _ _ er s' I2 out
  | .ok (.ret u), out =>
    obtain ⟨v, H', I3, rv, ev, q3⟩ := I2.after out
    subst ev
    exact ⟨rv, ⟨V.ref (s1.heap.objs.size + 1), H', I3, rfl, q3⟩⟩
  | .ok .next, out => exact out.elim
  | .ok .brk, out => exact out.elim
  | .ok .cont, out => exact out.elim
end
/-! ### o.m(k = v, ..): all arguments by their names -/
def tMethK (C : Addr) (m : Str) (j : Nat) (sp : Sp) (gV : List V → List V → List V) (E : XK) (ta : TE) (tk : TA) : TE := fun σ H Q => ta σ H fun x H1 => ∃ a dx fs, x = .ref a ∧ H1 a = some (.ins C dx fs) ∧ fs.lookup m = none ∧ tk σ H1 fun zs H2 => zs.length = j ∧ sp (gV [x] zs) H2 Q E
section
variable {X : Cx} {CX : CXT} {k : Nat} {f C : Addr} {fd : FuncData} {ps ks : List Str} {sp : Sp} {E : XK} {m : Str} {pos apos : Pos} {o : Expr} {kws : List Keyword} {ta : TE} {tk : TA} {g : List Value → List Value → List Value} {gV : List V → List V → List V} {pl : Sem Bool}
theorem pe_methK (he : PE X o ta) (c : Cls X.K C) (hm : Meth X.K C m f) (F : FnOk X.prog X.w X.K X.mg X.base CX k f fd ps sp) (hr : Room k X.A) (hb : KBn X.K fd ps 1 ks g gV) (hx : Passes CX X E) (hkw : PK X kws tk)
    (hall : (backToKw pos (keywordEach kws X.env)).all (·.1.isSome) = true := by rfl) (hks : (backToKw pos (keywordEach kws X.env)).filterMap (·.1) = ks := by rfl)
    (hpl : ((backTo pos (starEach [] X.env)).any (·.1) || (backToKw pos (keywordEach kws X.env)).any (·.1.isNone)) = false := by rfl)
    (ht : eval (.Call (.Attribute o m apos) [] kws pos) X.env = (do
      let ov ← eval o X.env
      standAt apos.atName
      let (f, first) ← holding [ov] (getMethod ov m pl)
      callWith pos f first (backTo pos (starEach [] X.env)) (backToKw pos (keywordEach kws X.env))) := by rfl) :
    PE X (.Call (.Attribute o m apos) [] kws pos) (tMethK C m ks.length sp gV E ta tk) := by
  refine .mk ?_
  intro pins s σ H Q I h
  refine PySem.W.methodCall_KW (pl := pl) (thn (he.run pins s σ H _ I h) fun u s1 out => ?_) ht
  obtain ⟨x, H1, I1, rx, a, dx, fs, ex, ea, l, q⟩ := out
  subst ex
  obtain rfl : u = Value.ref a := rx
  refine getmeth_ok I1 ea c hm l ?_
  refine PySem.W.callWith_KW0 (first := [.ref a]) (h₀ := X.base) I.ok.mod.kin hm.kp hall (thn (hkw.run pos pins s1 σ H1 _ I1 q) fun ws s2 out => ?_) hpl
  obtain ⟨zs, H2, I2, rz, l2, q2⟩ := out
  refine ⟨I2.kIn, ?_⟩
  rw [hks]
  exact run_fnN (us := [.ref a]) (vs := [.ref a]) F hr hb hx I2 (.cons rfl .nil) rz rfl l2 q2
end
/-- without defaults: how the names' values come to their places -/
theorem kbN {K : PySem.W.Frag} {x qual : Str} {params : Arguments} {body : List Stmt} {scope : Scope} {kws : List (Str × V)} {f : Addr} {fd : FuncData} {ps : List Str} (F : FunD K x qual params body scope [] kws f fd) (n : Nat) (ks : List Str) (g : {α : Type} → List α → List α → List α)
    (rel : ∀ {vs zs : List V} {us ws : List Value}, Vals vs us → Vals zs ws → Vals (g vs zs) (g us ws))
    (h : ∀ (kV doc pm : Value) (an : Option Addr) (cdv ct : Value) (us ws : List Value), us.length = n → ws.length = ks.length → bindArgs (PySem.W.fnOf x qual params body scope .none kV doc pm an cdv ct) ⟨us, ks.zip ws⟩ = pure (ps.zip (g us ws))) : KBn K fd ps n ks (fun us ws => g us ws) (fun vs zs => g vs zs) := by
  obtain ⟨_, _, _, kV, doc, pm, an, cdv, ct, _, rfl, _, _, hD, _⟩ := F.ex
  rcases hD with ⟨_, rfl⟩ | ⟨ne, _⟩
  · exact ⟨fun s us ws _ l1 l2 => .of_eq (h kV doc pm an cdv ct us ws l1 l2), fun r1 r2 => rel r1 r2⟩
  · exact absurd rfl ne
/-- the written values first, then those that were given by names, in the places' order -/
def kwP {α : Type} (ix : List Nat) (vs zs : List α) : List α := vs ++ ix.filterMap fun i => zs[i]?
theorem vals_get {zs : List V} {ws : List Value} (h : Vals zs ws) : ∀ i : Nat, (zs[i]? = none ∧ ws[i]? = none) ∨ ∃ v u, zs[i]? = some v ∧ ws[i]? = some u ∧ RelV v u := by
  induction h with
  | nil => exact fun i => .inl ⟨rfl, rfl⟩
  | cons r _ ih =>
    intro i
    cases i with
    | zero => exact .inr ⟨_, _, rfl, rfl, r⟩
    | succ j => exact ih j
theorem kwP_rel (ix : List Nat) {vs zs : List V} {us ws : List Value} (h1 : Vals vs us) (h2 : Vals zs ws) : Vals (kwP ix vs zs) (kwP ix us ws) := by
  refine h1.append ?_
  induction ix with
  | nil => exact .nil
  | cons i r ih =>
    rcases vals_get h2 i with ⟨e1, e2⟩ | ⟨v, u, e1, e2, q⟩
    · rw [List.filterMap_cons_none e1, List.filterMap_cons_none e2]
      exact ih
    · rw [List.filterMap_cons_some e1, List.filterMap_cons_some e2]
      exact .cons q ih
end U
namespace U
open PySem PySem.Spec PySem.Calls PyProof.Rows L2

/-! ### x == y where x is of a class with an __eq__ of its own -/
def rEqO (K : PySem.W.Frag) (C : Addr) (sp : Sp) (E : XK) : R2 := fun x y H Q => ∃ a dx fs, x = .ref a ∧ H a = some (.ins C dx fs) ∧ (∃ t, TyX K H y t ∧ PySem.W.notFirst K C t = true) ∧ sp [x, y] H (fun v H' => ∃ b, v = .bl b ∧ Q (.bl b) H') E
section
variable {X : Cx} {CX : CXT} {n : Nat} {C f : Addr} {fd : FuncData} {ps : List Str} {sp : Sp} {E : XK}
theorem op_eqO (F : FnOk X.prog X.w X.K X.mg X.base CX n f fd ps sp) (hs : PySem.W.findIn X.K (.ref C) "__eq__" = some (some (.ref f))) (hf : PySem.W.isFn X.K (.ref f) = true) (hb : Binds X.K fd ps []) (hr : Room n X.A) (hu : X.A.units < cLine) (hx : Passes CX X E) :
    OpR X (compareOp .Eq) (rEqO X.K C sp E) := by
  intro pins s σ H x y v u Q
  intro I rx ry h
  obtain ⟨a, dx, fs, rfl, ha, ⟨t, ty, nf⟩, q⟩ := h
  have ev : v = Value.ref a := rx
  subst ev
  rcases ins_get I.hok ha with ⟨mA, J, _⟩
  obtain ⟨od, J, _⟩ := J.look
  obtain ⟨m, hF⟩ := I.fr
  obtain ⟨P, kit, pz, _⟩ := kit_of I ry ty
  have r2 : Vals [V.ref a, y] [Value.ref a, u] := .cons rfl (.cons ry .nil)
  have hl := F.len _ _ _ _ q
  have bb := hb s [.ref a, u] I.kIn (by rw [List.append_nil]; exact r2.length.symm.trans hl)
  rw [List.append_nil] at bb
  show wpAny (model X.prog X.w) X.A (richCompare .Eq (.ref a) u) (EP X pins σ Q) X.xe s
  refine PySem.W.cmp_K (op := .Eq) (tb := t) hu hF I.ok.mod.kin J (kit.ty _ _ I.kIn pz) nf hs hf ?_
  refine wpAny_call (codeAny_mono (F.run X.A X.stack s H ⟨[.ref a, u], []⟩ _ _ _ _ hr I.env0 bb r2 q) fun res s' out => ?_)
  match res, out with
  | .error er, out => exact hx pins σ H s er s' I out
  | .ok (.ret z), out =>
    obtain ⟨vz, H', I', rz, b, ez, qq⟩ := I.after out
    subst ez
    cases rz
    exact ⟨.bl b, H', I', rfl, qq⟩
  | .ok .next, out => exact out.elim
  | .ok .brk, out => exact out.elim
  | .ok .cont, out => exact out.elim
/-- str(x), x of a class with a __str__ of its own -/
def rStrO (C : Addr) (sp : Sp) (E : XK) : List V → Hp → VK → Prop := fun xs H Q => ∃ a dx fs, xs = [.ref a] ∧ H a = some (.ins C dx fs) ∧ sp xs H (fun v H' => ∃ z, v = .str z ∧ Q (.str z) H') E
theorem call_strO (F : FnOk X.prog X.w X.K X.mg X.base CX n f fd ps sp) (hs : PySem.W.findIn X.K (.ref C) "__str__" = some (some (.ref f))) (hf : PySem.W.isFn X.K (.ref f) = true) (hb : Binds X.K fd ps []) (hr : Room (n + 2) X.A) (hx : Passes CX X E) :
    CallR X (.type "str") (rStrO C sp E) := by
  intro ps' s σ H xs us Q I rr h
  rcases h with ⟨a, dx, fs, rfl, ha, q⟩
  obtain rfl := Vals.ref1 rr
  rcases ins_get I.hok ha with ⟨mA, J, _⟩
  obtain ⟨od, J, _⟩ := J.look
  have bb := hb s [.ref a] I.kIn (by rw [List.append_nil]; exact F.len _ _ _ _ q)
  rw [List.append_nil] at bb
  refine PySem.W.kso_call hr.in1.in1.units0 I.kIn J hs hf ?_
  refine wpAny_call (codeAny_mono (F.run X.A.in1.in1 X.stack s H ⟨[.ref a], []⟩ _ _ _ _ hr.in1.in1 I.env0.in1.in1 bb rr q) fun res s' out => ?_)
  match res, out with
  | .error er, out => exact hx ps' σ H s er s' I out
  | .ok (.ret z), out =>
    obtain ⟨vz, H', I', rz, y, ez, qq⟩ := I.after out
    subst ez
    obtain ⟨t, rfl⟩ := rz
    exact ⟨.str y, H', I', ⟨t, rfl⟩, qq⟩
  | .ok .next, out => exact out.elim
  | .ok .brk, out => exact out.elim
  | .ok .cont, out => exact out.elim
end
end U
namespace U
open PySem PySem.Spec PyProof.Rows L2

/-! ### the module's table of columns -/
def columns : List (Str × Int) := [("ab", 0), ("ac", 1), ("ba", 2), ("bc", 3), ("ca", 4), ("cb", 5)]
def ColK (K : PySem.W.Frag) (w : World) : Prop := ∀ q ∈ columns, KDct K w (He.ga K "COLUMNS") q.1 (.int q.2)
def rCol (K : PySem.W.Frag) : R2 := fun x y H Q => ∃ z v, x = .ref (He.ga K "COLUMNS") ∧ y = .str z ∧ (z, v) ∈ columns ∧ Q (.int v) H
theorem ix_col {X : Cx} (h : ColK X.K X.w) : IxR X (rCol X.K) := by
  intro ea eb pins s σ H x y u v Q I rx ry q
  obtain ⟨z, t, rfl, rfl, hm, q⟩ := q
  exact ix_kdict ea eb pins s σ H _ _ u v Q I rx ry ⟨_, z, _, rfl, rfl, h _ hm, q⟩
def colB (K : PySem.W.Frag) : Bool := He.valsB K (He.ga K "COLUMNS") (columns.map fun q => (q.1, He.Dv.int q.2))
theorem colK_of {K : PySem.W.Frag} {w : World} (hd : ∃ es n, KDict K w (He.ga K "COLUMNS") es n) (hv : colB K = true) : ColK K w := by
  obtain ⟨es, n, h1, h2, h3⟩ := hd
  intro q hq
  obtain ⟨u, e, r⟩ := He.valsB_ok hv (List.mem_map.mpr ⟨q, hq, rfl⟩)
  exact ⟨es, n, u, h1, h2, e, r⟩
/-! ### text.strip(signs), text.rfind(sign) -/
def rStrip : V → List V → Hp → VK → Prop := fun x xs H Q => ∃ a b, x = .str a ∧ xs = [.str b] ∧ a.length ≤ sizeLine ∧ Q (.str (Txt.stripChars a b)) H
theorem mt_stripU {X : Cx} : MtR X "str.strip" rStrip := mt_stripChars
def rRfind : V → List V → Hp → VK → Prop := fun x xs H Q => ∃ a b, x = .str a ∧ xs = [.str b] ∧ Q (.int (Txt.rfind a b)) H
theorem mt_rfindU {X : Cx} : MtR X "str.rfind" rRfind := mt_rfind
theorem tw_mem {g : Nat → Bool} {l : List Nat} {x : Nat} (h : x ∈ l.takeWhile g) : g x = true := by
  induction l with
  | nil => cases h
  | cons a r ih =>
    rw [List.takeWhile_cons] at h
    split at h
    · rename_i e
      rcases List.mem_cons.mp h with rfl | hr
      · exact e
      · exact ih hr
    · cases h
theorem dw_nil {g : Nat → Bool} {l : List Nat} (h : ∀ x ∈ l, g x = true) : l.dropWhile g = [] := by
  induction l with
  | nil => rfl
  | cons a r ih =>
    rw [List.dropWhile_cons, if_pos (h a List.mem_cons_self)]
    exact ih fun x m => h x (List.mem_cons_of_mem _ m)
theorem strip_nil (a b : Str) : Txt.stripChars a b = "" ↔ ∀ c ∈ a.cps.toList, b.cps.contains c = true := by
  unfold Txt.stripChars
  rw [PySem.W.stripBy_eq]
  show Builtin.Str.strSub a (stripLo b.cps.contains true a) (stripHi b.cps.contains true a (stripLo b.cps.contains true a)) = "" ↔ _
  have el : stripLo b.cps.contains true a = (a.cps.toList.takeWhile b.cps.contains).length := rfl
  have eh : stripHi b.cps.contains true a (stripLo b.cps.contains true a) = a.length - ((a.cps.toList.drop (stripLo b.cps.contains true a)).reverse.takeWhile b.cps.contains).length := rfl
  have en : a.length = a.cps.toList.length := by show a.cps.size = _; simp
  rw [eh, el, en, strSub_mk]
  generalize a.cps.toList = L
  generalize b.cps.contains = g
  have e0 : ∀ l : List Nat, (⟨l.toArray⟩ : Str) = "" ↔ l = [] := fun l => by
    constructor
    · intro h
      have h2 : l.toArray = (#[] : Array Nat) := congrArg Str.cps h
      exact congrArg Array.toList h2
    · rintro rfl
      rfl
  rw [e0]
  have hd : L = L.takeWhile g ++ L.dropWhile g := (List.takeWhile_append_dropWhile).symm
  have e1 : L.drop (L.takeWhile g).length = L.dropWhile g := by
    conv => lhs; rw [hd]
    rw [List.drop_append_of_le_length (by simp), List.drop_of_length_le (by simp), List.nil_append]
  have hl : L.length = (L.takeWhile g).length + (L.dropWhile g).length := by
    conv => lhs; rw [hd]
    exact List.length_append
  rw [e1]
  constructor
  · intro h
    cases hD : L.dropWhile g with
    | nil =>
      rw [hD, List.append_nil] at hd
      intro c hc
      rw [hd] at hc
      exact tw_mem hc
    | cons d r =>
      exfalso
      have hgd : g d = false := by
        have := List.head?_dropWhile_not g L
        rw [hD] at this
        simpa using this
      have hlt : ((d :: r).reverse.takeWhile g).length ≤ r.length := by
        rw [List.reverse_cons]
        have hle := (List.takeWhile_prefix (p := g) (l := r.reverse ++ [d])).length_le
        rcases Nat.lt_or_ge ((r.reverse ++ [d]).takeWhile g).length (r.length + 1) with q | q
        · omega
        · have pe := (List.takeWhile_prefix (p := g) (l := r.reverse ++ [d])).eq_of_length (by simp at hle ⊢; omega)
          have hm : d ∈ (r.reverse ++ [d]).takeWhile g := by rw [pe]; simp
          rw [tw_mem hm] at hgd
          cases hgd
      rw [hD] at h hl
      rw [List.take_eq_nil_iff] at h
      rcases h with h | h
      · rw [List.length_cons] at hl
        omega
      · cases h
  · intro h
    have : L.dropWhile g = [] := dw_nil h
    rw [this]
    simp
end U
namespace U
open PySem PySem.Spec PyProof.Rows L2

/-! ### xs[k] += n -/
def rGetN : V → V → Hp → VK → Prop := fun x y H Q => ∃ (p : Addr) (xs : List V) (k : Nat) (v : V), x = .ref p ∧ y = .int (k : Nat) ∧ H p = some (.lst xs) ∧ xs[k]? = some v ∧ Q v H
theorem pget_listN {X : Cx} : PGet X rGetN := by
  intro pins s σ H o i ov iv Q I r1 r2 h
  obtain ⟨p, xs, k, v, rfl, rfl, hq, he, q⟩ := h
  cases r1
  obtain ⟨t, rfl⟩ := r2
  obtain ⟨its, r, pl, hz⟩ := I.list (show SqL X.K H p xs from .inl (.inl hq))
  obtain ⟨w, ew, rw'⟩ := r.get he
  have hl := r.length
  have hn := line63
  have lt : k < its.length := (List.getElem?_eq_some_iff.mp ew).1
  exact wpAny_getItem_list pl.isList (Int.natCast_nonneg k) (by omega) (by simpa using ew) ⟨v, H, I, rw', q⟩
/-! ### zip(list, tuple) -/
def ItzM (K : PySem.W.Frag) (a b : Addr) : It :=
  ⟨fun i H => ∃ xs ys x y, SqL K H a xs ∧ (SqT K H b ys ∧ (xs[i]? = some x ∧ ys[i]? = some y)),
    fun i H v H' => ∃ T x y, v = .ref T ∧ (H T = none ∧ (H' = upd H T (.tup [x, y]) ∧ ((∀ xs, SqL K H a xs → xs[i]? = some x) ∧ ∀ ys, SqT K H b ys → ys[i]? = some y))),
    fun i H => ∃ xs ys, SqL K H a xs ∧ (SqT K H b ys ∧ (i ≤ xs.length ∧ (i ≤ ys.length ∧ (i = xs.length ∨ i = ys.length))))⟩
/-- the five cells of such a zip, and the two that it reads -/
structure ZCells (z TI TO i1 i2 a b : Addr) : Prop where
  n1 : TI ≠ z
  n2 : TO ≠ z
  n3 : TI ≠ TO
  n4 : TI ≠ i1
  n5 : TI ≠ i2
  n6 : z ≠ i1
  n7 : z ≠ i2
  n8 : TO ≠ i1
  n9 : TO ≠ i2
  n10 : i1 ≠ i2
  a1 : a ≠ z
  a2 : a ≠ TO
  a3 : a ≠ i1
  a4 : a ≠ i2
  b1 : b ≠ z
  b2 : b ≠ TO
  b3 : b ≠ i1
  b4 : b ≠ i2
theorem ZCells.sep {z TI TO i1 i2 a b : Addr} (c : ZCells z TI TO i1 i2 a b) : ZipSep2 z TI TO i1 i2 [i1, a] [i2, b] where
  TIz := c.n1
  TOz := c.n2
  TITO := c.n3
  TIi1 := c.n4
  mem1 := List.mem_cons_self
  zf1 := by simp [c.n6, c.a1.symm]
  Tf1 := by simp [c.n8, c.a2.symm]
  TIi2 := c.n5
  mem2 := List.mem_cons_self
  zf2 := by simp [c.n7, c.b1.symm]
  Tf2 := by simp [c.n9, c.b2.symm]
  sep1_2 := by simp [c.n10, c.b3.symm]
  sep2_1 := by simp [c.n10.symm, c.a4.symm]
theorem zcells_new (n a b : Nat) (la : a < n) (lb : b < n) : ZCells (n + 4) (n + 2) (n + 3) n (n + 1) a b := by
  constructor <;> (show ¬ ((_ : Nat) = _)) <;> omega
theorem five {z TI TO i1 i2 q : Addr} (h : q ∈ [z, TI, TO, i1, i2]) : q = z ∨ (q = TI ∨ (q = TO ∨ (q = i1 ∨ q = i2))) := by simpa using h
theorem turn_zipM {P : Program} {w : World} {K : PySem.W.Frag} {el : List Expr} {kk : Nat} {tp : Pos} {a b z TI TO i1 i2 : Addr} (C : ZCells z TI TO i1 i2 a b) :
    Turn P w K (.Tuple el kk tp) (ItzM K a b) [z, TI, TO, i1, i2] z (fun i h => IsZip h z TI TO .none ∧ (IsTupOf2 h TI (.ref i1) (.ref i2) ∧ ((∃ x y, IsTupOf2 h TO x y) ∧ (h.IsListIter i1 a i ∧ h.IsTupleIter i2 b i)))) where
  mem := by simp
  obj := fun i h st c hc => by
    obtain ⟨g1, g2, ⟨u, v, g3⟩, ⟨o1, e1, _, d1⟩, ⟨o2, e2, _, d2⟩⟩ := st
    rcases five hc with q | q | q | q | q <;> rw [q]
    · exact ⟨_, g1, fun v q => nomatch q⟩
    · exact ⟨_, g2, fun v q => nomatch q⟩
    · exact ⟨_, g3, fun v q => nomatch q⟩
    · refine ⟨o1, e1, fun v q => ?_⟩
      rw [d1] at q
      cases q
    · refine ⟨o2, e2, fun v q => ?_⟩
      rw [d2] at q
      cases q
  keep := fun i h h' st k => by
    obtain ⟨g1, g2, ⟨u, v, g3⟩, g4, g5⟩ := st
    exact ⟨k _ (by simp) _ g1, k _ (by simp) _ g2, ⟨u, v, k _ (by simp) _ g3⟩, g4.at fun o y => k _ (by simp) o y, g5.at fun o y => k _ (by simp) o y⟩
  item := by
    intro X hP hw hK hc
    intro i pins s σ H E I hf st hg
    subst hP hw hK
    obtain ⟨g1, g2, ⟨x0, y0, g3⟩, g4, g5⟩ := st
    obtain ⟨xs, ys, x, y, qx, qy, hx, hy⟩ := hg
    obtain ⟨us, r1, p1, _⟩ := I.list qx
    obtain ⟨vs, r2, p2, _⟩ := I.tuple qy
    obtain ⟨u, hu, ru⟩ := r1.get hx
    obtain ⟨v, hv, rv⟩ := r2.get hy
    have zl : z < s.heap.objs.size := Heap.lt_size g1
    have D1 := Draws.list (prog := X.prog) (w := X.w) (A := X.A.in1) (I.ok.hd hc) i1 a C.a3 us.toArray
    have D2 := Draws.tuple (prog := X.prog) (w := X.w) (A := X.A.in1) (I.ok.hd hc) i2 b C.b4 vs.toArray
    have lu : i < us.toArray.size := by simpa using (List.getElem?_eq_some_iff.mp hu).1
    have lv : i < vs.toArray.size := by simpa using (List.getElem?_eq_some_iff.mp hv).1
    refine wpAny_pyNext_zipD2_item C.sep D1 D2 g1 g2 g3 ⟨g4, p1.isList⟩ ⟨g5, p2⟩ lu lv fun x1 x2 h1 tk ex ey z1 t1 s1 s2 hT hsz hk => ?_
    obtain rfl : x1 = u := by
      have ex : us.toArray[i]? = some x1 := ex
      simp [hu] at ex
      exact ex.symm
    obtain rfl : x2 = v := by
      have ey : vs.toArray[i]? = some x2 := ey
      simp [hv] at ey
      exact ey.symm
    refine ⟨_, rfl, wpAny_letOwnedTupleGo_zip (s := { s with heap := h1, toks := tk }) z1 fun h2 z2 sb => ?_⟩
    have T2 : h2.get? s.heap.objs.size = some { cls := .type "tuple", data := .seq #[x1, x2] } := (sb.2 _ (Nat.ne_of_gt zl)).trans hT
    have new : ObjOk X.prog X.w (upd H s.heap.objs.size (.tup [x, y])) h2 s.heap.objs.size (.tup [x, y]) := ⟨by show 2 ≤ sizeLine; decide, [x1, x2], .cons ru (.cons rv .nil), ⟨_, T2, rfl, _, rfl⟩⟩
    have k2 : ∀ c o, c ≠ z → c ≠ TO → c ≠ i1 → c ≠ i2 → s.heap.get? c = some o → h2.get? c = some o := fun c o c1 c2 c3 c4 e => (sb.2 c c1).trans (hk c o c1 c2 c3 c4 e)
    have I1 : Inv X pins σ (upd H s.heap.objs.size (.tup [x, y])) { s with heap := h2, toks := tk } :=
      I.turnedNew (ch := [z, TI, TO, i1, i2]) (fun c o hb => k2 c o (fun e => hb (by simp [e])) (fun e => hb (by simp [e])) (fun e => hb (by simp [e])) fun e => hb (by simp [e])) hf (Nat.le_refl _) new
    refine ⟨.ref s.heap.objs.size, _, I1, rfl, ⟨_, x, y, rfl, I.hok.fresh (Nat.le_refl _), rfl, fun l hl => ?_, fun l hl => ?_⟩, ⟨z2, k2 _ _ C.n1 C.n3 C.n4 C.n5 g2, ⟨x1, x2, (sb.2 _ C.n2).trans t1⟩, ?_, ?_⟩, fun c hcm => ?_⟩
    · rw [I.list_inj hl qx]
      exact hx
    · rw [I.tuple_inj hl qy]
      exact hy
    · exact s1.1.at fun o q => (sb.2 _ C.n6.symm).trans q
    · exact s2.1.at fun o q => (sb.2 _ C.n7.symm).trans q
    · have below : c < s.heap.objs.size := by
        rcases five hcm with q | q | q | q | q
        · exact q ▸ zl
        · exact q ▸ Heap.lt_size g2
        · exact q ▸ Heap.lt_size g3
        · obtain ⟨_, e, _⟩ := g4
          exact q ▸ Heap.lt_size e
        · obtain ⟨_, e, _⟩ := g5
          exact q ▸ Heap.lt_size e
      rw [upd_ne (Nat.ne_of_lt below)]
      exact (hf c hcm).1
  done := by
    intro X hP hw hK hc
    intro i pins s σ H E I hf st hg
    subst hP hw hK
    obtain ⟨g1, g2, ⟨x0, y0, g3⟩, g4, g5⟩ := st
    obtain ⟨xs, ys, qx, qy, l1, l2, l3⟩ := hg
    obtain ⟨us, r1, p1, _⟩ := I.list qx
    obtain ⟨vs, r2, p2, _⟩ := I.tuple qy
    have e1 := r1.length
    have e2 := r2.length
    have D1 := Draws.list (prog := X.prog) (w := X.w) (A := X.A.in1) (I.ok.hd hc) i1 a C.a3 us.toArray
    have D2 := Draws.tuple (prog := X.prog) (w := X.w) (A := X.A.in1) (I.ok.hd hc) i2 b C.b4 vs.toArray
    refine wpAny_pyNext_zipD2_end C.sep D1 D2 g1 g2 g3 ⟨g4, p1.isList⟩ ⟨g5, p2⟩ (by simp; omega) (by simp; omega) (by simp; omega) fun h1 tk hk => ⟨rfl, I.turnedL (ch := [z, TI, TO, i1, i2]) (fun c o hb => hk c o (fun e => hb (by simp [e])) (fun e => hb (by simp [e])) (fun e => hb (by simp [e])) fun e => hb (by simp [e])) hf⟩
  self := fun _ _ _ _ _ st h => wpAny_pyIter_zip st.1 h
def iZipM (K : PySem.W.Frag) (ta : TA) : TI := fun σ H R => ta σ H fun vs H1 => ∃ a b xs ys, vs = [.ref a, .ref b] ∧ (SqL K H1 a xs ∧ (SqT K H1 b ys ∧ R (ItzM K a b) H1))
theorem pi_zipM {X : Cx} {f1 f2 : Expr} {ta : TA} {p pos tpos : Pos} {elts : List Expr} {kk : Nat} (hg : Gl X "zip") (hm : X.mg "zip" = none) (ha : PA X [f1, f2] ta)
    (hs : starEach [f1, f2] X.env = (false, eval f1 X.env) :: starEach [f2] X.env := by rfl) (hpl : (backTo pos (starEach [f2] X.env)).any (·.1) = false := by rfl) :
    PI X (.Tuple elts kk tpos) (.Call (.Name "zip" p) [f1, f2] [] pos) (iZipM X.K ta) := by
  refine .mk ?_
  intro pins s σ H R I h
  refine Call_ (ld_blt I hg hm boot_zip (PyProof.Rows.callWith_type1 (thn (ha.run pos pins s σ H _ I h) fun us s1 q0 => ?_) hs hpl))
  obtain ⟨vs, H1, I1, r1, a, b, xs, ys, ex, qx, qy, q⟩ := q0
  subst ex
  obtain ⟨v1, v2, rfl, rfl, rfl⟩ : ∃ v1 v2, us = [v1, v2] ∧ v1 = .ref a ∧ v2 = .ref b := by
    cases r1 with
    | cons r r2 =>
      cases r2 with
      | cons r' r3 =>
        cases r3
        cases r
        cases r'
        exact ⟨_, _, rfl, rfl, rfl⟩
  obtain ⟨xv, rv, p1, _⟩ := I1.list qx
  obtain ⟨yv, rw', p2, _⟩ := I1.tuple qy
  have lta : a < s1.heap.objs.size := p1.lt
  have lb : b < s1.heap.objs.size := by
    obtain ⟨o, ho, _⟩ := id p2
    exact Heap.lt_size ho
  refine zip_begins2 (begins_list a xv.toArray) (begins_tuple b yv.toArray) p1.isList p2 fun h1 hz hTI hTO g1 g2 hsz hk => wpAny_pyIter_zip hz ?_
  have I2 : Inv X pins σ H1 { s1 with heap := h1 } := I1.kept (t' := s1.toks) hk
  have C : ZCells (s1.heap.objs.size + 4) (s1.heap.objs.size + 2) (s1.heap.objs.size + 3) s1.heap.objs.size (s1.heap.objs.size + 1) a b := zcells_new s1.heap.objs.size a b lta lb
  refine ⟨s1.heap.objs.size + 4, [s1.heap.objs.size + 4, s1.heap.objs.size + 2, s1.heap.objs.size + 3, s1.heap.objs.size, s1.heap.objs.size + 1], _, _, H1, rfl, I2, turn_zipM C, ⟨hz, hTI, ⟨_, _, hTO⟩, ⟨_, g1, rfl, rfl⟩, ⟨_, g2, rfl, rfl⟩⟩, fun c hcm => ?_, q⟩
  have above : s1.heap.objs.size ≤ c := by
    rcases five hcm with e | e | e | e | e <;> rw [e]
    · exact Nat.le_add_right _ 4
    · exact Nat.le_add_right _ 2
    · exact Nat.le_add_right _ 3
    · exact Nat.le_refl _
    · exact Nat.le_add_right _ 1
  exact I1.fpOk above (I1.hok.fresh above)
/-- zip of a list and a list or a tuple -/
def iZipU (K : PySem.W.Frag) (ta : TA) : TI := fun σ H R => iZip K ta σ H R ∨ iZipM K ta σ H R
theorem pi_zipU {X : Cx} {f1 f2 : Expr} {ta : TA} {p pos tpos : Pos} {elts : List Expr} {kk : Nat} (hg : Gl X "zip") (hm : X.mg "zip" = none) (ha : PA X [f1, f2] ta)
    (hs : starEach [f1, f2] X.env = (false, eval f1 X.env) :: starEach [f2] X.env := by rfl) (hpl : (backTo pos (starEach [f2] X.env)).any (·.1) = false := by rfl) :
    PI X (.Tuple elts kk tpos) (.Call (.Name "zip" p) [f1, f2] [] pos) (iZipU X.K ta) := by
  refine .mk ?_
  intro pins s σ H R I h
  rcases h with h | h
  · exact (pi_zip hg hm ha hs hpl).run pins s σ H R I h
  · exact (pi_zipM hg hm ha hs hpl).run pins s σ H R I h
/-- what yields pairs -/
structure Zipped (J : It) (xs ys : List V) (G : Hp → Prop) : Prop where
  go : ∀ i H, G H → i < xs.length → i < ys.length → J.go i H
  yld : ∀ i H v H', G H → J.yld i H v H' → ∃ T x y, v = .ref T ∧ H T = none ∧ H' = upd H T (.tup [x, y]) ∧ xs[i]? = some x ∧ ys[i]? = some y
  stop : ∀ i H, G H → i ≤ xs.length → i ≤ ys.length → (i = xs.length ∨ i = ys.length) → J.stop i H
theorem zipped_LL {K : PySem.W.Frag} {a b : Addr} {xs ys : List V} : Zipped (Itz K a b) xs ys fun H => SqL K H a xs ∧ SqL K H b ys where
  go := fun i H g l1 l2 => ⟨xs, ys, xs[i], ys[i], g.1, g.2, List.getElem?_eq_getElem l1, List.getElem?_eq_getElem l2⟩
  yld := fun i H v H' g ⟨T, x, y, h1, h2, h3, h4, h5⟩ => ⟨T, x, y, h1, h2, h3, h4 xs g.1, h5 ys g.2⟩
  stop := fun i H g l1 l2 e => ⟨xs, ys, g.1, g.2, by omega⟩
theorem zipped_LT {K : PySem.W.Frag} {a b : Addr} {xs ys : List V} : Zipped (ItzM K a b) xs ys fun H => SqL K H a xs ∧ SqT K H b ys where
  go := fun i H g l1 l2 => ⟨xs, ys, xs[i], ys[i], g.1, g.2, List.getElem?_eq_getElem l1, List.getElem?_eq_getElem l2⟩
  yld := fun i H v H' g ⟨T, x, y, h1, h2, h3, h4, h5⟩ => ⟨T, x, y, h1, h2, h3, h4 xs g.1, h5 ys g.2⟩
  stop := fun i H g l1 l2 e => ⟨xs, ys, g.1, g.2, l1, l2, e⟩
/-- a comprehension over such pairs -/
theorem lc_zip {J : It} {xs ys : List V} {G : Hp → Prop} (Z : Zipped J xs ys G) {g : TG} {tt : TT} {te : TE} {vs : List Nat} {σ : L2.St} {H1 : Hp} {D : Addr} {Qd : Hp → Prop} (Pv : Nat → Hp → Prop) (h0 : Pv 0 (upd H1 D (.lst []))) (hG : ∀ i H, Pv i H → G H)
    (hs : ∀ i x y T H, xs[i]? = some x → ys[i]? = some y → Pv i H → H T = none → lcT g tt te vs σ D (Pv (i + 1)) (.ref T) (upd H T (.tup [x, y]))) (hd : ∀ H, Pv (min xs.length ys.length) H → Qd H) : LcB J g tt te vs σ H1 D Qd := by
  refine ⟨fun i m H => m = min xs.length ys.length - i ∧ i ≤ min xs.length ys.length ∧ Pv i H, ⟨_, rfl, Nat.zero_le _, h0⟩, ?_⟩
  rintro i m H ⟨rfl, hi, p⟩
  by_cases lt : i < min xs.length ys.length
  · refine .inr ⟨Z.go i H (hG i H p) (by omega) (by omega), Pv (i + 1), fun H' p' => ⟨min xs.length ys.length - (i + 1), by omega, rfl, lt, p'⟩, fun v H' yd => ?_⟩
    obtain ⟨T, x, y, rfl, hT, rfl, e1, e2⟩ := Z.yld i H v H' (hG i H p) yd
    exact hs i x y T H e1 e2 p hT
  · have e : i = min xs.length ys.length := by omega
    subst e
    exact .inl ⟨Z.stop _ H (hG _ H p) (by omega) (by omega) (by omega), hd H p⟩
end U
namespace U
open PySem PySem.Spec PyProof.Rows L2

/-! ### lists of small integers: their texts, and whether they are alike -/
def shownI (ns : List Int) : Str := (PyData.list (ns.map PyData.int)).shown
theorem dp_ints {K : PySem.W.Frag} {H : Hp} {p : Addr} {ns : List Int} (h : SqL K H p (ns.map V.int)) : Dp K H (.ref p) (.list (ns.map PyData.int)) := by
  refine .lst h ?_
  clear h
  induction ns with
  | nil => exact .nil
  | cons n r ih => exact .cons (.int n) ih
theorem small_log {n : Int} (h0 : 0 ≤ n) (h1 : n < 1000000) : n.natAbs.log2 < 1920 := by
  by_cases e : n.natAbs = 0
  · rw [e]; decide
  · have : n.natAbs.log2 < 20 := (Nat.log2_lt e).mpr (by omega)
    omega
theorem hasDict_ints : ∀ ns : List Int, PyData.hasDictAll (ns.map PyData.int) = false
  | [] => by simp [PyData.hasDictAll]
  | _ :: r => by simp [PyData.hasDictAll, PyData.hasDict, hasDict_ints r]
theorem shownI_len {ns : List Int} (hb : ∀ n ∈ ns, 0 ≤ n ∧ n < 1000000) (hl : ns.length ≤ 1000) : (shownI ns).length ≤ sizeLine := by
  have key : ∀ l : List Int, (∀ n ∈ l, 0 ≤ n ∧ n < 1000000) → ((l.map fun n => ((toString n : String) : Str)).map (·.length)).sum ≤ 13 * l.length := by
    intro l
    induction l with
    | nil => intro _; simp
    | cons a r ih =>
      intro h
      have h1 := ih fun n m => h n (List.mem_cons_of_mem _ m)
      have ha := h a List.mem_cons_self
      have h2 := PyData.shown_int_le2 (i := a) (by omega) (by omega)
      rw [PyData.shown_int] at h2
      simp only [List.sum_cons, List.length_cons, List.map_cons]
      omega
  unfold shownI
  rw [PyData.shown_list, PyData.shownAll_ints]
  have h1 := StrLaws.join_length_le ", " (ns.map fun n => ((toString n : String) : Str))
  have h2 := key ns hb
  rw [List.length_map] at h1
  have h3 : (", " : Str).length = 2 := by decide
  rw [h3] at h1
  have e : ∀ a b c : Str, (a ++ b ++ c).length = a.length + b.length + c.length := fun a b c => by
    show (a.cps ++ b.cps ++ c.cps).size = a.cps.size + b.cps.size + c.cps.size
    simp only [Array.size_append]
  rw [e]
  have h4 : ("[" : Str).length = 1 := by decide
  have h5 : ("]" : Str).length = 1 := by decide
  rw [h4, h5]
  exact Nat.le_trans (show _ ≤ 20000 by omega) (by decide)
section
variable {K : PySem.W.Frag} {H : Hp} {Q : VK} {p p' : Addr} {ns ms : List Int}
theorem repr_ints (h : SqL K H p (ns.map V.int)) (hb : ∀ n ∈ ns, 0 ≤ n ∧ n < 1000000) (hl : ns.length ≤ 1000) (q : Q (.str (shownI ns)) H) : uRepr K [.ref p] H Q := by
  refine ⟨_, dp_ints h, ?_, ?_, ?_, shownI_len hb hl, q⟩
  · simp only [PyData.showable]
    exact PyData.showableAll_ints ns fun n m => small_log (hb n m).1 (hb n m).2
  · simp only [PyData.hasDict]
    exact hasDict_ints ns
  · simp [PyData.depth, PySem.W.ke_depthAll]
theorem ne_ints (h : SqL K H p (ns.map V.int)) (h' : SqL K H p' (ms.map V.int)) (q : Q (.bl (!decide (ns = ms))) H) : uNe K (.ref p) (.ref p') H Q := by
  refine ⟨_, _, dp_ints h, dp_ints h', PySem.W.ke_shaped_ints _, PySem.W.ke_shaped_ints _, ?_⟩
  rw [PyData.eqv, PySem.W.ked_eqvAll]
  exact q
end
/-! ### lists of texts -/
section
variable {K : PySem.W.Frag} {H : Hp}
theorem dp_strs {p : Addr} {xs : List Str} (h : SqL K H p (xs.map V.str)) : Dp K H (.ref p) (.list (xs.map PyData.str)) := by
  refine .lst h ?_
  clear h
  induction xs with
  | nil => exact .nil
  | cons n r ih => exact .cons (.str n) ih
theorem strs_eqv (as bs : List Str) : PyData.eqv (.list (as.map PyData.str)) (.list (bs.map PyData.str)) = decide (as = bs) := by
  rw [PyData.eqv]
  induction as generalizing bs with
  | nil => cases bs <;> simp [PyData.eqvAll]
  | cons a r ih =>
    cases bs with
    | nil => simp [PyData.eqvAll]
    | cons b t =>
      simp only [List.map_cons, PyData.eqvAll, ih, PyData.eqv]
      rw [Bool.eq_iff_iff]
      simp
theorem strs_shaped {xs : List Str} (h : ∀ x ∈ xs, PyData.strOk x = true) : SeqAt.shaped (.list (xs.map PyData.str)) = true := by
  have h1 : PyData.canLayAll0 (xs.map PyData.str) = true := by
    induction xs with
    | nil => rfl
    | cons a r ih =>
      have i1 := ih fun x m => h x (List.mem_cons_of_mem _ m)
      have i2 := h a List.mem_cons_self
      simp [PyData.canLayAll0, PyData.canLay0, i1, i2]
  have h2 : PyData.depthAll (xs.map PyData.str) = 0 := by
    clear h h1
    induction xs with
    | nil => rfl
    | cons a r ih => simp [PyData.depthAll, PyData.depth, ih]
  unfold SeqAt.shaped
  rw [PyData.canLay0, h1, PyData.depth, h2]
  decide
end
theorem ne_strs {K : PySem.W.Frag} {H : Hp} {Q : VK} {p q : Addr} {xs ys : List Str} (h : SqL K H p (xs.map V.str)) (h' : SqL K H q (ys.map V.str)) (ok : ∀ x ∈ xs, PyData.strOk x = true) (ok' : ∀ x ∈ ys, PyData.strOk x = true) (r : Q (.bl (!decide (xs = ys))) H) : uNe K (.ref p) (.ref q) H Q :=
  ⟨_, _, dp_strs h, dp_strs h', strs_shaped ok, strs_shaped ok', by rw [strs_eqv]; exact r⟩
theorem eq_strs {K : PySem.W.Frag} {H : Hp} {Q : VK} {p q : Addr} {xs ys : List Str} (h : SqL K H p (xs.map V.str)) (h' : SqL K H q (ys.map V.str)) (ok : ∀ x ∈ xs, PyData.strOk x = true) (ok' : ∀ x ∈ ys, PyData.strOk x = true) (r : Q (.bl (decide (xs = ys))) H) : uEq K (.ref p) (.ref q) H Q :=
  ⟨_, _, dp_strs h, dp_strs h', strs_shaped ok, strs_shaped ok', by rw [strs_eqv]; exact r⟩
end U
namespace U
open PySem PySem.Spec PyProof.Rows L2

/-! ### dict(zip(text, tuple)): a zip whose pair is still held by the loop that fills the dict -/
section
variable {P : Program} {w : World} {A : Around} {E : Value → Shared → Prop} {s : Shared} {z TI TO T i1 i2 : Addr} {fa fb : List Addr} {n m i : Nat} {R1 R2 : Nat → Value → Prop} {S1 S2 : Nat → Heap → Prop} {f : Bool} {oT : Obj}
theorem zip_held_item {Q : Value → Shared → Prop} (C : ZipSep2 z TI TO i1 i2 fa fb) (D1 : Draws P w A i1 fa n R1 S1) (D2 : Draws P w A i2 fb m R2 S2)
    (gz : IsZipHeld s.heap z TI TO T f) (gT : s.heap.get? T = some oT) (gI : IsTupOf2 s.heap TI (.ref i1) (.ref i2)) (t1 : S1 i s.heap) (t2 : S2 i s.heap) (l1 : i < n) (l2 : i < m)
    (k : ∀ x y h' tk, R1 i x → R2 i y → IsZipHeld h' z TI TO T true → S1 (i + 1) h' → S2 (i + 1) h' → IsTupOf2 h' s.heap.objs.size x y → (∀ c o, c ≠ z → c ≠ i1 → c ≠ i2 → s.heap.get? c = some o → h'.get? c = some o) → Q (.ref s.heap.objs.size) { s with heap := h', toks := tk }) :
    wpAny (model P w) A (Builtin.«zip.__next__» ⟨[.ref z], []⟩) (fun r s' => ∃ v, r = .done (.ret v) ∧ Q v s') E s := by
  obtain ⟨h0, g, d, tk0, os⟩ := s
  show wpAny _ _ ((field (.ref z) 2) >>= _) _ _ _
  refine wpAny_bind (wpAny_field gz rfl (x := (.bool false)) rfl ?_)
  show wpAny _ _ ((field (.ref z) 3) >>= _) _ _ _
  refine wpAny_bind (wpAny_field gz rfl (x := (.ref TI)) rfl ?_)
  refine wpAny_bind (wpAny_seqItems gI (rfl) ?_)
  show wpAny _ _ ((Builtin.SmallTypes.ownedTupleIsFree (.ref z)) >>= _) _ _ _
  refine wpAny_bind (wpAny_tupleHeld_zip gz gT fun p0 q0 b0 => ?_)
  have q0 : IsZipHeld p0 z TI TO T true := q0
  have b0 : Heap.SameBut z h0 p0 := b0
  simp only [if_false, Bool.false_eq_true]
  refine wpAny_bind ?_
  rw [← (Array.forIn_toList)]
  simp only [List.forIn_nil, List.forIn_cons]
  refine wpAny_bind (wpAny_bind (wpAny_holding (?_)))
  show wpAny _ _ (Builtin.SmallTypes.nextOf (.ref i1) >>= _) _ _ ⟨p0, g, d, tk0, os⟩
  refine wpAny_bind (D1.item i _ _ _ l1 (D1.over t1 b0 C.zf1) fun x p1 tk1 rx u1 b1 => wpAny_pure ?_)
  have b1 : Heap.SameBut i1 p0 p1 := b1
  refine wpAny_pure ?_
  refine wpAny_bind (wpAny_bind (wpAny_holding (?_)))
  show wpAny _ _ (Builtin.SmallTypes.nextOf (.ref i2) >>= _) _ _ ⟨p1, g, d, tk1, os⟩
  refine wpAny_bind (D2.item i _ _ _ l2 (D2.over (D2.over t2 b0 C.zf2) b1 C.sep1_2) fun y p2 tk2 ry u2 b2 => wpAny_pure ?_)
  have b2 : Heap.SameBut i2 p1 p2 := b2
  refine wpAny_pure (wpAny_pure (?_))
  show wpAny _ _ ((newTuple [x, y]) >>= _) _ _ _
  refine wpAny_bind (wpAny_newTuple (?_))
  have size : p2.objs.size = h0.objs.size := by rw [b2.1, b1.1, b0.1]
  have q2 : IsZipHeld p2 z TI TO T true := b2.extBut _ _ C.zi2 (b1.extBut _ _ C.zi1 q0)
  have keep : ∀ c o, c ≠ z → c ≠ i1 → c ≠ i2 → h0.get? c = some o → p2.get? c = some o := fun c o e0 e1 e2 e => b2.extBut _ _ e2 (b1.extBut _ _ e1 (b0.extBut _ _ e0 e))
  have v1 : S1 (i + 1) p2 := D1.over u1 b2 C.sep2_1
  refine wpAny_pure ⟨_, (rfl), ?_⟩
  show Q (.ref p2.objs.size) _
  have pair : IsTupOf2 (p2.push { cls := .type "tuple", data := .seq #[x, y] }) p2.objs.size x y := Heap.get?_push_size _ rfl
  rw [size] at pair ⊢
  exact k x y _ tk2 rx ry (Heap.get?_push_of_some _ q2) (D1.frame _ _ _ v1 fun b _ o e => Heap.get?_push_of_some _ e) (D2.frame _ _ _ u2 fun b _ o e => Heap.get?_push_of_some _ e) pair fun c o e0 e1 e2 e => Heap.get?_push_of_some _ (keep c o e0 e1 e2 e)
theorem zip_held_end {Q : Fin → Shared → Prop} (C : ZipSep2 z TI TO i1 i2 fa fb) (D1 : Draws P w A i1 fa n R1 S1) (D2 : Draws P w A i2 fb m R2 S2)
    (gz : IsZipHeld s.heap z TI TO T f) (gT : s.heap.get? T = some oT) (gI : IsTupOf2 s.heap TI (.ref i1) (.ref i2)) (t1 : S1 i s.heap) (t2 : S2 i s.heap) (l1 : i ≤ n) (l2 : i ≤ m) (l3 : i = n ∨ i = m)
    (k : ∀ h' tk e, (∀ c o, c ≠ z → c ≠ i1 → c ≠ i2 → s.heap.get? c = some o → h'.get? c = some o) → (∃ o, h'.get? e = some o ∧ o.cls = .type "StopIteration") → E (.ref e) { s with heap := h', toks := tk }) :
    wpAny (model P w) A (Builtin.«zip.__next__» ⟨[.ref z], []⟩) Q E s := by
  obtain ⟨h0, g, d, tk0, os⟩ := s
  show wpAny _ _ ((field (.ref z) 2) >>= _) _ _ _
  refine wpAny_bind (wpAny_field gz rfl (x := (.bool false)) rfl ?_)
  show wpAny _ _ ((field (.ref z) 3) >>= _) _ _ _
  refine wpAny_bind (wpAny_field gz rfl (x := (.ref TI)) rfl ?_)
  refine wpAny_bind (wpAny_seqItems gI (rfl) ?_)
  show wpAny _ _ ((Builtin.SmallTypes.ownedTupleIsFree (.ref z)) >>= _) _ _ _
  refine wpAny_bind (wpAny_tupleHeld_zip gz gT fun p0 q0 b0 => ?_)
  have b0 : Heap.SameBut z h0 p0 := b0
  simp only [if_false, Bool.false_eq_true]
  refine wpAny_bind ?_
  rw [← (Array.forIn_toList)]
  simp only [List.forIn_nil, List.forIn_cons]
  refine wpAny_bind (wpAny_bind (wpAny_holding (?_)))
  show wpAny _ _ (Builtin.SmallTypes.nextOf (.ref i1) >>= _) _ _ ⟨p0, g, d, tk0, os⟩
  by_cases lt : i < n
  · refine wpAny_bind (D1.item i _ _ _ lt (D1.over t1 b0 C.zf1) fun x p1 tk1 rx u1 b1 => wpAny_pure ?_)
    have b1 : Heap.SameBut i1 p0 p1 := b1
    have im : i = m := by omega
    refine wpAny_pure ?_
    refine wpAny_bind (wpAny_bind (wpAny_holding (?_)))
    show wpAny _ _ (Builtin.SmallTypes.nextOf (.ref i2) >>= _) _ _ ⟨p1, g, d, tk1, os⟩
    have v2 : S2 i p1 := D2.over (D2.over t2 b0 C.zf2) b1 C.sep1_2
    rw [im] at v2
    refine wpAny_bind (D2.done ⟨p1, g, d, tk1, os⟩ _ _ v2 fun q e hq he => ?_)
    have hq : Heap.ExtBut i2 p1 q := hq
    exact k q tk1 e (fun c o e0 e1 e2 x => hq _ _ e2 (b1.extBut _ _ e1 (b0.extBut _ _ e0 x))) he
  · have en : i = n := by omega
    have v1 : S1 i p0 := D1.over t1 b0 C.zf1
    rw [en] at v1
    refine wpAny_bind (D1.done ⟨p0, g, d, tk0, os⟩ _ _ v1 fun q e hq he => ?_)
    have hq : Heap.ExtBut i1 p0 q := hq
    exact k q tk0 e (fun c o e0 e1 _ x => hq _ _ e1 (b0.extBut _ _ e0 x)) he
theorem next_held_item {Q : Option Value → Shared → Prop} (C : ZipSep2 z TI TO i1 i2 fa fb) (D1 : Draws P w A.in1 i1 fa n R1 S1) (D2 : Draws P w A.in1 i2 fb m R2 S2)
    (gz : IsZipHeld s.heap z TI TO T f) (gT : s.heap.get? T = some oT) (gI : IsTupOf2 s.heap TI (.ref i1) (.ref i2)) (t1 : S1 i s.heap) (t2 : S2 i s.heap) (l1 : i < n) (l2 : i < m)
    (k : ∀ x y h' tk, R1 i x → R2 i y → IsZipHeld h' z TI TO T true → S1 (i + 1) h' → S2 (i + 1) h' → IsTupOf2 h' s.heap.objs.size x y → (∀ c o, c ≠ z → c ≠ i1 → c ≠ i2 → s.heap.get? c = some o → h'.get? c = some o) → Q (some (.ref s.heap.objs.size)) { s with heap := h', toks := tk }) :
    wpAny (model P w) A (pyNext (.ref z)) Q E s := by
  have ty : s.TypeIs (.ref z) "zip" := ⟨_, gz, (rfl)⟩
  unfold pyNext
  refine wpAny_bind (wpAny_attempt (wpAny_callSpecial?_slot (name := Str.ofString "__next__") ty F.slot_zip_next (wpAny_call_entry F.slot_zip_next ty F.entry_zip_next ?_ (F.args_zip_next_1 _))))
  exact zip_held_item C D1 D2 gz gT gI t1 t2 l1 l2 fun x y h' tk a1 a2 a3 a4 a5 a6 a7 => wpAny_pure (k x y h' tk a1 a2 a3 a4 a5 a6 a7)
theorem next_held_end {Q : Option Value → Shared → Prop} (C : ZipSep2 z TI TO i1 i2 fa fb) (D1 : Draws P w A.in1 i1 fa n R1 S1) (D2 : Draws P w A.in1 i2 fb m R2 S2)
    (gz : IsZipHeld s.heap z TI TO T f) (gT : s.heap.get? T = some oT) (gI : IsTupOf2 s.heap TI (.ref i1) (.ref i2)) (t1 : S1 i s.heap) (t2 : S2 i s.heap) (l1 : i ≤ n) (l2 : i ≤ m) (l3 : i = n ∨ i = m)
    (k : ∀ h' tk, (∀ c o, c ≠ z → c ≠ i1 → c ≠ i2 → s.heap.get? c = some o → h'.get? c = some o) → Q none { s with heap := h', toks := tk }) : wpAny (model P w) A (pyNext (.ref z)) Q E s := by
  have ty : s.TypeIs (.ref z) "zip" := ⟨_, gz, (rfl)⟩
  unfold pyNext
  refine wpAny_bind (wpAny_attempt (wpAny_callSpecial?_slot (name := Str.ofString "__next__") ty F.slot_zip_next (wpAny_call_entry F.slot_zip_next ty F.entry_zip_next ?_ (F.args_zip_next_1 _))))
  refine zip_held_end C D1 D2 gz gT gI t1 t2 l1 l2 l3 fun h' tk e hk he => ?_
  obtain ⟨o, go, hc⟩ := he
  refine wpAny_bind (wpAny_isInstance (b := true) (T := "StopIteration") ⟨o, go, hc⟩ isSubtype_stop ?_)
  exact wpAny_pure (k h' tk hk)
end
end U
namespace U
open PySem PySem.Spec PyProof.Rows L2

/-! ### dict(zip(text, tuple)) -/
/-- the cells: the zip, its pair of iterators, its last pair, the two iterators, the tuple -/
structure TCells (z TI TO i1 i2 l : Addr) : Prop where
  n1 : TI ≠ z
  n2 : TO ≠ z
  n3 : TI ≠ TO
  n4 : TI ≠ i1
  n5 : TI ≠ i2
  n6 : z ≠ i1
  n7 : z ≠ i2
  n8 : TO ≠ i1
  n9 : TO ≠ i2
  n10 : i1 ≠ i2
  l1 : l ≠ z
  l2 : l ≠ TO
  l3 : l ≠ i1
  l4 : l ≠ i2
theorem tcells_new (n l : Nat) (h : l < n) : TCells (n + 4) (n + 2) (n + 3) n (n + 1) l := by
  constructor <;> (show ¬ ((_ : Nat) = _)) <;> omega
theorem TCells.sep {z TI TO i1 i2 l : Addr} (c : TCells z TI TO i1 i2 l) : ZipSep2 z TI TO i1 i2 [i1] [i2, l] where
  TIz := c.n1
  TOz := c.n2
  TITO := c.n3
  TIi1 := c.n4
  mem1 := List.mem_cons_self
  zf1 := by simp [c.n6]
  Tf1 := by simp [c.n8]
  TIi2 := c.n5
  mem2 := List.mem_cons_self
  zf2 := by simp [c.n7, c.l1.symm]
  Tf2 := by simp [c.n9, c.l2.symm]
  sep1_2 := by simp [c.n10, c.l3.symm]
  sep2_1 := by simp [c.n10.symm]
theorem pairArg_zipS {P : Program} {w : World} (z TI TO i1 i2 l : Addr) (C : TCells z TI TO i1 i2 l) (x : Str) (t : Tok) (ys : Array Value) :
    PairArg P w "zip" z [z, TI, TO, i1, i2, l] [z, TO, i1, i2] (min x.cps.size ys.size) (fun i k v => (∃ c u, x.cps[i]? = some c ∧ k = .str ⟨#[c]⟩ u) ∧ ys[i]? = some v)
      (fun h => IsZip h z TI TO .none ∧ (IsTupOf2 h TI (.ref i1) (.ref i2) ∧ ((∃ a b, IsTupOf2 h TO a b) ∧ (h.IsStrIter i1 (strIterType x) x t 0 ∧ (h.IsTupleIter i2 l 0 ∧ h.IsTuple l ys))))) where
  type := fun s ok => ⟨_, ok.1, (rfl)⟩
  notDict := by decide
  keep := fun h h' ok hk => by
    obtain ⟨g1, g2, ⟨a, b, g3⟩, ⟨o, g4, g5⟩, g6, g7⟩ := ok
    exact ⟨hk _ _ g1, hk _ _ g2, ⟨a, b, hk _ _ g3⟩, ⟨o, hk _ _ g4, g5⟩, g6.at fun o e => hk _ o e, g7.at fun o e => hk _ o e⟩
  there := fun h ok b hb => by
    obtain ⟨g1, g2, ⟨_, _, g3⟩, ⟨o1, g4, _⟩, ⟨o2, g5, _⟩, ⟨o3, g6, _⟩⟩ := ok
    simp only [or_false, List.mem_cons, List.not_mem_nil] at hb
    rcases hb with rfl | rfl | rfl | rfl | rfl | rfl
    · exact ⟨_, g1⟩
    · exact ⟨_, g2⟩
    · exact ⟨_, g3⟩
    · exact ⟨_, g4⟩
    · exact ⟨_, g5⟩
    · exact ⟨_, g6⟩
  sub := fun b hb => by
    simp only [or_false, List.mem_cons, List.not_mem_nil] at hb ⊢
    rcases hb with rfl | rfl | rfl | rfl <;> simp
  noKeys := fun A s Q E hA ok k => getAttrOr_miss_zip ok.1 rfl rfl rfl zip_no_keys (by decide +kernel) hA k
  iter := fun A s d Q E hA ok hd hdf k => by
    obtain ⟨g1, g2, ⟨a, b, g3⟩, g4, g5, g6⟩ := ok
    simp only [not_or, or_false, List.mem_cons, List.not_mem_nil] at hdf
    obtain ⟨d1, d2, d3, d4, d5, d6⟩ := hdf
    have D1 : Draws P w A.in1 i1 [i1] x.cps.size (fun i v => ∃ c u, x.cps[i]? = some c ∧ v = .str ⟨#[c]⟩ u) (fun i h => h.IsStrIter i1 (strIterType x) x t i) := Draws.text (A := A.in1) (show A.in1.handled = none from hA) i1 x t
    have D2 : Draws P w A.in1 i2 [i2, l] ys.size (fun i v => ys[i]? = some v) (fun i h => h.IsTupleIter i2 l i ∧ h.IsTuple l ys) := Draws.tuple (A := A.in1) (show A.in1.handled = none from hA) i2 l C.l4 ys
    refine wpAny_pyIter_zip g1 (k z [z, TO, i1, i2] (fun i h => IsTupOf2 h TI (.ref i1) (.ref i2) ∧ (h.IsStrIter i1 (strIterType x) x t i ∧ ((h.IsTupleIter i2 l i ∧ h.IsTuple l ys) ∧
      ((IsZip h z TI TO .none ∧ ∃ a b, IsTupOf2 h TO a b) ∨ ∃ T f oT, IsZipHeld h z TI TO T f ∧ (h.get? T = some oT ∧ (T ≠ z ∧ (T ≠ i1 ∧ (T ≠ i2 ∧ T ≠ d)))))))) s.heap s.toks ?_ ⟨g2, g4, ⟨g5, g6⟩, .inl ⟨g1, a, b, g3⟩⟩ (fun _ _ e => e) fun b hb => .inl hb)
    constructor
    · intro hm
      simp only [or_false, List.mem_cons, List.not_mem_nil] at hm
      rcases hm with e | e | e | e
      · exact d1 e
      · exact d3 e
      · exact d4 e
      · exact d5 e
    · intro i h1 h2 st hk
      obtain ⟨q1, ⟨o, q2, q3⟩, ⟨q4, q5⟩, q6⟩ := st
      refine ⟨hk _ _ (Ne.symm d2) q1, ⟨o, hk _ _ (Ne.symm d4) q2, q3⟩, ⟨q4.at fun o e => hk _ o (Ne.symm d5) e, q5.at fun o e => hk _ o (Ne.symm d6) e⟩, ?_⟩
      rcases q6 with ⟨r1, a, b, r2⟩ | ⟨T, f, oT, r1, r2, r3, r4, r5, r6⟩
      · exact .inl ⟨hk _ _ (Ne.symm d1) r1, a, b, hk _ _ (Ne.symm d3) r2⟩
      · exact .inr ⟨T, f, oT, hk _ _ (Ne.symm d1) r1, hk _ _ r6 r2, r3, r4, r5, r6⟩
    · intro i s1 Q1 E1 hi st hds k1
      obtain ⟨q1, q2, q3, q6⟩ := st
      have m1 : i < x.cps.size := by omega
      have m2 : i < ys.size := by omega
      have far : ∀ {c o}, s1.heap.get? c = some o → s1.heap.objs.size ≠ c := fun e => Nat.ne_of_gt (Heap.lt_size e)
      have f1 : s1.heap.objs.size ≠ i1 := by
        obtain ⟨_, e⟩ := D1.live _ _ q2
        exact far e
      have f2 : s1.heap.objs.size ≠ i2 := by
        obtain ⟨_, e⟩ := D2.live _ _ q3
        exact far e
      rcases q6 with ⟨r1, a, b, r2⟩ | ⟨T, f, oT, r1, r2, r3, r4, r5, r6⟩
      · refine wpAny_pyNext_zipD2_item C.sep D1 D2 r1 q1 r2 q2 q3 m1 m2 fun x1 x2 h' tk p1 p2 z1 t1 u1 u2 hT hsz hk => ?_
        refine k1 s1.heap.objs.size x1 x2 h' tk ⟨p1, p2⟩ (.inl ⟨_, hT, rfl, _, rfl⟩) ⟨hk _ _ C.n1 C.n3 C.n4 C.n5 q1, u1, u2, .inr ⟨s1.heap.objs.size, false, _, z1, hT, far r1, f1, f2, Nat.ne_of_gt hds⟩⟩ fun c o hc => hk c o (fun e => hc (by simp [e])) (fun e => hc (by simp [e])) (fun e => hc (by simp [e])) fun e => hc (by simp [e])
      · refine next_held_item C.sep D1 D2 r1 r2 q1 q2 q3 m1 m2 fun x1 x2 h' tk p1 p2 z1 u1 u2 hT hk => ?_
        refine k1 s1.heap.objs.size x1 x2 h' tk ⟨p1, p2⟩ (.inl ⟨_, hT, rfl, _, rfl⟩) ⟨hk _ _ C.n1 C.n4 C.n5 q1, u1, u2, .inr ⟨T, true, oT, z1, hk _ _ r3 r4 r5 r2, r3, r4, r5, r6⟩⟩ fun c o hc => hk c o (fun e => hc (by simp [e])) (fun e => hc (by simp [e])) fun e => hc (by simp [e])
    · intro s1 Q1 E1 st k1
      obtain ⟨q1, q2, q3, q6⟩ := st
      rcases q6 with ⟨r1, a, b, r2⟩ | ⟨T, f, oT, r1, r2, r3, r4, r5, r6⟩
      · exact wpAny_pyNext_zipD2_end C.sep D1 D2 r1 q1 r2 q2 q3 (Nat.min_le_left _ _) (Nat.min_le_right _ _) (by omega) fun h' tk hk => k1 h' tk fun c o hc => hk c o (fun e => hc (by simp [e])) (fun e => hc (by simp [e])) (fun e => hc (by simp [e])) fun e => hc (by simp [e])
      · exact next_held_end C.sep D1 D2 r1 r2 q1 q2 q3 (Nat.min_le_left _ _) (Nat.min_le_right _ _) (by omega) fun h' tk hk => k1 h' tk fun c o hc => hk c o (fun e => hc (by simp [e])) (fun e => hc (by simp [e])) fun e => hc (by simp [e])
/-- the signs of a text, each with its value -/
def signKV {α : Type} (x : Str) (ys : List α) : List (Key × α) := List.zipWith (fun c y => ((Sum.inr ⟨#[c]⟩ : Key), y)) x.cps.toList ys
theorem kv_sign {cs : List Nat} {ys : List V} {us : List Value} (h : Vals ys us) : KV (List.zipWith (fun c y => ((Sum.inr ⟨#[c]⟩ : Key), y)) cs ys) (List.zipWith (fun c y => ((Sum.inr ⟨#[c]⟩ : Key), y)) cs us) := by
  unfold KV
  induction h generalizing cs with
  | nil => cases cs <;> exact .nil
  | cons r _ ih =>
    cases cs with
    | nil => exact .nil
    | cons c cs => exact .cons ⟨rfl, r⟩ (ih (cs := cs))
def tDictZip (K : PySem.W.Frag) (ta : TA) : TE := fun σ H Q => ta σ H fun vs H1 => ∃ (x : Str) (l : Addr) (ys : List V), vs = [.str x, .ref l] ∧ SqT K H1 l ys ∧ x.cps.size = ys.length ∧ ∀ d, H1 d = none → Q (.ref d) (upd H1 d (.dK (mergeK [] (signKV x ys))))
theorem pe_dictZip {X : Cx} {e1 e2 : Expr} {ta : TA} {p p2 q pos : Pos} (calm : X.calm = true) (hg : Gl X "dict") (hm : X.mg "dict" = none) (hg2 : Gl X "zip") (hm2 : X.mg "zip" = none) (ha : PA X [e1, e2] ta)
    (hs : starEach [e1, e2] X.env = (false, eval e1 X.env) :: starEach [e2] X.env := by rfl) (hpl : (backTo q (starEach [e2] X.env)).any (·.1) = false := by rfl)
    (alone : starEach [.Call (.Name "zip" p2) [e1, e2] [] q] X.env = (false, eval (.Call (.Name "zip" p2) [e1, e2] [] q) X.env) :: starEach [] X.env := by rfl) :
    PE X (.Call (.Name "dict" p) [.Call (.Name "zip" p2) [e1, e2] [] q] [] pos) (tDictZip X.K ta) := by
  refine .mk ?_
  intro pins s σ H Q I h
  refine Call_ (ld_blt I hg hm boot_dict (callWith_type1 (args_cons ?_ alone) alone rfl))
  refine Call_ (ld_blt I hg2 hm2 boot_zip (PyProof.Rows.callWith_type1 (thn (ha.run q pins s σ H _ I h) fun us s1 q0 => ?_) hs hpl))
  obtain ⟨vs, H1, I1, r1, x, l, ys, ex, qy, len, k⟩ := q0
  subst ex
  obtain ⟨t, rfl⟩ : ∃ t, us = [Value.str x t, .ref l] := by
    cases r1 with
    | cons r r2 =>
      cases r2 with
      | cons r' r3 =>
        cases r3
        obtain ⟨t, rfl⟩ := r
        cases r'
        exact ⟨t, rfl⟩
  obtain ⟨yv, rv, p2, hz⟩ := I1.tuple qy
  have ll : l < s1.heap.objs.size := by
    obtain ⟨o, ho, _⟩ := id p2
    exact Heap.lt_size ho
  refine zip_begins2 (begins_text x t) (begins_tuple l yv.toArray) trivial p2 fun h1 z1 t1 t2 g1 g2 hsz hk => args_nil ?_
  have C := tcells_new s1.heap.objs.size l ll
  have A0 := pairArg_zipS (P := X.prog) (w := X.w) _ _ _ _ _ l C x t yv.toArray
  have e1 := rv.length
  refine PySem.call_dict_pairs (knd := mixKind X.prog X.w) (kvs := signKV x yv) A0 (I1.ok.hd calm) ⟨z1, t1, ⟨_, _, t2⟩, ⟨_, g1, rfl, rfl⟩, ⟨_, g2, rfl, rfl⟩, (show s1.heap.IsTuple l yv.toArray from p2).at fun o e => hk _ o e⟩ ?_ ?_ fun h2 tk dd kk => ?_
  · refine ⟨?_, fun i key v rel => ?_⟩
    · unfold signKV
      rw [List.length_zipWith]
      simp
    · obtain ⟨⟨c, u, hc, rfl⟩, hv⟩ := rel
      refine ⟨.inr ⟨#[c]⟩, ?_, mixKind_str _ _ _ _⟩
      unfold signKV
      rw [List.getElem?_zipWith, Array.getElem?_toList, hc]
      have hv : yv[i]? = some v := by simpa using hv
      rw [hv]
  · refine Nat.le_trans (Nat.min_le_right _ _) ?_
    have e3 : yv.toArray.size = ys.length := by simp [e1]
    rw [e3]
    exact hz
  · have lenM : (mergeK [] (signKV x ys)).length ≤ sizeLine := by
      refine Nat.le_trans (length_mergeK _ []) ?_
      unfold signKV
      rw [List.length_nil, Nat.zero_add, List.length_zipWith]
      exact Nat.le_trans (Nat.min_le_right _ _) hz
    have le : s1.heap.objs.size ≤ h1.objs.size := by
      rw [hsz]
      exact Nat.le_add_right _ _
    have mods : (h1.objs.size == sysModules) = false := beq_eq_false_iff_ne.mpr (Nat.ne_of_gt (Nat.lt_of_lt_of_le I1.big le))
    have keep : ∀ b o, s1.heap.get? b = some o → h2.get? b = some o := fun b o e => by
      have lt : b < s1.heap.objs.size := Heap.lt_size e
      refine kk b o (fun hb => ?_) (hk b o e)
      simp only [or_false, List.mem_cons, List.not_mem_nil] at hb
      rcases hb with q | q | q | q
      · exact absurd lt (by rw [q]; exact Nat.not_lt.mpr (Nat.le_add_right _ 4))
      · exact absurd lt (by rw [q]; exact Nat.not_lt.mpr (Nat.le_add_right _ 3))
      · exact absurd lt (by rw [q]; exact Nat.lt_irrefl _)
      · exact absurd lt (by rw [q]; exact Nat.not_lt.mpr (Nat.le_add_right _ 1))
    exact ⟨.ref h1.objs.size, upd H1 h1.objs.size (.dK (mergeK [] (signKV x ys))), I1.laid (t' := tk) keep le (show ObjOk X.prog X.w _ _ _ (.dK (mergeK [] (signKV x ys))) from ⟨lenM, mods, merged [] (signKV x yv), KV.merge (kv_sign rv) .nil, dd⟩), rfl, k _ (I1.hok.fresh le)⟩
end U
namespace U
open PySem PySem.Spec PyProof.Rows L2

/-! ### str(x), by the kinds of x -/
def uStrA (K : PySem.W.Frag) : List V → Hp → VK → Prop := fun xs H Q => match xs with
  | [.int i] => i.natAbs.log2 < 1920 ∧ Q (.str (toString i)) H
  | [.non] => Q (.str "None") H
  | [.bl b] => Q (.str (if b then "True" else "False")) H
  | [.str z] => Q (.str z) H
  | [.ref a] => ∃ d, Dp K H (.ref a) d ∧ d.showable = true ∧ d.hasDict = false ∧ d.depth ≤ 60 ∧ d.shown.length ≤ sizeLine ∧ Q (.str d.shown) H
  | _ => False
theorem call_uStrA {X : Cx} (hA : X.A.guards = some []) (hu : X.A.units + 64 < cLine) : CallR X (.type "str") (uStrA X.K) := by
  intro ps s σ H xs us R I r h
  match xs, h with
  | [.int i], h =>
    obtain ⟨_, rfl, t, rfl⟩ := vals1 r
    exact PySem.P.str_of_int h.1 ⟨.str _, H, I.tok _, ⟨_, rfl⟩, h.2⟩
  | [.non], h =>
    obtain ⟨_, rfl, same⟩ := vals1 r
    cases same
    exact PySem.P.str_of_none ⟨.str _, H, I.tok _, ⟨_, rfl⟩, h⟩
  | [.bl b], h =>
    obtain ⟨_, rfl, same⟩ := vals1 r
    cases same
    refine PySem.P.str_of_bool ⟨.str _, H, I.tok _, ⟨s.toks, ?_⟩, h⟩
    cases b <;> rfl
  | [.str z], h =>
    obtain ⟨_, rfl, t, rfl⟩ := vals1 r
    exact PySem.P.str_of_str ⟨.str _, H, I, ⟨_, rfl⟩, h⟩
  | [.ref a], h =>
    obtain ⟨_, rfl, same⟩ := vals1 r
    cases same
    obtain ⟨d, hd, hs, hn, hz, hl, q⟩ := h
    obtain ⟨as, rr⟩ := Dp.reads I d (.ref a) (.ref a) hd rfl
    exact str_of_reads rr hs (fun z => by rw [hn] at z; cases z) hA (by omega) (fun _ _ z => z) (fun h' u tk k => ⟨.str _, H, I.kept (t' := tk) k, ⟨_, rfl⟩, q⟩) hl
end U
namespace U
open PySem PySem.Spec PyProof.Rows L2

/-! ### enumerate(tuple) -/
section
open Sem (wp)
set_option maxHeartbeats 1200000 in
theorem enumT_meets {a : Addr} {its : Array Value} :
    Meets (Builtin.«enumerate.__new__» ⟨[.type "enumerate", .ref a], []⟩) (fun _ R s => s.heap.IsTuple a its ∧
      R (.ok (.ret (.ref (s.heap.push { cls := .type "tuple_iterator", data := .fields #[.ref a, .int 0 0] }).objs.size)))
        { s with heap := (s.heap.push { cls := .type "tuple_iterator", data := .fields #[.ref a, .int 0 0] }).push { cls := .type "enumerate", data := .fields #[.none, .bool false, .ref s.heap.objs.size, rawInt 0, .none, .none] } }) := by
  refine .of_wp fun prog w A R sh hh => ?_
  obtain ⟨hp, gg, dd, tk, os⟩ := sh
  obtain ⟨ht, h⟩ := hh
  have sub := sub_enumerate
  have it1 : ∀ {A' : Around} {E : Value → Shared → Prop} {Q : Value → Shared → Prop}, Q (.ref hp.objs.size) ⟨hp.push { cls := .type "tuple_iterator", data := .fields #[.ref a, .int 0 0] }, gg, dd, tk, os⟩ →
      wpAny (model prog w) A' (pyIter (.ref a)) Q E ⟨hp, gg, dd, tk, os⟩ := fun q => wpAny_pyIter_tuple (s := ⟨hp, gg, dd, tk, os⟩) ht q
  wp_walk using it1
  refine wpAny_stack_any fun stk => wpAny_pure ?_
  split
  · rename_i c _ _ _ _ _
    cases (c == Value.type "enumerate") <;> (wp_walk using it1; exact ⟨_, rfl, h⟩)
  · wp_walk using it1
    exact ⟨_, rfl, h⟩
theorem enumT_call {prog : Program} {w : World} {A : Around} {E : Value → Shared → Prop} {s : Shared} {a : Addr} {its : Array Value} {Q : Value → Shared → Prop} (ht : s.heap.IsTuple a its)
    (h : ∀ h', IsEnum h' (s.heap.objs.size + 1) s.heap.objs.size 0 .none → h'.IsTupleIter s.heap.objs.size a 0 → (∀ b o, s.heap.get? b = some o → h'.get? b = some o) → Q (.ref (s.heap.objs.size + 1)) { s with heap := h' }) :
    wpAny (model prog w) A (call (.type "enumerate") [.ref a]) Q E s := by
  refine callType_new F.called_enumerate (by decide) (F.typeCall_enumerate_1 _) (F.newCall_enumerate_1 _) (fun obj => F.args_object_init_2 obj _) F.entry_enumerate_new enumT_meets ⟨ht, ?_⟩
  have hz : (s.heap.push { cls := .type "tuple_iterator", data := .fields #[.ref a, .int 0 0] }).objs.size = s.heap.objs.size + 1 := Heap.size_push ..
  show _ ∧ _
  rw [hz]
  have he := Heap.get?_push_size (s.heap.push { cls := .type "tuple_iterator", data := .fields #[.ref a, .int 0 0] }) (o := { cls := .type "enumerate", data := .fields #[.none, .bool false, .ref s.heap.objs.size, rawInt 0, .none, .none] }) rfl
  rw [hz] at he
  exact ⟨⟨_, he, rfl⟩, h _ he ⟨{ cls := .type "tuple_iterator", data := .fields #[.ref a, .int 0 0] }, Heap.get?_push_of_some _ (Heap.get?_push_size _ rfl), rfl, rfl⟩ fun b o x => Heap.get?_push_of_some _ (Heap.get?_push_of_some _ x)⟩
end
def IteT (K : PySem.W.Frag) (a : Addr) : It :=
  ⟨fun i H => ∃ xs x, SqT K H a xs ∧ xs[i]? = some x, fun i H v H' => ∃ T x, v = .ref T ∧ (H T = none ∧ (H' = upd H T (.tup [.int (i : Nat), x]) ∧ ∀ xs, SqT K H a xs → xs[i]? = some x)),
    fun i H => ∃ xs, SqT K H a xs ∧ i = xs.length⟩
theorem turn_enumT {P : Program} {w : World} {K : PySem.W.Frag} {el : List Expr} {kk : Nat} {tp : Pos} (a e it : Addr) :
    Turn P w K (.Tuple el kk tp) (IteT K a) [e, it] e (fun i h => (∃ old, IsEnum h e it ((i : Nat) : Int) old) ∧ (h.IsTupleIter it a i ∧ (e ≠ it ∧ (a ≠ it ∧ e ≠ a)))) where
  mem := by simp
  obj := fun i h st b hb => by
    obtain ⟨⟨last, he⟩, itr, _⟩ := st
    obtain ⟨o, ho, hc, hd⟩ := itr
    rcases (show b = e ∨ b = it by simpa using hb) with q | q
    · subst q
      exact ⟨_, he, fun v q => nomatch q⟩
    · subst q
      exact ⟨o, ho, fun v q => by rw [hd] at q; cases q⟩
  keep := fun i h h' st k => by
    obtain ⟨⟨old, he⟩, ⟨o, ho, r⟩, ne⟩ := st
    exact ⟨⟨old, k e (by simp) _ he⟩, ⟨o, k it (by simp) o ho, r⟩, ne⟩
  item := by
    intro X hP hw hK hc
    intro i pins s σ H E I hf st hg
    subst hP hw hK
    obtain ⟨⟨old, he⟩, hit, ne, na, nea⟩ := st
    obtain ⟨xs, x, hq, hx⟩ := hg
    obtain ⟨its, rv, pt, hzl⟩ := I.tuple hq
    have le := Heap.lt_size he
    have li : it < s.heap.objs.size := by
      obtain ⟨_, q, _⟩ := id hit
      exact Heap.lt_size q
    have lt : i < its.toArray.size := by
      rw [List.size_toArray, ← rv.length]
      exact (List.getElem?_eq_some_iff.mp hx).1
    refine wpAny_pyNext_enum_itemD (Draws.tuple (prog := X.prog) (w := X.w) (A := X.A.in1) (I.ok.hd hc) it a na its.toArray) he ⟨hit, pt⟩ lt ne (by simp [ne, nea]) fun y h1 tk hy ho hit1 hT hz1 k1 => ?_
    obtain ⟨u, hgu, ru⟩ := rv.get hx
    have eyu : y = u := by
      rw [show its.toArray[i]? = its[i]? by simp, hgu] at hy
      exact (Option.some.inj hy).symm
    subst eyu
    refine ⟨_, rfl, wpAny_letOwnedTupleGo_enum (s := { s with heap := h1, toks := tk + 1 }) ho fun h2 he2 sb => ?_⟩
    have T2 : h2.get? s.heap.objs.size = some { cls := .type "tuple", data := .seq #[.int i tk, y] } := (sb.2 _ (Nat.ne_of_gt le)).trans hT
    have new : ObjOk X.prog X.w (upd H s.heap.objs.size (.tup [.int (i : Nat), x])) h2 s.heap.objs.size (.tup [.int (i : Nat), x]) :=
      ⟨by show 2 ≤ sizeLine; decide, [.int i tk, y], .cons ⟨_, rfl⟩ (.cons ru .nil), ⟨_, T2, rfl, _, rfl⟩⟩
    have I1 : Inv X pins σ (upd H s.heap.objs.size (.tup [.int (i : Nat), x])) { s with heap := h2, toks := tk + 1 } :=
      I.turnedNew (ch := [e, it]) (fun b ob hb q => (sb.2 b (fun y => hb (by simp [y]))).trans (k1 b ob (fun y => hb (by simp [y])) (fun y => hb (by simp [y])) q)) hf (Nat.le_refl _) new
    refine ⟨.ref s.heap.objs.size, _, I1, rfl, ⟨_, x, rfl, I.hok.fresh (Nat.le_refl _), rfl, fun ys hy => by rw [I.tuple_inj hy hq]; exact hx⟩, ⟨⟨y, ?_⟩, hit1.1.at fun o q => (sb.2 it (Ne.symm ne)).trans q, ne, na, nea⟩, fun b hb => ?_⟩
    · rw [show ((i + 1 : Nat) : Int) = i + 1 by omega]
      exact he2
    · have below : b < s.heap.objs.size := by
        rcases (show b = e ∨ b = it by simpa using hb) with q | q
        · rw [q]; exact le
        · rw [q]; exact li
      rw [upd_ne (Nat.ne_of_lt below)]
      exact (hf b hb).1
  done := by
    intro X hP hw hK hc
    intro i pins s σ H E I hf st hg
    subst hP hw hK
    obtain ⟨⟨old, he⟩, hit, ne, na, nea⟩ := st
    obtain ⟨f0, f1, _, f3, f4, f5⟩ := hf it (by simp)
    obtain ⟨xs, hq, hi⟩ := hg
    obtain ⟨its, rv, pt, hzl⟩ := I.tuple hq
    have hs : i = its.toArray.size := by rw [List.size_toArray, ← rv.length]; exact hi
    subst hs
    exact wpAny_pyNext_enum_endD (Draws.tuple (prog := X.prog) (w := X.w) (A := X.A.in1) (I.ok.hd hc) it a na its.toArray) he ⟨hit, pt⟩ fun h' eb => ⟨rfl, I.turned (t' := s.toks) (fun b o hb q => eb b o hb q) f0 f1 f3 f4 f5⟩
  self := fun _ _ _ _ _ st h => by
    obtain ⟨⟨_, he⟩, _⟩ := st
    exact wpAny_pyIter_enum he h
def iEnumT (K : PySem.W.Frag) (ta : TA) : TI := fun σ H R => ta σ H fun vs H1 => ∃ a xs, vs = [.ref a] ∧ (SqT K H1 a xs ∧ R (IteT K a) H1)
theorem pi_enumT {X : Cx} {e : Expr} {ta : TA} {p pos tpos : Pos} {elts : List Expr} {kk : Nat} (hg : Gl X "enumerate") (hm : X.mg "enumerate" = none) (ha : PA X [e] ta) (hs : starEach [e] X.env = [(false, eval e X.env)] := by rfl) :
    PI X (.Tuple elts kk tpos) (.Call (.Name "enumerate" p) [e] [] pos) (iEnumT X.K ta) := by
  refine .mk ?_
  intro pins s σ H R I h
  refine Call_ (ld_blt I hg hm boot_enumerate (PyProof.Rows.callWith_type1 (thn (ha.run pos pins s σ H _ I h) fun us s1 z => ?_) hs rfl))
  obtain ⟨vs, H1, I1, r1, a, xs, ex, hq, q⟩ := z
  subst ex
  obtain rfl := Vals.ref1 r1
  obtain ⟨its, rv, pt, hzl⟩ := I1.tuple hq
  have la : a < s1.heap.objs.size := by
    obtain ⟨_, q, _⟩ := id pt
    exact Heap.lt_size q
  refine enumT_call pt fun h' he hit hk => wpAny_pyIter_enum he ?_
  have I2 : Inv X pins σ H1 { s1 with heap := h' } := by
    exact I1.kept (t' := s1.toks) hk
  refine ⟨s1.heap.objs.size + 1, [s1.heap.objs.size + 1, s1.heap.objs.size], _, _, H1, rfl, I2, turn_enumT a (s1.heap.objs.size + 1) s1.heap.objs.size, ⟨⟨.none, he⟩, hit, Nat.succ_ne_self _, Nat.ne_of_lt la, Nat.ne_of_gt (Nat.lt_succ_of_lt la)⟩, fun b hb => ?_, q⟩
  have hb2 : s1.heap.objs.size ≤ b := by
    rcases (show b = s1.heap.objs.size + 1 ∨ b = s1.heap.objs.size by simpa using hb) with q | q
    · exact q ▸ Nat.le_succ _
    · exact q ▸ Nat.le_refl _
  exact I1.fpOk hb2 (I1.hok.fresh hb2)
/-- enumerate of a list, a tuple, a text -/
def iEnumA (K : PySem.W.Frag) (ta : TA) : TI := fun σ H R => iEnumU K ta σ H R ∨ iEnumT K ta σ H R
theorem pi_enumA {X : Cx} {e : Expr} {ta : TA} {p pos tpos : Pos} {elts : List Expr} {kk : Nat} (hg : Gl X "enumerate") (hm : X.mg "enumerate" = none) (ha : PA X [e] ta) (hs : starEach [e] X.env = [(false, eval e X.env)] := by rfl) :
    PI X (.Tuple elts kk tpos) (.Call (.Name "enumerate" p) [e] [] pos) (iEnumA X.K ta) := by
  refine .mk ?_
  intro pins s σ H R I h
  rcases h with h | h
  · exact (pi_enumU hg hm ha hs).run pins s σ H R I h
  · exact (pi_enumT hg hm ha hs).run pins s σ H R I h
end U
namespace U
open PySem PySem.Spec PyProof.Rows L2

/-! ### y = {k: v for ..} -/
section
variable {X : Cx}
theorem sw_dict {kx vx : Expr} {gs : List Comprehension} {scope : Scope} {pos py : Pos} {y : Str} {l : Nat} {env : Env} (h1 : env.scope.kind = .function) (h2 : env.scope.names.lookup y = some .local) (h3 : (py.line == pos.line) = true)
    (h4 : (scope.names.any fun (n, k) => n == y && (k == .local || k == .cell)) = false) : swapsWith (.DictComp kx vx gs scope pos) (some (.Name y py)) l env = pure true := by
  have e1 : env.kindOf y = some .local := h2
  have e2 : env.blockKind = .function := by
    unfold Env.blockKind
    rw [h1]
    rfl
  unfold swapsWith
  simp only [e1, e2, h4, Expr.pos, h3]
  rfl
theorem ps_setDc {i : Nat} {y : Str} {py : Pos} {kx vx tg iter : Expr} {ifs : List Expr} {scope : Scope} {own : List (Str × Nat)} {pos spos : Pos} {wi : TI} {g : TG} {tt : TT} {tk tv : TE} (hc : X.calm = true) (hN : X.N.Nodup) (hy : X.N[i]? = some y) (hyl : X.env.scope.names.lookup y = some .local)
    (hsw : swapsWith (.DictComp kx vx [⟨tg, iter, ifs, 0⟩] scope pos) (some (.Name y py)) spos.line X.env = pure true) (hi : PI X tg iter wi) (ok : BlkOk X.N X.env.scope scope own)
    (hg : ∀ s H C cl fp, PG (X.blk s H scope (compEnvC scope cl C X.env) fp) tg g) (ht : ∀ s H C cl fp, PTs (X.blk s H scope (compEnvC scope cl C X.env) fp) ifs tt)
    (hk : ∀ s H C cl fp, PE (X.blk s H scope (compEnvC scope cl C X.env) fp) kx tk) (he : ∀ s H C cl fp, PE (X.blk s H scope (compEnvC scope cl C X.env) fp) vx tv) (hs : ∀ x, foldedSetIterable iter X.env x = pure x := by intro _; rfl) :
    PS X (.Assign [.Name y py] (.DictComp kx vx [⟨tg, iter, ifs, 0⟩] scope pos) spos) (tAsg (tDc wi g tt tk tv (own.map (·.2))) (gName i)) := by
  refine .mk ?_
  intro pins s σ H D I h
  rw [exec_Assign_Name_used (hs := hsw)]
  apply wpAny_bind
  refine wpAny_standAt (wpAny_bind ?_)
  show wpAny _ X.A (do let _ ← comprehension (.DictComp kx vx [⟨tg, iter, ifs, 0⟩] scope pos) scope X.env (firstIterPos [⟨tg, iter, ifs, 0⟩] pos) newDict false (eval iter X.env) (some (assign (.Name y py) X.env))) _ _ s
  have h : tDc wi g tt tk tv (own.map (·.2)) σ H (fun x H1 => gName i x σ H1 D.nx) := h
  refine wpAny_bind (thn (dc_core (Qf := fun _ s' => SP X pins D .next s') hc hN I hi ok hg ht hk he hs h fun L C s' m H' I' q hn f => ?_) fun _ s' hq => wpAny_pure (wpAny_pure hq))
  show wpAny (model X.prog X.w) _ (assign (.Name y py) X.env (.ref L)) _ _ _
  refine wpAny_assign_Name (store_ok2 (v := V.ref L) I' hN hy (.inl hyl) rfl (fun s2 I2 out => ?_) (.inr hyl))
  obtain ⟨a, sb, ha⟩ := out
  obtain ⟨f0, f1, g2, g3, f4, f5⟩ := f
  have na : C ≠ a := by
    rcases ha with z | z
    · rw [z]
      exact f1
    · intro e
      exact f4 y a z e.symm
  refine ⟨m, hn.sameBut sb na, fun h3 sb3 => ⟨_, H', ?_, q⟩⟩
  exact I2.turned (t' := s2.toks) (fun b o hb e => (sb3.2 b hb).trans e) f0 f1 g3 f4 f5
end
end U
namespace U
open PySem PySem.Spec PyProof.Rows L2

/-! ### len(set(texts)), no text twice -/
def inL (l : List Str) (t : Str) : Bool := decide (t ∈ l)
section
variable {P : Program} {w : World} {A : Around} {E : Value → Shared → Prop} {xs : List Str} {items : Array Value}
theorem texts_loop {R : Result → Shared → Prop} {it D : Addr} {fp wr : List Addr} {St : Nat → Heap → Prop} (W : Walks P w A.in1 it fp wr items.size (fun i v => items[i]? = some v) St) (off : D ∉ fp)
    (val : ∀ (i : Nat) (v : Value), items[i]? = some v → ∃ z t, xs[i]? = some z ∧ v = .str z t) (hl : xs.length = items.size) (nd : xs.Nodup) (few : xs.length + 1 < scanBound) :
    ∀ (k i : Nat) (s : Shared), i + k = items.size → St i s.heap → s.heap.SetOf (strKind P w) D (inL (xs.take i)) i →
      (∀ h tk, (∀ b o, b ≠ D → b ∉ wr → s.heap.get? b = some o → h.get? b = some o) → h.SetOf (strKind P w) D (inL xs) xs.length → R (.ok (.ret .none)) { s with heap := h, toks := tk }) →
      codeAny (model P w) A (.builtin "set.update.loop" ⟨[.ref D, .ref it], []⟩) R s := by
  have offw : D ∉ wr := fun m => off (W.sub _ m)
  intro k
  induction k with
  | zero =>
    intro i s hi st now fin
    obtain rfl : i = items.size := hi
    refine codeAny_builtin (PyProof.Rows.F.entry_set_update_loop) (by
      rw [Around.under_plainId (PyProof.Rows.F.plain_set_update_loop) _]
      refine wpAny_bind (m := pyNext (.ref it)) (W.done s _ _ st fun h' tk' kept => ?_)
      refine wpAny_pure (fin h' tk' (fun b o _ nw e => kept b o nw e) ?_)
      rw [List.take_of_length_le (Nat.le_of_eq hl)] at now
      exact setOf_in now (fun o e => kept D o offw e) (fun _ => rfl) hl.symm)
  | succ k more =>
    intro i s hi st now fin
    have lt : i < items.size := by omega
    refine codeAny_builtin (PyProof.Rows.F.entry_set_update_loop) (by
      rw [Around.under_plainId (PyProof.Rows.F.plain_set_update_loop) _]
      refine wpAny_bind (m := pyNext (.ref it)) (W.item i s _ _ lt st fun v h1 tk1 isv st1 kept => ?_)
      obtain ⟨z, u, hz, rfl⟩ := val i v isv
      have now1 := setOf_in now (fun o e => kept D o offw e) (fun _ => rfl) rfl
      have fresh : z ∉ xs.take i := fun m => by
        obtain ⟨j, hj, e⟩ := List.mem_iff_getElem.mp m
        rw [List.length_take] at hj
        rw [List.getElem_take] at e
        have : j = i := (List.getElem?_inj (by omega) nd).mp (by rw [hz, ← e]; exact List.getElem?_eq_getElem (by omega))
        omega
      refine wpAny_bind (m := holding [Value.str z u] (setAdd D (.str z u))) (wpAny_holding ?_)
      refine wpAny_holding (m := _) (wpAny_bind ((strKind P w).pyHash (k := z) (by exact strKind_is _ _ _ _) ?_))
      refine wpAny_setAddHashed_of (s := { s with heap := h1, toks := tk1 + 1 }) (knd := strKind P w) (by exact strKind_is _ _ _ _) rfl now1 (by omega) fun h2 but now2 => ?_
      have now3 : h2.SetOf (strKind P w) D (inL (xs.take (i + 1))) (i + 1) := by
        rw [List.take_succ, hz, Option.toList_some]
        refine setOf_in now2 (fun o e => e) (fun t => ?_) ?_
        · unfold inL
          by_cases e : t = z
          · subst e
            simp
          · simp [e]
        · unfold inL
          rw [decide_eq_false fresh]
          rfl
      refine wpAny_pure ⟨plainId_quiet (PyProof.Rows.F.plain_set_update_loop) _, more (i + 1) _ (by omega) (W.frame _ h1 _ st1 fun b hb o e => ?_) now3 fun h3 tk3 kept3 now4 => ?_⟩
      · rw [but.2 b fun e : b = D => off (e ▸ hb)]
        exact e
      · refine fin h3 tk3 (fun b o nD nw e => kept3 b o nD nw ?_) now4
        rw [but.2 b nD]
        exact kept b o nw e)
local macro_rules | `(tactic| walk_at "g") => `(tactic| repeat (any_goals (first | assumption | wp_step)))
theorem set_texts {a : Addr} {s : Shared} {Q : Value → Shared → Prop} (calm : A.handled = none) (ha : s.heap.IsList a items)
    (val : ∀ (i : Nat) (v : Value), items[i]? = some v → ∃ z t, xs[i]? = some z ∧ v = .str z t) (hl : xs.length = items.size) (nd : xs.Nodup) (few : xs.length + 1 < scanBound)
    (h : ∀ (h' : Heap) (tk : Nat), h'.SetOf (strKind P w) s.heap.objs.size (inL xs) xs.length → (∀ b o, s.heap.get? b = some o → h'.get? b = some o) → Q (.ref s.heap.objs.size) { s with heap := h', toks := tk }) :
    wpAny (model P w) A (call (.type "set") [.ref a]) Q E s := by
  obtain ⟨cd, rest, mro⟩ := PySem.F.called_set.mro
  have made := PySem.F.called_set.made; have sub := PySem.F.called_set.sub; have f1 := PySem.F.called_set.notType
  have f2 := PySem.F.called_set.canCreate; have f3 := PySem.F.typeCall_set_1 (.ref a)
  refine wpAny_call (M := model P w) (codeAny_of_tree ?_); show wpAny _ _ (callAny (.type "set") _) _ _ _
  refine wpAny_pure ⟨Code.quiet_builtin _ (by decide +kernel), codeAny_builtin (PySem.F.entry_type_call) ?_⟩
  rw [Around.under_plain (weight_type_call_type "set" [.ref a] []) rfl]
  walk_at "g"
  refine codeAny_mono (code_set_new_1 (.ref a) (E := E) (Q₁ := fun ob s1 => ∃ led : Bool, ob = .ref s.heap.objs.size ∧ s1 = { s with heap := s.heap.push { cls := .type "set", dict := none, data := .set #[] 0 (.fresh 0 0 led) } }) fun led => ⟨led, rfl, rfl⟩) fun r s1 hr => ?_
  match r, hr with
  | .error e, hr => exact hr
  | .ok .next, hr => exact hr.elim
  | .ok .brk, hr => exact hr.elim
  | .ok .cont, hr => exact hr.elim
  | .ok (.ret ob), hr =>
    obtain ⟨led, rfl, rfl⟩ := hr
    have new : (s.heap.push { cls := .type "set", dict := none, data := .set #[] 0 (.fresh 0 0 led) }).get? s.heap.objs.size = some { cls := .type "set", dict := none, data := .set #[] 0 (.fresh 0 0 led) } := Heap.get?_push_size _ rfl
    have ty : Shared.TypeIs { s with heap := s.heap.push { cls := .type "set", dict := none, data := .set #[] 0 (.fresh 0 0 led) } } (.ref s.heap.objs.size) "set" := ⟨_, new, rfl⟩
    have g1 := PySem.F.called_set.init.lookup; have g2 := PySem.F.called_set.init.bind (.ref s.heap.objs.size)
    walk_at "g"
    refine codeAny_mono (codeAny_call_builtin (R := wants (fun r s2 => r = .none ∧ ∃ h' tk, s2 = { s with heap := h', toks := tk } ∧ h'.SetOf (strKind P w) s.heap.objs.size (inL xs) xs.length ∧ ∀ b o, s.heap.get? b = some o → h'.get? b = some o) E)
      PySem.F.called_set.init.plain PySem.F.entry_set_init (check_set_init_1 ty ?_)) fun r2 s2 hr2 => ?_
    · obtain ⟨ob, hob, cls, num, dat⟩ := ha
      obtain ⟨ocls, odict, odata, oslots⟩ := ob
      simp only at cls dat
      subst cls
      subst dat
      have at2 : (s.heap.push { cls := .type "set", dict := none, data := .set #[] 0 (.fresh 0 0 led) }).get? a = some { cls := .type "list", dict := odict, data := .seq items num, slots := oslots } := Heap.get?_push_of_some _ hob
      have k1 := PySem.F.sub_list_set; have k2 := PySem.F.sub_list_frozenset
      have k3 : (Value.type "list" == Value.type "dict") = false := by decide
      have isl : (s.heap.push { cls := .type "set", dict := none, data := .set #[] 0 (.fresh 0 0 led) }).IsList a items := ⟨_, at2, rfl, num, rfl⟩
      unfold Builtin.«set.__init__» Builtin.Frozenset.updateFrom noKeywords
      generalize walkOf : pyIter = PI
      wp_walk
      subst walkOf
      refine wpAny_pyIter_list isl ?_
      refine wpAny_bind (m := _) (wpAny_runValue ?_)
      have below : a < s.heap.objs.size := Heap.lt_size hob
      have neI : a ≠ (s.heap.push { cls := .type "set", dict := none, data := .set #[] 0 (.fresh 0 0 led) }).objs.size := by
        rw [Heap.size_push]
        exact Nat.ne_of_lt (Nat.lt_succ_of_lt below)
      have ne : s.heap.objs.size ∉ [(s.heap.push { cls := .type "set", dict := none, data := .set #[] 0 (.fresh 0 0 led) }).objs.size, a] := by
        rw [Heap.size_push]
        simp only [List.mem_cons, List.not_mem_nil, or_false, not_or]
        exact ⟨Nat.ne_of_lt (Nat.lt_succ_self _), Nat.ne_of_gt below⟩
      refine texts_loop (Walks.list (by simp [calm]) _ a neI items) ne val hl nd few items.size 0 _ (Nat.zero_add _) ⟨⟨_, Heap.get?_push_size _ rfl, rfl, rfl⟩, isl.push _⟩ ?_ fun h2 tk2 kept now => ?_
      · exact setOf_in ((setObjOf_fresh (knd := strKind P w) led).setOf (Heap.get?_push_of_some _ new) (by unfold scanBound; omega)) (fun o e => e) (fun t => by unfold inL; simp) rfl
      · show wpAny _ _ _ _ _ _
        refine wpAny_pure ?_
        change wpAny _ _ (ret Value.none) _ _ _
        refine wpAny_pure ⟨rfl, h2, tk2, rfl, now, fun b o' e => ?_⟩
        have lt := Heap.lt_size e
        refine kept b o' (Nat.ne_of_lt lt) ?_ (Heap.get?_push_of_some _ (Heap.get?_push_of_some _ e))
        rw [Heap.size_push, List.mem_singleton]
        exact Nat.ne_of_lt (Nat.lt_succ_of_lt lt)
    · match r2, hr2 with
      | .error e, hr2 => exact hr2
      | .ok .next, hr2 => exact hr2.elim
      | .ok .brk, hr2 => exact hr2.elim
      | .ok .cont, hr2 => exact hr2.elim
      | .ok (.ret ob), hr2 =>
        obtain ⟨rfl, h', tk, rfl, now, kept⟩ := hr2
        walk_at "g"
        exact h _ _ now kept
end
section
variable {X : Cx} {p p2 q pos : Pos} {a : Expr} {ta : TE}
def tLenSetN (K : PySem.W.Frag) (ta : TE) : TE := fun σ H Q => ta σ H fun x H1 => ∃ (l : Addr) (xs : List Str), x = .ref l ∧ (SqL K H1 l (xs.map V.str) ∧ (xs.Nodup ∧ (xs.length ≤ 4000 ∧ Q (.int (xs.length : Nat)) H1)))
theorem pe_lenSetN (calm : X.calm = true) (gl : Gl X "len") (free : X.mg "len" = none) (gl2 : Gl X "set") (free2 : X.mg "set" = none) (ha : PE X a ta)
    (alone : starEach [a] X.env = (false, eval a X.env) :: starEach [] X.env := by rfl) : PE X (.Call (.Name "len" p) [.Call (.Name "set" p2) [a] [] q] [] pos) (tLenSetN X.K ta) := by
  refine .mk ?_
  intro ps s σ H R I h
  refine Call_ (ld_blt I gl free boot_len (callWith_builtin1 (args_cons ?_ rfl) rfl rfl))
  refine Call_ (ld_blt I gl2 free2 boot_set (callWith_type1 (args_cons (thn (ha.run ps s σ H _ I h) fun v s1 out => args_nil ?_) alone) alone rfl))
  obtain ⟨x, H1, I1, rx, l, xs, rfl, hs, nd, hz, want⟩ := out
  cases rx
  obtain ⟨its, rv, isl, _⟩ := I1.list hs
  have hl : xs.length = its.toArray.size := by
    rw [List.size_toArray, ← rv.length, List.length_map]
  refine set_texts (I1.ok.hd calm) isl.isList (xs := xs) (fun i v e => ?_) hl nd (by unfold scanBound; omega) fun h' tk now kept => args_nil ?_
  · have e2 : its[i]? = some v := by simpa using e
    have lt : i < xs.length := by
      rw [hl, List.size_toArray]
      exact (List.getElem?_eq_some_iff.mp e2).1
    obtain ⟨u, hu, ru⟩ := rv.get (show (xs.map V.str)[i]? = some (.str xs[i]) by rw [List.getElem?_map, List.getElem?_eq_getElem lt]; rfl)
    rw [e2] at hu
    cases hu
    obtain ⟨t, rfl⟩ := ru
    exact ⟨_, t, List.getElem?_eq_getElem lt, rfl⟩
  obtain ⟨o, es, ep, tb, at_, ex, dat, _, _, _, fit, num⟩ := now
  have I2 : Inv X ps σ H1 { s1 with heap := h', toks := tk } := I1.kept fun b o e => kept b o e
  exact call_len_set at_ ex dat fit (by rw [num]; omega) ⟨.int xs.length, H1, I2.tok _, ⟨_, by rw [num]⟩, want⟩
end
end U
namespace U
open PySem PySem.Spec PyProof.Rows L2

/-! ### yards -/
def pV : Option Int → V
  | none => .non
  | some i => .int i
def SqA (K : PySem.W.Frag) (H : Hp) (p : Addr) (xs : List V) : Prop := SqL K H p xs ∨ SqT K H p xs
def okP : Option Int → Bool
  | none => true
  | some i => decide (0 < i)
/-- at y a yard of these rows -/
def Yd (K : PySem.W.Frag) (H : Hp) (y : Addr) (rows : List (List (Option Int))) : Prop :=
  ∃ (dx t : Addr) (as : List Addr), H y = some (.ins (He.ga K "Yard") dx [("_rows", .ref t), ("_reckoning", .non)]) ∧ SqT K H t (as.map V.ref) ∧ as.length = rows.length ∧ rows.length ≤ 60 ∧ 1 ≤ rows.length ∧
    (∀ (i : Nat) (a : Addr) (r : List (Option Int)), as[i]? = some a → rows[i]? = some r → SqT K H a (r.map pV)) ∧ ∀ r ∈ rows, r.length = 6 ∧ r.all okP = true
section
variable {K : PySem.W.Frag} {H H' : Hp}
theorem SqA.same {p : Addr} {xs : List V} (e : Same H H') (h : SqA K H p xs) : SqA K H' p xs := h.imp (Same.seq e) (Same.sqT e)
theorem Yd.same {y : Addr} {rows : List (List (Option Int))} (e : Same H H') (h : Yd K H y rows) : Yd K H' y rows := by
  obtain ⟨dx, t, as, h1, h2, h3, h4, h5, h6, h7⟩ := h
  exact ⟨dx, t, as, e _ _ h1, Same.sqT e h2, h3, h4, h5, fun i a r q1 q2 => Same.sqT e (h6 i a r q1 q2), h7⟩
theorem Is.same {x : V} {a : Ty} (e : Same H H') (h : Is K H x a) : Is K H' x a := by
  have key : ∀ t, TyX K H x t → TyX K H' x t := by
    intro t h
    cases h with
    | base b =>
      refine .base ?_
      cases b with
      | non => exact .non
      | bl b => exact .bl b
      | int i => exact .int i
      | str z => exact .str z
      | flt z => exact .flt z
      | lst q => exact .lst (e _ _ q)
      | frz q => exact .frz (e _ _ q)
      | tup q => exact .tup (e _ _ q)
      | dK q => exact .dK (e _ _ q)
      | dT q => exact .dT (e _ _ q)
      | ins q a b c d f => exact .ins (e _ _ q) a b c d f
    | byt b => exact .byt b
    | set q => exact .set (e _ _ q)
    | kList q c => exact .kList q c
    | kTuple q c => exact .kTuple q c
    | kDict q c => exact .kDict q c
    | fTuple q => exact .fTuple (e _ _ q)
    | fDict q => exact .fDict (e _ _ q)
  exact key _ h
end
/-- an exception c with the value v, from any later heap -/
def Rz (K : PySem.W.Frag) (c f : Str) (v : V) (H : Hp) (E : XK) : Prop := ∀ d H', Same H H' → H' d = none → E (.ref (He.ga K c)) (some d) (upd H' d (.xd [(f, v)]))
theorem Rz.same {K : PySem.W.Frag} {c f : Str} {v : V} {H H' : Hp} {E : XK} (e : Same H H') (h : Rz K c f v H E) : Rz K c f v H' E := fun d H2 s n => h d H2 (e.trans s) n
/-- raise C(x), x the i-th name -/
theorem rse_var {K : PySem.W.Frag} {c f : Str} {E : XK} {i : Nat} {v : V} {σ : L2.St} {H : Hp} {D : Ends} (hv : σ[i]? = some (some v)) (h : Rz K c f v H E) : tRse K c f E (tCons (tVar i) tNil) D σ H :=
  ⟨v, hv, rse_of fun d hd => h d H (Same.refl H) hd⟩

/-! ### what the small judges answer -/
def isPl : V → Bool
  | .str z => decide (z = "a") || decide (z = "b") || decide (z = "c")
  | _ => false
def wayL : List Str := ["ab", "ac", "ba", "bc", "ca", "cb"]
def isWy : V → Bool
  | .str z => decide (z ∈ wayL)
  | _ => false
def isI : V → Bool
  | .int _ => true
  | _ => false
def isIn (x : V) (l h : Int) : Bool := match x with
  | .int i => decide (l ≤ i) && decide (i ≤ h)
  | _ => false
def isPr : V → Bool
  | .int i => decide (0 < i)
  | _ => false
def isPB : V → Bool
  | .non => true
  | .int i => decide (0 < i)
  | _ => false
def sp_is_place (K : PySem.W.Frag) : Sp := sp1 fun x H Q _ => ∃ a, Is K H x a ∧ Q (.bl (isPl x)) H
def sp_is_way (K : PySem.W.Frag) : Sp := sp1 fun x H Q _ => ∃ a, Is K H x a ∧ Q (.bl (isWy x)) H
def sp_is_integer (K : PySem.W.Frag) : Sp := sp1 fun x H Q _ => ∃ a, Is K H x a ∧ Q (.bl (isI x)) H
def sp_is_integer_within (K : PySem.W.Frag) : Sp := sp3 fun x lo hi H Q _ => ∃ a l h, Is K H x a ∧ lo = .int l ∧ hi = .int h ∧ Q (.bl (isIn x l h)) H
def sp_is_price (K : PySem.W.Frag) : Sp := sp1 fun x H Q _ => ∃ a, Is K H x a ∧ Q (.bl (isPr x)) H
def sp_check_place (K : PySem.W.Frag) : Sp := sp1 fun x H Q E => ∃ a, Is K H x a ∧ (isPl x = true → Q .non H) ∧ (isPl x = false → Rz K "InvalidPlace" "value" x H E)
def sp_check_way (K : PySem.W.Frag) : Sp := sp1 fun x H Q E => ∃ a, Is K H x a ∧ (isWy x = true → Q .non H) ∧ (isWy x = false → Rz K "InvalidWay" "value" x H E)
def sp_check_yard (K : PySem.W.Frag) : Sp := sp1 fun x H Q E => ∃ a, Is K H x a ∧ (a = .yard → Q .non H) ∧ (a ≠ .yard → Rz K "InvalidYard" "value" x H E)
def sp_Yard_len (K : PySem.W.Frag) : Sp := sp1 fun x H Q _ => ∃ y rows, x = .ref y ∧ Yd K H y rows ∧ Q (.int (rows.length : Int)) H
/-- the tuple of a yard's rows -/
def Ys (K : PySem.W.Frag) (H : Hp) (t : Addr) (rows : List (List (Option Int))) : Prop := ∃ as : List Addr, SqT K H t (as.map V.ref) ∧ as.length = rows.length ∧ ∀ (i : Nat) (a : Addr) (r : List (Option Int)), as[i]? = some a → rows[i]? = some r → SqT K H a (r.map pV)
def sp_Yard_price_rows (K : PySem.W.Frag) : Sp := sp1 fun x H Q _ => ∃ y rows, x = .ref y ∧ Yd K H y rows ∧ ∀ t, Ys K H t rows → Q (.ref t) H
def t_is_place (K : PySem.W.Frag) (E : XK) : TS := (tRet (tAndV (tCB (uIsi K) (tCons (tVar 0) (tCons (tC (.ty "str")) tNil))) (tOp (uIn K false) (tVar 0) (tC (.ref (He.ga K "PLACES"))))))
def t_is_way (K : PySem.W.Frag) (E : XK) : TS := (tRet (tAndV (tCB (uIsi K) (tCons (tVar 0) (tCons (tC (.ty "str")) tNil))) (tOp (uIn K false) (tVar 0) (tC (.ref (He.ga K "WAYS"))))))
def t_is_integer (K : PySem.W.Frag) (E : XK) : TS := (tRet (tAndV (tCB (uIsi K) (tCons (tVar 0) (tCons (tC (.ty "int")) tNil))) (tNotV (tCB (uIsi K) (tCons (tVar 0) (tCons (tC (.ty "bool")) tNil))))))
def t_is_integer_within (K : PySem.W.Frag) (E : XK) : TS := (tRet (tAndV (tFn (sp_is_integer K) E (tCons (tVar 0) tNil)) (tChain uLe uLe (tVar 1) (tVar 0) (tVar 2))))
def t_is_price (K : PySem.W.Frag) (E : XK) : TS := (tRet (tAndV (tFn (sp_is_integer K) E (tCons (tVar 0) tNil)) (tOp uGt (tVar 0) (tC (.int 0)))))
def t_Yard_price_rows (K : PySem.W.Frag) (E : XK) : TS := (tRet (tFld K (tVar 0) "_rows"))
def t_check_place (K : PySem.W.Frag) (E : XK) : TS := (tIfS (tNot (tB (tFn (sp_is_place K) E (tCons (tVar 0) tNil)))) (tRse K "InvalidPlace" "value" E (tCons (tVar 0) tNil)) tNext)
def t_check_way (K : PySem.W.Frag) (E : XK) : TS := (tIfS (tNot (tB (tFn (sp_is_way K) E (tCons (tVar 0) tNil)))) (tRse K "InvalidWay" "value" E (tCons (tVar 0) tNil)) tNext)
def t_check_yard (K : PySem.W.Frag) (E : XK) : TS := (tIfS (tNot (tB (tCB (uIsi K) (tCons (tVar 0) (tCons (tC (.ref (He.ga K "Yard"))) tNil))))) (tRse K "InvalidYard" "value" E (tCons (tVar 0) tNil)) tNext)
def t_Yard_len (K : PySem.W.Frag) (E : XK) : TS := (tRet (tCB (uLen K) (tCons (tFld K (tVar 0) "_rows") tNil)))
section
variable {K : PySem.W.Frag} (F : KF K) {vs : List V} {H : Hp} {Q : VK} {E : XK}
theorem isi_ty {x : V} {a b : Ty} {T : String} (F : KF K) (hT : b.v K = .type T) (h : Is K H x a) (q : Q (.bl (a.sub b)) H) : uIsi K [x, .ty T] H Q := by
  have k := F.kit a b
  rw [hT] at k
  exact ⟨a.v K, a.sub b, h, k, q⟩
theorem Is.of_str {z : Str} {a : Ty} (h : Is K H (.str z) a) : a = .str := by
  have key : ∀ t, TyX K H (.str z) t → t = a.v K → a = .str := by
    intro t h e
    cases h with
    | base b =>
      cases b
      cases a <;> first | rfl | (injection e with e; exact absurd e (by decide)) | cases e
  exact key _ h rfl
theorem Is.of_int {z : Int} {a : Ty} (h : Is K H (.int z) a) : a = .int := by
  have key : ∀ t, TyX K H (.int z) t → t = a.v K → a = .int := by
    intro t h e
    cases h with
    | base b =>
      cases b
      cases a <;> first | rfl | (injection e with e; exact absurd e (by decide)) | cases e
  exact key _ h rfl
theorem Is.of_bl {z : Bool} {a : Ty} (h : Is K H (.bl z) a) : a = .bl := by
  have key : ∀ t, TyX K H (.bl z) t → t = a.v K → a = .bl := by
    intro t h e
    cases h with
    | base b =>
      cases b
      cases a <;> first | rfl | (injection e with e; exact absurd e (by decide)) | cases e
  exact key _ h rfl
theorem Is.of_non {a : Ty} (h : Is K H .non a) : a = .non := by
  have key : ∀ t, TyX K H .non t → t = a.v K → a = .non := by
    intro t h e
    cases h with
    | base b =>
      cases b
      cases a <;> first | rfl | (injection e with e; exact absurd e (by decide)) | cases e
  exact key _ h rfl
/-! one step of a reading -/
local macro_rules | `(tactic| walk_at "w") => `(tactic| simp only [tRet, tAndV, tOrV, tNotV, tCB, tCons, tVar, tNil, tC, tOp, tSeq, tAsg, gName, tIfS, tDrop, tFn, tTup, tLst, tNext, tB, tTest, tNot, tAnd, tOr, tIf, tChain, tUn, rU, tFld,
  L2.start, List.map_cons, List.map_nil, List.length_cons, List.length_nil, List.replicate_succ, List.replicate_zero, List.append_nil, List.nil_append, List.cons_append, List.singleton_append, Nat.sub_self, Nat.zero_add, Nat.reduceAdd, Nat.reduceSub,
  List.getElem?_cons_zero, List.getElem?_cons_succ, List.set_cons_zero, List.set_cons_succ, Option.some.injEq, exists_eq_left, exists_eq_left', V.int.injEq, V.bl.injEq, V.str.injEq, V.ref.injEq,
  uAdd, uSub, uMul, uDiv, uMod, uPow, uCmp, uLt, uLe, uGt, uGe, uIs, uNis, sp1, sp2, sp3, sp4])

theorem eqV_str (a b : Str) : eqV (.str a) (.str b) = decide (a = b) := rfl
theorem in_places {z : Str} : inV (.str z) [.str "a", .str "b", .str "c"] = isPl (.str z) := by
  show (decide (("a" : Str) = z) || (decide (("b" : Str) = z) || (decide (("c" : Str) = z) || false))) = ((decide (z = "a") || decide (z = "b")) || decide (z = "c"))
  simp only [eq_comm, Bool.or_false, Bool.or_assoc]
theorem in_ways {z : Str} : inV (.str z) [.str "ab", .str "ac", .str "ba", .str "bc", .str "ca", .str "cb"] = isWy (.str z) := by
  show (wayL.map V.str).any (fun y => eqV y (.str z)) = decide (z ∈ wayL)
  rw [List.any_map, Bool.eq_iff_iff, List.any_eq_true, decide_eq_true_iff]
  constructor
  · rintro ⟨w, h1, h2⟩
    have : w = z := of_decide_eq_true h2
    exact this ▸ h1
  · intro h
    exact ⟨z, h, decide_eq_true rfl⟩
include F in
theorem read_is_way (h : sp_is_way K vs H Q E) : t_is_way K E { nx := fun _ H' => Q .non H', rt := Q } (start ["value"] vs) H := by
  match vs, h with
  | [x], ⟨a, ha, q⟩ =>
    unfold t_is_way
    walk_at "w"
    refine isi_ty (b := .str) F rfl ha ?_
    walk_at "w"
    by_cases e : a = .str
    · subst e
      obtain ⟨z, rfl⟩ := ha.str_inv
      simp only [Ty.sub, decide_true, Bool.true_or, if_true]
      exact ⟨_, _, rfl, .inr (F.ways H), rfl, rfl, by simpa [in_ways] using q⟩
    · rw [if_neg (by simp [Ty.sub, e])]
      have : isWy x = false := by cases x <;> first | rfl | exact absurd ha.of_str e
      rwa [this] at q
theorem isI_of {x : V} {a : Ty} (ha : Is K H x a) : isI x = (a.sub .int && !a.sub .bl) := by
  cases x with
  | int i => rw [ha.of_int]; rfl
  | bl b => rw [ha.of_bl]; rfl
  | _ =>
    have h1 : a ≠ .int := by
      rintro rfl
      obtain ⟨i, e⟩ := ha.int_inv
      cases e
    have h2 : a ≠ .bl := by
      rintro rfl
      obtain ⟨i, e⟩ := ha.bl_inv
      cases e
    simp [isI, Ty.sub, h1, h2]
include F in
theorem read_is_integer (h : sp_is_integer K vs H Q E) : t_is_integer K E { nx := fun _ H' => Q .non H', rt := Q } (start ["value"] vs) H := by
  match vs, h with
  | [x], ⟨a, ha, q⟩ =>
    unfold t_is_integer
    rw [isI_of ha] at q
    walk_at "w"
    refine isi_ty (b := .int) F rfl ha ?_
    walk_at "w"
    cases e : a.sub .int with
    | false => simpa [e] using q
    | true =>
      simp only [if_true]
      refine isi_ty (b := .bl) F rfl ha ?_
      simpa [e, TruV] using q
include F in
theorem read_is_integer_within (h : sp_is_integer_within K vs H Q E) : t_is_integer_within K E { nx := fun _ H' => Q .non H', rt := Q } (start ["value", "low", "high"] vs) H := by
  match vs, h with
  | [x, _, _], ⟨a, l, hi, ha, rfl, rfl, q⟩ =>
    unfold t_is_integer_within sp_is_integer
    walk_at "w"
    refine ⟨a, ha, ?_⟩
    cases x with
    | int i =>
      simp only [isI, V.bl.injEq, exists_eq_left', if_true]
      by_cases h1 : l ≤ i <;> by_cases h2 : i ≤ hi <;> simpa [isIn, h1, h2] using q
    | _ => simpa [isI, isIn] using q
include F in
theorem read_is_price (h : sp_is_price K vs H Q E) : t_is_price K E { nx := fun _ H' => Q .non H', rt := Q } (start ["value"] vs) H := by
  match vs, h with
  | [x], ⟨a, ha, q⟩ =>
    unfold t_is_price sp_is_integer
    walk_at "w"
    refine ⟨a, ha, ?_⟩
    cases x with
    | int i => simpa [isI, isPr] using q
    | _ => simpa [isI, isPr] using q
include F in
theorem read_check_place (h : sp_check_place K vs H Q E) : t_check_place K E { nx := fun _ H' => Q .non H', rt := Q } (start ["place"] vs) H := by
  match vs, h with
  | [x], ⟨a, ha, q1, q2⟩ =>
    unfold t_check_place sp_is_place
    walk_at "w"
    refine ⟨a, ha, ?_⟩
    cases e : isPl x with
    | true => exact q1 e
    | false => exact rse_var (K := K) (c := "InvalidPlace") (f := "value") (E := E) (σ := [some x]) (i := 0) (D := { nx := fun _ H' => Q .non H', rt := Q }) rfl (q2 e)
include F in
theorem read_check_way (h : sp_check_way K vs H Q E) : t_check_way K E { nx := fun _ H' => Q .non H', rt := Q } (start ["way"] vs) H := by
  match vs, h with
  | [x], ⟨a, ha, q1, q2⟩ =>
    unfold t_check_way sp_is_way
    walk_at "w"
    refine ⟨a, ha, ?_⟩
    cases e : isWy x with
    | true => exact q1 e
    | false => exact rse_var (K := K) (c := "InvalidWay") (f := "value") (E := E) (σ := [some x]) (i := 0) (D := { nx := fun _ H' => Q .non H', rt := Q }) rfl (q2 e)
include F in
theorem read_check_yard (h : sp_check_yard K vs H Q E) : t_check_yard K E { nx := fun _ H' => Q .non H', rt := Q } (start ["yard"] vs) H := by
  match vs, h with
  | [x], ⟨a, ha, q1, q2⟩ =>
    unfold t_check_yard
    walk_at "w"
    refine .inl ⟨a.v K, a.sub .yard, ha, F.kit a .yard, _, rfl, ?_⟩
    cases e : a.sub .yard with
    | true => exact q1 (by cases a <;> first | rfl | cases e)
    | false =>
      refine rse_var (K := K) (c := "InvalidYard") (f := "value") (E := E) (σ := [some x]) (i := 0) (D := { nx := fun _ H' => Q .non H', rt := Q }) rfl (q2 ?_)
      rintro rfl
      cases e
include F in
theorem read_Yard_price_rows (h : sp_Yard_price_rows K vs H Q E) : t_Yard_price_rows K E { nx := fun _ H' => Q .non H', rt := Q } (start ["self"] vs) H := by
  match vs, h with
  | [_], ⟨y, rows, rfl, ⟨dx, t, as, h1, h2, h3, h4, h5, h6, h7⟩, q⟩ =>
    unfold t_Yard_price_rows
    walk_at "w"
    exact ⟨y, _, _, _, .ref t, rfl, h1, F.cl, F.na, rfl, q t ⟨as, h2, h3, h6⟩⟩
include F in
theorem read_Yard_len (h : sp_Yard_len K vs H Q E) : t_Yard_len K E { nx := fun _ H' => Q .non H', rt := Q } (start ["self"] vs) H := by
  match vs, h with
  | [_], ⟨y, rows, rfl, ⟨dx, t, as, h1, h2, h3, h4, h5, h6⟩, q⟩ =>
    unfold t_Yard_len
    walk_at "w"
    refine ⟨y, _, _, _, .ref t, rfl, h1, F.cl, F.na, rfl, ?_⟩
    refine ⟨_, .inr h2, ?_⟩
    rw [List.length_map, h3]
    exact q
end
end U
namespace U
open PySem PySem.Spec PyProof.Rows L2

/-! ### heaps that keep all but one -/
def Off (D : Addr) (H H' : Hp) : Prop := ∀ b o, b ≠ D → H b = some o → H' b = some o
section
variable {K : PySem.W.Frag} {H H' H2 : Hp} {D a p : Addr} {xs l : List V} {o : HO}
theorem Off.refl : Off D H H := fun _ _ _ h => h
theorem Same.off (h : Same H H') : Off D H H' := fun b o _ e => h b o e
theorem Off.trans (h : Off D H H') (g : Off D H' H2) : Off D H H2 := fun b o n e => g b o n (h b o n e)
theorem off_upd : Off D H (upd H D o) := fun b u n e => by rw [upd_ne n]; exact e
theorem Off.same (h : Off D H H') (n : H D = none) : Same H H' := fun b o e => h b o (ne_of_none e n) e
theorem Off.sqT (h : Off D H H') (hD : H D = some (.lst l)) (q : SqT K H a xs) : SqT K H' a xs := by
  rcases q with (q | ⟨o, q⟩) | q
  · exact .inl (.inl (h _ _ (by rintro rfl; rw [hD] at q; cases q) q))
  · exact .inl (.inr ⟨o, h _ _ (by rintro rfl; rw [hD] at q; cases q) q⟩)
  · exact .inr q
theorem Off.sqL (h : Off D H H') (n : a ≠ D) (q : SqL K H a xs) : SqL K H' a xs := by
  rcases q with (q | ⟨o, q⟩) | q
  · exact .inl (.inl (h _ _ n q))
  · exact .inl (.inr ⟨o, h _ _ n q⟩)
  · exact .inr q
theorem Off.yd {y : Addr} {rows : List (List (Option Int))} (e : Off D H H') (hD : H D = some (.lst l)) (h : Yd K H y rows) : Yd K H' y rows := by
  obtain ⟨dx, t, as, h1, h2, h3, h4, h5, h6, h7⟩ := h
  exact ⟨dx, t, as, e _ _ (by rintro rfl; rw [hD] at h1; cases h1) h1, e.sqT hD h2, h3, h4, h5, fun i a r q1 q2 => e.sqT hD (h6 i a r q1 q2), h7⟩
end
/-! ### what is walked without a change of the heap -/
structure Plain (J : It) (xs : List V) (G : Hp → Prop) : Prop where
  go : ∀ i H, G H → i < xs.length → J.go i H
  yld : ∀ i H x H', G H → J.yld i H x H' → H' = H ∧ (i < xs.length → xs[i]? = some x)
  stop : ∀ i H, G H → i = xs.length → J.stop i H
section
variable {K : PySem.W.Frag} {a : Addr} {xs : List V}
theorem plain_L : Plain (Itl K a) xs fun H => SqL K H a xs :=
  ⟨fun i H h lt => ⟨xs, xs[i], h, List.getElem?_eq_getElem lt⟩, fun i H x H' h ⟨e, q⟩ => ⟨e, fun _ => q xs h⟩, fun i H h e => ⟨xs, h, Nat.le_of_eq e.symm⟩⟩
theorem plain_T : Plain (Itt K a) xs fun H => SqT K H a xs :=
  ⟨fun i H h lt => ⟨xs, xs[i], h, List.getElem?_eq_getElem lt⟩, fun i H x H' h ⟨e, q⟩ => ⟨e, fun _ => q xs h⟩, fun i H h e => ⟨xs, h, Nat.le_of_eq e.symm⟩⟩
theorem strL_len (z : Str) : (strL z).length = z.cps.size := by simp [strL]
theorem plain_S {z : Str} : Plain (Its z) (strL z) fun _ => True :=
  ⟨fun i H h lt => by rw [strL_len] at lt; exact lt, fun i H x H' h ⟨e, c, q1, q2⟩ => ⟨e, fun _ => by
    subst q2
    unfold strL
    rw [List.getElem?_map, Array.getElem?_toList, q1]
    rfl⟩, fun i H h e => by rw [strL_len] at e; exact Nat.le_of_eq e.symm⟩
def intsL (lo : Int) (n : Nat) : List V := (List.range n).map fun (i : Nat) => V.int (lo + (i : Int))
theorem plain_R {lo : Int} {n : Nat} : Plain (Itr lo n) (intsL lo n) fun _ => True :=
  ⟨fun i H h lt => by
    have lt : i < n := by simpa [intsL] using lt
    exact lt, fun i H x H' h ⟨e, q2⟩ => ⟨e, fun lt => by
    subst q2
    have lt : i < n := by simpa [intsL] using lt
    simp [intsL, lt]⟩, fun i H h e => by
    have : i = n := by simpa [intsL] using e
    exact Nat.le_of_eq this.symm⟩
/-- the ends of a loop's body: N behind it -/
abbrev turnE (D : Ends) (N : L2.St → Hp → Prop) : Ends := { D with nx := N, ct := N, bk := D.nx }
theorem for_plain {J : It} {G : Hp → Prop} (P : Plain J xs G) {wi : TI} {g : TG} {tb : TS} {D : Ends} {σ : L2.St} {H : Hp} (hw : ∀ R : It → Hp → Prop, R J H → wi σ H R) (Pv : Nat → L2.St → Hp → Prop) (h0 : Pv 0 σ H) (hG : ∀ i σ H, Pv i σ H → G H)
    (hs : ∀ i x τ H, xs[i]? = some x → Pv i τ H → g x τ H fun ρ H2 => tb (turnE D (Pv (i + 1))) ρ H2) (hd : ∀ τ H, Pv xs.length τ H → D.nx τ H) : tFor wi g tb D σ H := by
  refine hw _ ?_
  have start0 : xs.length = xs.length - 0 ∧ 0 ≤ xs.length ∧ Pv 0 σ H := ⟨rfl, Nat.zero_le _, h0⟩
  refine ⟨fun i m τ H => m = xs.length - i ∧ i ≤ xs.length ∧ Pv i τ H, ⟨_, start0⟩, ?_⟩
  rintro i m σ H ⟨rfl, hi, p⟩
  have q := hG i σ H p
  by_cases hlt : i < xs.length
  · refine .inr ⟨P.go i H q hlt, Pv (i + 1), fun σ' H' p' => ⟨xs.length - (i + 1), by omega, rfl, hlt, p'⟩, fun x H' y => ?_⟩
    obtain ⟨rfl, hx⟩ := P.yld i H x H' q y
    exact hs i x σ H' (hx hlt) p
  · have atEnd : i = xs.length := Nat.le_antisymm hi (Nat.le_of_not_lt hlt)
    exact .inl ⟨P.stop i H q atEnd, hd σ H (atEnd ▸ p)⟩
theorem it_plain {J : It} {G : Hp → Prop} (P : Plain J xs G) {B : V → Hp → (Hp → Prop) → Prop} {H0 : Hp} {fin : Hp → Prop} (Pv : Nat → Hp → Prop) (h0 : Pv 0 H0) (hG : ∀ i H, Pv i H → G H)
    (hs : ∀ i x H, xs[i]? = some x → Pv i H → B x H (Pv (i + 1))) (hd : ∀ H, Pv xs.length H → fin H) : Laps J H0 fin B := by
  have start0 : xs.length = xs.length - 0 ∧ 0 ≤ xs.length ∧ Pv 0 H0 := ⟨rfl, Nat.zero_le _, h0⟩
  refine ⟨fun i m H => m = xs.length - i ∧ i ≤ xs.length ∧ Pv i H, ⟨_, start0⟩, ?_⟩
  rintro i m H ⟨rfl, hi, p⟩
  have q := hG i H p
  by_cases hlt : i < xs.length
  · refine .inr ⟨P.go i H q hlt, Pv (i + 1), fun H' p' => ⟨xs.length - (i + 1), by omega, rfl, hlt, p'⟩, fun x H' y => ?_⟩
    obtain ⟨rfl, hx⟩ := P.yld i H x H' q y
    exact hs i x H' (hx hlt) p
  · have atEnd : i = xs.length := Nat.le_antisymm hi (Nat.le_of_not_lt hlt)
    exact .inl ⟨P.stop i H q atEnd, hd H (atEnd ▸ p)⟩
theorem lc_plain {J : It} {G : Hp → Prop} (P : Plain J xs G) {g : TG} {tt : TT} {te : TE} {vs : List Nat} {σ : L2.St} {H1 : Hp} {D : Addr} {Qd : Hp → Prop} (Pv : Nat → Hp → Prop) (h0 : Pv 0 (upd H1 D (.lst []))) (hG : ∀ i H, Pv i H → G H)
    (hs : ∀ i x H, xs[i]? = some x → Pv i H → lcT g tt te vs σ D (Pv (i + 1)) x H) (hd : ∀ H, Pv xs.length H → Qd H) : LcB J g tt te vs σ H1 D Qd :=
  it_plain P Pv h0 hG hs hd
/-- [te for name j in ..], whose turns only make new things -/
theorem lc_grow {J : It} {G : Hp → Prop} (P : Plain J xs G) {te : TE} {j : Nat} {σ : L2.St} {H1 : Hp} {D : Addr} {Qd : Hp → Prop} (R : List V → Hp → Prop) (hD : H1 D = none) (hlen : xs.length ≤ sizeLine)
    (hG : ∀ H, Same H1 H → G H) (h0 : ∀ H, Same H1 H → R [] H) (hup : ∀ acc l H H', H D = some (.lst l) → Off D H H' → R acc H → R acc H')
    (hs : ∀ i x acc H (Q : VK), xs[i]? = some x → Same H1 H → acc.length = i → R acc H → (∀ y H4, Same H H4 → R (acc ++ [y]) H4 → Q y H4) → te (σ.set j (some x)) H Q)
    (hd : ∀ acc H, acc.length = xs.length → Same H1 H → H D = some (.lst acc) → R acc H → Qd H) : LcB J (gName j) tYes te [j] σ H1 D Qd := by
  refine lc_plain P (fun i H => ∃ acc, acc.length = i ∧ H D = some (.lst acc) ∧ Same H1 H ∧ R acc H) ⟨[], rfl, upd_same, same_new hD, h0 _ (same_new hD)⟩ (fun i H ⟨_, _, _, s, _⟩ => hG H s) ?_ (fun H ⟨acc, h1, h2, h3, h4⟩ => hd acc H h1 h3 h2 h4)
  rintro i x H hx ⟨acc, h1, h2, h3, h4⟩
  show wipe _ [j] = wipe σ [j] ∧ _
  refine ⟨by simp only [wipe, List.set_set], ?_⟩
  show te ((σ.set j none).set j (some x)) H _
  rw [List.set_set]
  have lt : i < xs.length := by
    rcases Nat.lt_or_ge i xs.length with q | q
    · exact q
    · rw [List.getElem?_eq_none q] at hx; cases hx
  refine hs i x acc H _ hx h3 h1 h4 fun y H4 s r => ⟨acc, s _ _ h2, by omega, acc ++ [y], by simp [h1], upd_same, ?_, ?_⟩
  · exact (Off.trans (Same.off (h3.trans s)) off_upd).same hD
  · exact hup _ acc _ _ (s _ _ h2) off_upd r
theorem for_rng1 {ta : TA} {g : TG} {tb : TS} {D : Ends} {σ : L2.St} {H : Hp} {n : Nat} (h : ∀ R : List V → Hp → Prop, R [.int n] H → ta σ H R) (hn : n ≤ 1000000000) (Pv : Nat → L2.St → Hp → Prop) (h0 : Pv 0 σ H)
    (hs : ∀ (i : Nat) σ H, i < n → Pv i σ H → g (.int i) σ H fun σ2 H2 => tb (turnE D (Pv (i + 1))) σ2 H2) (hd : ∀ σ H, Pv n σ H → D.nx σ H) : tFor (iRng1 ta) g tb D σ H := by
  have e : (intsL 0 n).length = n := by simp [intsL]
  have hw : ∀ R : It → Hp → Prop, R (Itr 0 n) H → iRng1 ta σ H R := fun R r => h _ ⟨_, rfl, by omega, by omega, by rw [Int.toNat_natCast]; exact r⟩
  refine for_plain plain_R hw Pv h0 (fun _ _ _ _ => trivial) (fun i x σ H hx p => ?_) (by rw [e]; exact hd)
  have lt : i < n := e ▸ (List.getElem?_eq_some_iff.mp hx).1
  have : x = .int i := by
    simp [intsL, lt] at hx
    exact hx.symm
  subst this
  exact hs i σ H lt p
theorem for_strL {te : TE} {g : TG} {tb : TS} {D : Ends} {σ : L2.St} {H : Hp} {z : Str} (h : ∀ Q : VK, Q (.str z) H → te σ H Q) (Pv : Nat → L2.St → Hp → Prop) (h0 : Pv 0 σ H)
    (hs : ∀ (i : Nat) x σ H, (strL z)[i]? = some x → Pv i σ H → g x σ H fun σ2 H2 => tb (turnE D (Pv (i + 1))) σ2 H2) (hd : ∀ σ H, Pv (strL z).length σ H → D.nx σ H) : tFor (iStr te) g tb D σ H :=
  for_plain plain_S (fun R r => h _ ⟨z, rfl, r⟩) Pv h0 (fun _ _ _ _ => trivial) hs hd
end
end U
namespace U
open PySem PySem.Spec PyProof.Rows L2

theorem take_snoc {α : Type} (f : α → V) {acc : List V} {bs : List α} {i : Nat} {c : α} (ha : acc = (bs.take acc.length).map f) (hl : acc.length = i) (hc : bs[i]? = some c) : acc ++ [f c] = (bs.take (acc ++ [f c]).length).map f := by
  subst hl
  rw [List.length_append, List.length_singleton, List.take_succ, List.map_append, ← ha, hc]
  rfl
/-! ### rows of prices -/
def RowB (K : PySem.W.Frag) (H : Hp) (x : V) (b : Bool) : Prop := (∃ a, Is K H x a ∧ a ≠ .lst ∧ a ≠ .tup ∧ b = false) ∨
  ∃ p xs, x = .ref p ∧ SqA K H p xs ∧ (∀ v ∈ xs, ∃ a, Is K H v a) ∧ b = (decide (xs.length = 6) && xs.all isPB)
def RowsB (K : PySem.W.Frag) (H : Hp) (x : V) (b : Bool) : Prop := (∃ a, Is K H x a ∧ a ≠ .lst ∧ a ≠ .tup ∧ b = false) ∨
  ∃ (p : Addr) (xs : List V) (bs : List Bool), x = .ref p ∧ SqA K H p xs ∧ bs.length = xs.length ∧ (∀ (i : Nat) (v : V) (c : Bool), xs[i]? = some v → bs[i]? = some c → RowB K H v c) ∧ b = (decide (1 ≤ xs.length) && (decide (xs.length ≤ 60) && bs.all id))
section
variable {K : PySem.W.Frag} {H H' : Hp} {x : V} {b : Bool}
theorem RowB.same (e : Same H H') (h : RowB K H x b) : RowB K H' x b := by
  rcases h with ⟨a, h, r⟩ | ⟨p, xs, r, h, g, q⟩
  · exact .inl ⟨a, h.same e, r⟩
  · exact .inr ⟨p, xs, r, h.same e, fun v m => by
      obtain ⟨a, z⟩ := g v m
      exact ⟨a, z.same e⟩, q⟩
theorem RowsB.same (e : Same H H') (h : RowsB K H x b) : RowsB K H' x b := by
  rcases h with ⟨a, h, r⟩ | ⟨p, xs, bs, r, h, g, z, q⟩
  · exact .inl ⟨a, h.same e, r⟩
  · exact .inr ⟨p, xs, bs, r, h.same e, g, fun i v c h1 h2 => (z i v c h1 h2).same e, q⟩
theorem SqA.kind {p : Addr} {xs : List V} (h : SqA K H p xs) : ∃ a, Is K H (.ref p) a ∧ (a.sub .lst || a.sub .tup) = true := by
  rcases h with h | h
  · exact ⟨.lst, is_sqL h, rfl⟩
  · exact ⟨.tup, is_sqT h, rfl⟩
theorem isi_seq (F : KF K) {a : Ty} {p : Addr} {Q : VK} (hp : H p = some (.tup [.ty "list", .ty "tuple"])) (h : Is K H x a) (q : Q (.bl (a.sub .lst || a.sub .tup)) H) : uIsi K [x, .ref p] H Q := by
  refine .inr ⟨_, [.type "list", .type "tuple"], a.v K, _, hp, .cons (.ty _) (.cons (.ty _) .nil), h, ?_, q⟩
  show PySem.W.kitAny K (a.v K) [Ty.v K .lst, Ty.v K .tup] = _
  unfold PySem.W.kitAny
  rw [F.kit a .lst]
  cases a.sub .lst with
  | true => rfl
  | false =>
    show PySem.W.kitAny K (a.v K) [Ty.v K .tup] = _
    unfold PySem.W.kitAny
    rw [F.kit a .tup]
    cases a.sub .tup <;> rfl
theorem uLen_seq {p : Addr} {xs : List V} {Q : VK} (h : SqA K H p xs) (q : Q (.int xs.length) H) : uLen K [.ref p] H Q := ⟨xs, h, q⟩
theorem uEq_int {i j : Int} {Q : VK} : uEq K (.int i) (.int j) H Q = Q (.bl (decide (i = j))) H := rfl
theorem uEq_str {i j : Str} {Q : VK} : uEq K (.str i) (.str j) H Q = Q (.bl (decide (i = j))) H := rfl
theorem uNe_int {i j : Int} {Q : VK} : uNe K (.int i) (.int j) H Q = Q (.bl (!decide (i = j))) H := rfl
theorem uNe_str {i j : Str} {Q : VK} : uNe K (.str i) (.str j) H Q = Q (.bl (!decide (i = j))) H := rfl
theorem uAdd_int {i j : Int} {Q : VK} : uAdd (.int i) (.int j) H Q = Q (.int (i + j)) H := rfl
theorem uSub_int {i j : Int} {Q : VK} : uSub (.int i) (.int j) H Q = Q (.int (i - j)) H := rfl
theorem uMul_int {i j : Int} {Q : VK} : uMul (.int i) (.int j) H Q = (CMul i j ∧ Q (.int (i * j)) H) := rfl
theorem uDiv_int {i j : Int} {Q : VK} : uDiv (.int i) (.int j) H Q = (CDivW i j ∧ Q (.int (i / j)) H) := rfl
theorem uMod_int {i j : Int} {Q : VK} : uMod (.int i) (.int j) H Q = (0 < j ∧ Q (.int (i % j)) H) := rfl
theorem uPow_int {i j : Int} {Q : VK} : uPow (.int i) (.int j) H Q = (CPow i j ∧ Q (.int (i ^ j.toNat)) H) := rfl
theorem uLt_int {i j : Int} {Q : VK} : uLt (.int i) (.int j) H Q = Q (.bl (decide (i < j))) H := rfl
theorem uLe_int {i j : Int} {Q : VK} : uLe (.int i) (.int j) H Q = Q (.bl (decide (i ≤ j))) H := rfl
theorem uGt_int {i j : Int} {Q : VK} : uGt (.int i) (.int j) H Q = Q (.bl (decide (j < i))) H := rfl
theorem uGe_int {i j : Int} {Q : VK} : uGe (.int i) (.int j) H Q = Q (.bl (decide (j ≤ i))) H := rfl
theorem uAdd_str {i j : Str} {Q : VK} : uAdd (.str i) (.str j) H Q = (i.length + j.length ≤ sizeLine ∧ Q (.str (i ++ j)) H) := rfl
theorem uMul_str {i : Str} {n : Int} {Q : VK} : uMul (.str i) (.int n) H Q = (0 ≤ n ∧ n ≤ 1000 ∧ i.length ≤ 10000 ∧ Q (.str (Txt.mul i n)) H) := rfl
theorem uIs_non {Q : VK} : uIs x .non H Q = Q (.bl (decide (x = .non))) H := rfl
theorem uNis_non {Q : VK} : uNis x .non H Q = Q (.bl (!decide (x = .non))) H := rfl
theorem uIs_bl {a c : Bool} {Q : VK} : uIs (.bl a) (.bl c) H Q = Q (.bl (decide (a = c))) H := rfl
theorem uNis_bl {a c : Bool} {Q : VK} : uNis (.bl a) (.bl c) H Q = Q (.bl (!decide (a = c))) H := rfl
theorem uSl_str {z : Str} {lo hi : Option Int} {Q : VK} : uSl K (.str z) lo hi H Q = (z.length ≤ sizeLine ∧ Q (.str (cutS z lo hi)) H) := rfl
theorem uLen_str {z : Str} {Q : VK} : uLen K [.str z] H Q = (z.length ≤ sizeLine ∧ Q (.int z.length) H) := rfl
theorem seq_ {a b : TS} {D : Ends} {σ : L2.St} {H : Hp} (h : a { D with nx := b D } σ H) : tSeq a b D σ H := h
theorem tVar_eq {i : Nat} {σ : L2.St} {v : V} (h : σ[i]? = some (some v)) (Q : VK) : tVar i σ H Q = Q v H := by
  unfold tVar
  simp [h]
theorem tLc_str {t : TE} {σ : L2.St} {g : TG} {tt : TT} {te : TE} {vs : List Nat} {Q : VK} {z : Str} (ht : ∀ Q, t σ H Q = Q (.str z) H) (hc : ∀ D, H D = none → LcB (Its z) g tt te vs σ H D (Q (.ref D))) : tLc (iStr t) g tt te vs σ H Q := by
  show t σ H _
  rw [ht]
  exact ⟨z, rfl, hc⟩
theorem tLc_seq {t : TE} {σ : L2.St} {g : TG} {tt : TT} {te : TE} {vs : List Nat} {Q : VK} {p : Addr} {xs : List V} (h : SqA K H p xs) (ht : ∀ Q, t σ H Q = Q (.ref p) H)
    (hc : ∀ (J : It) (G : Hp → Prop), Plain J xs G → (∀ H', Same H H' → G H') → ∀ D, H D = none → LcB J g tt te vs σ H D (Q (.ref D))) : tLc (iSeq K t) g tt te vs σ H Q := by
  rcases h with h | h
  · refine .inl ?_
    show t σ H _
    rw [ht]
    exact ⟨p, rfl, ⟨xs, h⟩, hc _ _ plain_L fun H' e => Same.seq e h⟩
  · refine .inr ?_
    show t σ H _
    rw [ht]
    exact ⟨p, rfl, ⟨xs, h⟩, hc _ _ plain_T fun H' e => Same.sqT e h⟩
end
def sp__is_price_row (K : PySem.W.Frag) : Sp := sp1 fun x H Q _ => ∃ b, RowB K H x b ∧ ∀ H', Same H H' → Q (.bl b) H'
def sp__are_rows (K : PySem.W.Frag) : Sp := sp1 fun x H Q _ => ∃ b, RowsB K H x b ∧ ∀ H', Same H H' → Q (.bl b) H'
def t__is_price_row (K : PySem.W.Frag) (E : XK) : TS := (tRet (tAndV (tCB (uIsi K) (tCons (tVar 0) (tCons (tTup (tCons (tC (.ty "list")) (tCons (tC (.ty "tuple")) tNil))) tNil))) (tAndV (tOp (uEq K) (tCB (uLen K) (tCons (tVar 0) tNil)) (tCB (uLen K) (tCons (tC (.ref (He.ga K "WAYS"))) tNil))) (tCB (rAll K) (tCons (tLc (iSeq K (tVar 0)) (gName 1) tYes (tOrV (tOp uIs (tVar 1) (tC .non)) (tFn (sp_is_price K) E0 (tCons (tVar 1) tNil))) [1]) tNil)))))
def t__are_rows (K : PySem.W.Frag) (E : XK) : TS := (tRet (tAndV (tCB (uIsi K) (tCons (tVar 0) (tCons (tTup (tCons (tC (.ty "list")) (tCons (tC (.ty "tuple")) tNil))) tNil))) (tAndV (tChain uLe uLe (tC (.int 1)) (tCB (uLen K) (tCons (tVar 0) tNil)) (tC (.int 60))) (tCB (rAll K) (tCons (tLc (iSeq K (tVar 0)) (gName 1) tYes (tFn (sp__is_price_row K) E0 (tCons (tVar 1) tNil)) [1]) tNil)))))
section
variable {K : PySem.W.Frag} (F : KF K) {vs : List V} {H : Hp} {Q : VK} {E : XK}
local macro_rules | `(tactic| walk_at "w") => `(tactic| try simp only [turnE, lcT, Snoc, tRet, tRetN, tAndV, tOrV, tNotV, tCB, tCons, tVar, tNil, tC, tOp, tSeq, tAsg, gName, gSub, tIfS, tDrop, tFn, tTup, tLst, tNext, tB, tTest, tNot, tAnd, tOr, tIf, tChain, tUn, rU, tFld, tPart, tNoPart, L2.tSl, tBM, tPar, tPar3, tTruth, tDNewK,
  L2.start, List.map_cons, List.map_nil, List.length_cons, List.length_nil, List.replicate_succ, List.replicate_zero, List.append_nil, List.nil_append, List.cons_append, List.singleton_append, Nat.sub_self, Nat.zero_add, Nat.reduceAdd, Nat.reduceSub,
  List.getElem?_cons_zero, List.getElem?_cons_succ, List.set_cons_zero, List.set_cons_succ, Option.some.injEq, exists_eq_left, exists_eq_left', V.int.injEq, V.bl.injEq, V.str.injEq, V.ref.injEq,
  uAdd_int, uAdd_str, uSub_int, uMul_int, uMul_str, uDiv_int, uMod_int, uPow_int, uLt_int, uLe_int, uGt_int, uGe_int, uIs_non, uNis_non, uIs_bl, uNis_bl, sp1, sp2, sp3, sp4, uEq_int, uEq_str, uNe_int, uNe_str, uSl_str, uLen_str, decide_eq_true_eq])
local macro_rules | `(tactic| walk_at "1") => `(tactic| try simp only [turnE, lcT, Snoc, tRet, tRetN, tAndV, tOrV, tNotV, tCB, tCons, tVar, tNil, tC, tOp, tAsg, gName, gSub, tIfS, tDrop, tFn, tTup, tLst, tNext, tB, tTest, tNot, tAnd, tOr, tIf, tChain, tUn, rU, tFld, tPart, tNoPart, L2.tSl, tBM, tPar, tPar3, tTruth, tDNewK,
  L2.start, List.map_cons, List.map_nil, List.length_cons, List.length_nil, List.replicate_succ, List.replicate_zero, List.append_nil, List.nil_append, List.cons_append, List.singleton_append, Nat.sub_self, Nat.zero_add, Nat.reduceAdd, Nat.reduceSub,
  List.getElem?_cons_zero, List.getElem?_cons_succ, List.set_cons_zero, List.set_cons_succ, Option.some.injEq, exists_eq_left, exists_eq_left', V.int.injEq, V.bl.injEq, V.str.injEq, V.ref.injEq,
  uAdd_int, uAdd_str, uSub_int, uMul_int, uMul_str, uDiv_int, uMod_int, uPow_int, uLt_int, uLe_int, uGt_int, uGe_int, uIs_non, uNis_non, uIs_bl, uNis_bl, sp1, sp2, sp3, sp4, uEq_int, uEq_str, uNe_int, uNe_str, uSl_str, uLen_str, decide_eq_true_eq])
local macro_rules | `(tactic| walk_at "s") => `(tactic| ((try dsimp only [turnE]); with_reducible refine seq_ ?_))

include F in
theorem read__is_price_row (h : sp__is_price_row K vs H Q E) : t__is_price_row K E { nx := fun _ H' => Q .non H', rt := Q } (start ["value", "price"] vs) H := by
  match vs, h with
  | [x], ⟨b, hb, q⟩ =>
    unfold t__is_price_row
    walk_at "w"
    refine ⟨by decide, fun p hp => ?_⟩
    have e1 : Same H (upd H p (.tup [.ty "list", .ty "tuple"])) := same_new hp
    have hb1 := hb.same e1
    have hp1 : upd H p (.tup [.ty "list", .ty "tuple"]) p = some (.tup [.ty "list", .ty "tuple"]) := upd_same
    generalize upd H p (.tup [.ty "list", .ty "tuple"]) = H1 at *
    rcases hb1 with ⟨a, h1, h2, h3, rfl⟩ | ⟨r, xs, rfl, h1, h2, rfl⟩
    · refine isi_seq F hp1 h1 ?_
      have : (a.sub .lst || a.sub .tup) = false := by cases a <;> first | rfl | exact absurd rfl h2 | exact absurd rfl h3
      rw [this]
      exact ⟨_, rfl, q _ e1⟩
    · obtain ⟨a, ka, ks⟩ := h1.kind
      refine isi_seq F hp1 ka ?_
      rw [ks]
      refine ⟨_, rfl, ?_⟩
      rw [if_pos rfl]
      refine uLen_seq h1 (uLen_seq (.inr (F.ways H1)) ⟨_, rfl, ?_⟩)
      by_cases e : xs.length = 6
      · rw [decide_eq_true (by simp [e]), if_pos rfl]
        refine tLc_seq (p := r) h1 (tVar_eq rfl) fun J G P hG D hD => ?_
        refine lc_grow P (fun acc _ => acc = ((xs.map isPB).take acc.length).map V.bl) hD (by rw [e]; decide) hG (fun _ _ => rfl) (fun _ _ _ _ _ _ h => h) ?_ ?_
        · rintro i y acc H2 Q' hy s hl ha k
          obtain ⟨a, z⟩ := h2 y (List.mem_of_getElem? hy)
          have k := k (.bl (isPB y)) H2 (Same.refl _) (take_snoc V.bl ha hl (by simp [hy]))
          unfold sp_is_price
          walk_at "w"
          cases y with
          | non => simpa [isPB] using k
          | _ =>
            simp only [reduceCtorEq, decide_false, Bool.false_eq_true, if_false]
            refine ⟨a, z.same s, ?_⟩
            simpa [isPB, isPr] using k
        · rintro acc H2 hl s hD2 ha
          have hm : acc = (xs.map isPB).map V.bl := by
            rw [ha, hl, List.take_of_length_le (by simp)]
          refine ⟨D, xs.map isPB, rfl, .inl (.inl (by rw [hD2, hm])), ?_⟩
          have := q H2 (e1.trans s)
          simpa [e, List.all_map, Function.comp_def] using this
      · rw [decide_eq_false (by simp; omega)]
        simpa [e] using q _ e1
include F in
theorem read__are_rows (h : sp__are_rows K vs H Q E) : t__are_rows K E { nx := fun _ H' => Q .non H', rt := Q } (start ["value", "row"] vs) H := by
  match vs, h with
  | [x], ⟨b, hb, q⟩ =>
    unfold t__are_rows
    walk_at "w"
    refine ⟨by decide, fun p hp => ?_⟩
    have e1 : Same H (upd H p (.tup [.ty "list", .ty "tuple"])) := same_new hp
    have hb1 := hb.same e1
    have hp1 : upd H p (.tup [.ty "list", .ty "tuple"]) p = some (.tup [.ty "list", .ty "tuple"]) := upd_same
    generalize upd H p (.tup [.ty "list", .ty "tuple"]) = H1 at *
    rcases hb1 with ⟨a, h1, h2, h3, rfl⟩ | ⟨r, xs, bs, rfl, h1, hbl, h2, rfl⟩
    · refine isi_seq F hp1 h1 ?_
      have : (a.sub .lst || a.sub .tup) = false := by cases a <;> first | rfl | exact absurd rfl h2 | exact absurd rfl h3
      rw [this]
      exact ⟨_, rfl, q _ e1⟩
    · obtain ⟨a, ka, ks⟩ := h1.kind
      refine isi_seq F hp1 ka ?_
      rw [ks]
      refine ⟨_, rfl, ?_⟩
      rw [if_pos rfl]
      refine uLen_seq h1 ?_
      walk_at "w"
      by_cases l1 : 1 ≤ xs.length
      · rw [if_pos (show (1 : Int) ≤ xs.length by omega)]
        by_cases l2 : xs.length ≤ 60
        · rw [if_pos (show (xs.length : Int) ≤ 60 by omega)]
          refine tLc_seq (p := r) h1 (tVar_eq rfl) fun J G P hG D hD => ?_
          refine lc_grow P (fun acc _ => acc = (bs.take acc.length).map V.bl) hD (Nat.le_trans l2 (by decide)) hG (fun _ _ => rfl) (fun _ _ _ _ _ _ h => h) ?_ ?_
          · rintro i y acc H2 Q' hy s hl ha k
            have lt : i < xs.length := (List.getElem?_eq_some_iff.mp hy).1
            have hc : bs[i]? = some bs[i] := List.getElem?_eq_getElem (by omega)
            have z := (h2 i y _ hy hc).same s
            unfold sp__is_price_row
            walk_at "w"
            refine ⟨_, z, fun H3 s3 => k _ _ s3 ?_⟩
            exact take_snoc V.bl ha hl hc
          · rintro acc H2 hl s hD2 ha
            have hm : acc = bs.map V.bl := by rw [ha, hl, List.take_of_length_le (by omega)]
            refine ⟨D, bs, rfl, .inl (.inl (by rw [hD2, hm])), ?_⟩
            have := q H2 (e1.trans s)
            simpa [l1, l2] using this
        · rw [if_neg (show ¬ (xs.length : Int) ≤ 60 by omega)]
          simpa [l2] using q _ e1
      · rw [if_neg (show ¬ (1 : Int) ≤ xs.length by omega)]
        simpa [l1] using q _ e1
end
/-! ### making a yard -/
def RowV (K : PySem.W.Frag) (H : Hp) (x : V) (rows : List (List (Option Int))) : Prop := ∃ (p : Addr) (xs : List V), x = .ref p ∧ SqA K H p xs ∧ xs.length = rows.length ∧
  ∀ (i : Nat) (v : V) (r : List (Option Int)), xs[i]? = some v → rows[i]? = some r → ∃ q, v = .ref q ∧ SqA K H q (r.map pV)
def RowsOk (rows : List (List (Option Int))) : Prop := 1 ≤ rows.length ∧ rows.length ≤ 60 ∧ ∀ r ∈ rows, r.length = 6 ∧ r.all okP = true
theorem isPB_pV (p : Option Int) : isPB (pV p) = okP p := by cases p <;> rfl
theorem is_pV {K : PySem.W.Frag} {H : Hp} (p : Option Int) : ∃ a, Is K H (pV p) a := by
  cases p with
  | none => exact ⟨_, is_non⟩
  | some i => exact ⟨_, is_int i⟩
section
variable {K : PySem.W.Frag} {H H' : Hp} {x : V} {rows : List (List (Option Int))}
theorem RowV.same (e : Same H H') (h : RowV K H x rows) : RowV K H' x rows := by
  obtain ⟨p, xs, h1, h2, h3, h4⟩ := h
  refine ⟨p, xs, h1, h2.same e, h3, fun i v r g1 g2 => ?_⟩
  obtain ⟨q, z1, z2⟩ := h4 i v r g1 g2
  exact ⟨q, z1, z2.same e⟩
theorem RowV.rowsB (h : RowV K H x rows) (o : RowsOk rows) : RowsB K H x true := by
  obtain ⟨p, xs, h1, h2, h3, h4⟩ := h
  obtain ⟨o1, o2, o3⟩ := o
  refine .inr ⟨p, xs, xs.map fun _ => true, h1, h2, by simp, fun i v c g1 g2 => ?_, by simp; omega⟩
  rw [List.getElem?_map, g1] at g2
  cases g2
  have lt : i < rows.length := h3 ▸ (List.getElem?_eq_some_iff.mp g1).1
  obtain ⟨q, rfl, z⟩ := h4 i v rows[i] g1 (List.getElem?_eq_getElem lt)
  obtain ⟨k1, k2⟩ := o3 rows[i] (List.getElem_mem lt)
  refine .inr ⟨q, _, rfl, z, fun v m => ?_, ?_⟩
  · obtain ⟨p, _, rfl⟩ := List.mem_map.mp m
    exact is_pV p
  · rw [List.length_map, k1, List.all_map]
    have : (isPB ∘ pV) = okP := funext isPB_pV
    rw [this, k2]
    rfl
theorem Off.sqT_ins {a D : Addr} {xs : List V} {C dx : Addr} {fs : List (Str × V)} (h : Off D H H') (hD : H D = some (.ins C dx fs)) (q : SqT K H a xs) : SqT K H' a xs := by
  rcases q with (q | ⟨o, q⟩) | q
  · exact .inl (.inl (h _ _ (by rintro rfl; rw [hD] at q; cases q) q))
  · exact .inl (.inr ⟨o, h _ _ (by rintro rfl; rw [hD] at q; cases q) q⟩)
  · exact .inr q
end
def sp_Yard_init (K : PySem.W.Frag) : Sp := sp2 fun s x H Q E => ∃ a dx, s = .ref a ∧ H a = some (.ins (He.ga K "Yard") dx []) ∧
  ((∃ rows, RowV K H x rows ∧ RowsOk rows ∧ ∀ H', Off a H H' → Yd K H' a rows → Q .non H') ∨ (RowsB K H x false ∧ Rz K "InvalidYard" "value" x H E))
def t_Yard_init (K : PySem.W.Frag) (E : XK) : TS := (tSeq (tIfS (tNot (tB (tFn (sp__are_rows K) E (tCons (tVar 1) tNil)))) (tRse K "InvalidYard" "value" E (tCons (tVar 1) tNil)) tNext) (tSeq (sFld K (tVar 0) (tCB (uTup K) (tCons (tLc (iSeq K (tVar 1)) (gName 2) tYes (tCB (uTup K) (tCons (tVar 2) tNil)) [2]) tNil)) "_rows") (sFld K (tVar 0) (tC .non) "_reckoning")))
section
variable {K : PySem.W.Frag} (F : KF K) {vs : List V} {H : Hp} {Q : VK} {E : XK}
local macro_rules | `(tactic| walk_at "w") => `(tactic| try simp only [turnE, lcT, Snoc, tRet, tRetN, tAndV, tOrV, tNotV, tCB, tCons, tVar, tNil, tC, tOp, tSeq, tAsg, gName, gSub, tIfS, tDrop, tFn, tTup, tLst, tNext, tB, tTest, tNot, tAnd, tOr, tIf, tChain, tUn, rU, tFld, tPart, tNoPart, L2.tSl, tBM, tPar, tPar3, tTruth, tDNewK,
  L2.start, List.map_cons, List.map_nil, List.length_cons, List.length_nil, List.replicate_succ, List.replicate_zero, List.append_nil, List.nil_append, List.cons_append, List.singleton_append, Nat.sub_self, Nat.zero_add, Nat.reduceAdd, Nat.reduceSub,
  List.getElem?_cons_zero, List.getElem?_cons_succ, List.set_cons_zero, List.set_cons_succ, Option.some.injEq, exists_eq_left, exists_eq_left', V.int.injEq, V.bl.injEq, V.str.injEq, V.ref.injEq,
  uAdd_int, uAdd_str, uSub_int, uMul_int, uMul_str, uDiv_int, uMod_int, uPow_int, uLt_int, uLe_int, uGt_int, uGe_int, uIs_non, uNis_non, uIs_bl, uNis_bl, sp1, sp2, sp3, sp4, uEq_int, uEq_str, uNe_int, uNe_str, uSl_str, uLen_str, decide_eq_true_eq])
local macro_rules | `(tactic| walk_at "1") => `(tactic| try simp only [turnE, lcT, Snoc, tRet, tRetN, tAndV, tOrV, tNotV, tCB, tCons, tVar, tNil, tC, tOp, tAsg, gName, gSub, tIfS, tDrop, tFn, tTup, tLst, tNext, tB, tTest, tNot, tAnd, tOr, tIf, tChain, tUn, rU, tFld, tPart, tNoPart, L2.tSl, tBM, tPar, tPar3, tTruth, tDNewK,
  L2.start, List.map_cons, List.map_nil, List.length_cons, List.length_nil, List.replicate_succ, List.replicate_zero, List.append_nil, List.nil_append, List.cons_append, List.singleton_append, Nat.sub_self, Nat.zero_add, Nat.reduceAdd, Nat.reduceSub,
  List.getElem?_cons_zero, List.getElem?_cons_succ, List.set_cons_zero, List.set_cons_succ, Option.some.injEq, exists_eq_left, exists_eq_left', V.int.injEq, V.bl.injEq, V.str.injEq, V.ref.injEq,
  uAdd_int, uAdd_str, uSub_int, uMul_int, uMul_str, uDiv_int, uMod_int, uPow_int, uLt_int, uLe_int, uGt_int, uGe_int, uIs_non, uNis_non, uIs_bl, uNis_bl, sp1, sp2, sp3, sp4, uEq_int, uEq_str, uNe_int, uNe_str, uSl_str, uLen_str, decide_eq_true_eq])
local macro_rules | `(tactic| walk_at "s") => `(tactic| ((try dsimp only [turnE]); with_reducible refine seq_ ?_))

include F in
theorem read_Yard_init (h : sp_Yard_init K vs H Q E) : t_Yard_init K E { nx := fun _ H' => Q .non H', rt := Q } (start ["self", "rows", "row"] vs) H := by
  match vs, h with
  | [_, x], ⟨a, dx, rfl, ha, h⟩ =>
    unfold t_Yard_init sp__are_rows
    walk_at "w"
    rcases h with ⟨rows, hr, ho, q⟩ | ⟨hb, rz⟩
    · refine ⟨true, hr.rowsB ho, fun H1 s1 => ?_⟩
      simp only [Bool.not_true, Bool.false_eq_true, if_false, sFld, tCB]
      obtain ⟨p, xs, rfl, h2, h3, h4⟩ := hr.same s1
      refine tLc_seq (p := p) h2 (tVar_eq rfl) fun J G P hG D hD => ?_
      refine lc_grow P (fun acc H => ∃ as : List Addr, acc = as.map V.ref ∧ as.length ≤ rows.length ∧ ∀ (i : Nat) (a : Addr) (r : List (Option Int)), as[i]? = some a → rows[i]? = some r → SqT K H a (r.map pV)) hD
        (by rw [h3]; exact Nat.le_trans ho.2.1 (by decide)) hG (fun _ _ => ⟨[], rfl, Nat.zero_le _, fun i a r z => by simp at z⟩) ?_ ?_ ?_
      · rintro acc l H2 H3 hl o ⟨as, e1, e2, e3⟩
        exact ⟨as, e1, e2, fun i a r z1 z2 => o.sqT hl (e3 i a r z1 z2)⟩
      · rintro i y acc H2 Q' hy s hl ⟨as, e1, e2, e3⟩ k
        have lt : i < rows.length := h3 ▸ (List.getElem?_eq_some_iff.mp hy).1
        obtain ⟨b, rfl, z⟩ := h4 i y rows[i] hy (List.getElem?_eq_getElem lt)
        have z := z.same s
        walk_at "w"
        have hl2 : as.length = i := by rw [e1, List.length_map] at hl; exact hl
        have step : ∀ (c : Addr) (H3 : Hp), Same H2 H3 → SqT K H3 c (rows[i].map pV) → Q' (.ref c) H3 := fun c H3 s3 hc => by
          refine k _ _ s3 ⟨as ++ [c], by simp [e1], by simp; omega, fun j d r z1 z2 => ?_⟩
          by_cases e : j = i
          · subst e
            rw [List.getElem?_append_right (by omega), hl2] at z1
            simp at z1
            subst z1
            rw [List.getElem?_eq_getElem lt] at z2
            cases z2
            exact hc
          · have : j < as.length := by
              have := (List.getElem?_eq_some_iff.mp z1).1
              simp at this
              omega
            rw [List.getElem?_append_left this] at z1
            exact Same.sqT s3 (e3 j d r z1 z2)
        rcases z with z | z
        · exact ⟨_, .inl ⟨z, fun l hl => step l _ (same_new hl) (.inl (.inl upd_same))⟩⟩
        · exact ⟨_, .inr ⟨z, step b _ (Same.refl _) z⟩⟩
      · rintro acc H2 hl s hD2 ⟨as, e1, e2, e3⟩
        have hla : as.length = rows.length := by rw [e1, List.length_map] at hl; omega
        refine ⟨acc, .inl ⟨.inl (.inl hD2), fun t ht => ?_⟩⟩
        have st : Same H2 (upd H2 t (.tup acc)) := same_new ht
        have hat : upd H2 t (.tup acc) a = some (.ins (He.ga K "Yard") dx []) := st _ _ (s _ _ (s1 _ _ ha))
        have htt : upd H2 t (.tup acc) t = some (.tup acc) := upd_same
        have sall : Same H (upd H2 t (.tup acc)) := (s1.trans s).trans st
        have e3' : ∀ (i : Nat) (a : Addr) (r : List (Option Int)), as[i]? = some a → rows[i]? = some r → SqT K (upd H2 t (.tup acc)) a (r.map pV) := fun i a r z1 z2 => Same.sqT st (e3 i a r z1 z2)
        generalize upd H2 t (.tup acc) = H4 at *
        refine ⟨.ref a, rfl, a, _, dx, [], rfl, hat, F.cl, F.na, by simp, ?_⟩
        refine ⟨.ref a, rfl, a, _, dx, _, rfl, upd_same, F.cl, F.na2, by simp [putF], ?_⟩
        have of : Off a H4 (upd (upd H4 a (.ins (He.ga K "Yard") dx (putF "_rows" (.ref t) []))) a (.ins (He.ga K "Yard") dx (putF "_reckoning" .non (putF "_rows" (.ref t) [])))) := Off.trans off_upd off_upd
        refine q _ (Off.trans (Same.off sall) of) ⟨dx, t, as, upd_same, of.sqT_ins hat (.inl (.inl (by rw [htt, e1]))), hla, ho.2.1, ho.1, fun i b r z1 z2 => of.sqT_ins hat (e3' i b r z1 z2), ho.2.2⟩
    · refine ⟨false, hb, fun H1 s1 => ?_⟩
      simp only [if_true, Bool.not_false]
      exact rse_var (K := K) (c := "InvalidYard") (f := "value") (E := E) (i := 1) rfl (rz.same s1)
end
end U
namespace U
open PySem PySem.Spec PyProof.Rows L2

/-! ### arrangements as lists of digits -/
def pl (d : Nat) : Str := ⟨#[97 + d]⟩
def wd (ds : List Nat) : Str := ⟨(ds.map (97 + ·)).toArray⟩
def num (ds : List Nat) : Int := ds.foldl (fun (n : Int) (d : Nat) => n * 3 + (d : Int)) 0
def D3 (ds : List Nat) : Prop := ∀ d ∈ ds, d < 3
theorem pl_a : pl 0 = "a" := by decide
theorem pl_b : pl 1 = "b" := by decide
theorem pl_c : pl 2 = "c" := by decide
theorem pl_inj {a b : Nat} (h : pl a = pl b) : a = b := by
  have := congrArg Str.cps h
  simp [pl] at this
  omega
theorem strL_wd (ds : List Nat) : strL (wd ds) = ds.map fun d => V.str (pl d) := by
  simp [strL, wd, pl]
theorem wd_size (ds : List Nat) : (wd ds).cps.size = ds.length := by simp [wd]
theorem wd_length (ds : List Nat) : (wd ds).length = ds.length := wd_size ds
theorem wd_app (as bs : List Nat) : wd as ++ wd bs = wd (as ++ bs) := by
  show (⟨(wd as).cps ++ (wd bs).cps⟩ : Str) = _
  simp [wd]
theorem wd_pl (d : Nat) : wd [d] = pl d := rfl
theorem wd_inj {as bs : List Nat} (h : wd as = wd bs) : as = bs := by
  have := congrArg (fun z => z.cps.toList) h
  simp only [wd, List.toList_toArray] at this
  have h2 := congrArg (List.map (· - 97)) this
  simp only [List.map_map] at h2
  have e : ((fun x => x - 97) ∘ fun x => 97 + x) = (id : Nat → Nat) := by
    funext x
    simp
  rw [e, List.map_id, List.map_id] at h2
  exact h2
theorem num_snoc (ds : List Nat) (d : Nat) : num (ds ++ [d]) = num ds * 3 + d := by simp [num]
theorem num_nil : num [] = 0 := rfl
theorem isPl_pl {d : Nat} (h : d < 3) : isPl (.str (pl d)) = true := by
  match d, h with
  | 0, _ => decide
  | 1, _ => decide
  | 2, _ => decide
theorem isPl_inv {x : V} (h : isPl x = true) : ∃ d, d < 3 ∧ x = .str (pl d) := by
  cases x with
  | str z =>
    simp only [isPl, Bool.or_eq_true, decide_eq_true_eq] at h
    rcases h with (h | h) | h
    · exact ⟨0, by decide, by rw [h, pl_a]⟩
    · exact ⟨1, by decide, by rw [h, pl_b]⟩
    · exact ⟨2, by decide, by rw [h, pl_c]⟩
  | _ => cases h
/-- is a value an arrangement of n crates -/
def arrB (n : Nat) : V → Bool
  | .str z => decide (z.cps.size = n) && (strL z).all isPl
  | _ => false
theorem arrB_wd {n : Nat} {ds : List Nat} (h : ds.length = n) (h3 : D3 ds) : arrB n (.str (wd ds)) = true := by
  simp only [arrB, wd_size, h, decide_true, Bool.true_and, strL_wd, List.all_map, List.all_eq_true, Function.comp]
  exact fun d m => isPl_pl (h3 d m)
def Short (x : V) : Prop := ∀ z, x = .str z → z.length ≤ sizeLine
/-- a yard, or an InvalidYard -/
def YardOr (K : PySem.W.Frag) (H : Hp) (y : V) (E : XK) (k : List (List (Option Int)) → Prop) : Prop := ∃ a, Is K H y a ∧ (a ≠ .yard → Rz K "InvalidYard" "value" y H E) ∧ (a = .yard → ∃ p rows, y = .ref p ∧ Yd K H p rows ∧ k rows)
theorem yardOr_of {K : PySem.W.Frag} (F : KF K) {H : Hp} {p : Addr} {E : XK} {rows : List (List (Option Int))} {k : List (List (Option Int)) → Prop} (h : Yd K H p rows) (q : k rows) : YardOr K H (.ref p) E k := by
  obtain ⟨dx, t, as, h1, _⟩ := id h
  exact ⟨.yard, is_yard F h1, fun z => absurd rfl z, fun _ => ⟨p, rows, rfl, h, q⟩⟩
theorem YardOr.to {K : PySem.W.Frag} {H : Hp} {y : V} {E E' : XK} {k k' : List (List (Option Int)) → Prop} (h : YardOr K H y E k) (e : Rz K "InvalidYard" "value" y H E → Rz K "InvalidYard" "value" y H E') (f : ∀ p rows, y = .ref p → Yd K H p rows → k rows → k' rows) : YardOr K H y E' k' := by
  obtain ⟨a, h1, h2, h3⟩ := h
  refine ⟨a, h1, fun z => e (h2 z), fun z => ?_⟩
  obtain ⟨p, rows, r1, r2, r3⟩ := h3 z
  exact ⟨p, rows, r1, r2, f p rows r1 r2 r3⟩
theorem lenO_of {K : PySem.W.Frag} {H : Hp} {y : Addr} {rows : List (List (Option Int))} {Q : VK} (h : Yd K H y rows) (q : Q (.int rows.length) H) : rLenO (He.ga K "Yard") (sp_Yard_len K) [.ref y] H Q := by
  obtain ⟨dx, t, as, h1, h2, h3, h4, h5, h6⟩ := id h
  exact ⟨y, dx, _, rfl, h1, y, rows, rfl, h, rows.length, rfl, by omega, by omega, q⟩
def sp_is_arrangement (K : PySem.W.Frag) : Sp := sp2 fun y x H Q E => YardOr K H y E fun rows => ∃ b, Is K H x b ∧ Short x ∧ ∀ H', Same H H' → Q (.bl (arrB rows.length x)) H'
def sp_check_arrangement (K : PySem.W.Frag) : Sp := sp2 fun y x H Q E => YardOr K H y E fun rows => ∃ b, Is K H x b ∧ Short x ∧ (arrB rows.length x = true → ∀ H', Same H H' → Q .non H') ∧ (arrB rows.length x = false → Rz K "InvalidArrangement" "value" x H E)
def sp_tower (K : PySem.W.Frag) : Sp := sp2 fun y x H Q E => YardOr K H y E fun rows => ∃ b, Is K H x b ∧ (isPl x = false → Rz K "InvalidPlace" "value" x H E) ∧ (∀ d, d < 3 → x = .str (pl d) → Q (.str (wd (List.replicate rows.length d))) H)
def sp_how_many_arrangements (K : PySem.W.Frag) : Sp := sp1 fun y H Q _ => ∃ p rows, y = .ref p ∧ Yd K H p rows ∧ Q (.int (3 ^ rows.length)) H
def Arr (n : Nat) (x : V) (ds : List Nat) : Prop := x = .str (wd ds) ∧ ds.length = n ∧ D3 ds
/-- no arrangement, and so an InvalidArrangement -/
def NoArr (K : PySem.W.Frag) (H : Hp) (n : Nat) (x : V) (E : XK) : Prop := ∃ b, Is K H x b ∧ Short x ∧ arrB n x = false ∧ Rz K "InvalidArrangement" "value" x H E
def sp_number_of (K : PySem.W.Frag) : Sp := sp2 fun y x H Q E => YardOr K H y E fun rows => (∃ ds, Arr rows.length x ds ∧ ∀ H', Same H H' → Q (.int (num ds)) H') ∨ NoArr K H rows.length x E
def sp_arrangement_at (K : PySem.W.Frag) : Sp := sp2 fun y x H Q E => YardOr K H y E fun rows =>
  (∃ ds, x = .int (num ds) ∧ ds.length = rows.length ∧ D3 ds ∧ ∀ H', Same H H' → Q (.str (wd ds)) H') ∨ (∃ b, Is K H x b ∧ isIn x 0 (3 ^ rows.length - 1) = false ∧ Rz K "InvalidCount" "value" x H E)
/-- the crates, below n, on a place -/
def onsN (n : Nat) (ds : List Nat) (d : Nat) : List Int := ((List.range n).filter fun i => ds[i]? == some d).map Int.ofNat
def ons (ds : List Nat) (d : Nat) : List Int := onsN ds.length ds d
def sp_on_place (K : PySem.W.Frag) : Sp := sp3 fun y x z H Q E => YardOr K H y E fun rows => NoArr K H rows.length x E ∨ ∃ ds, Arr rows.length x ds ∧ ∃ b, Is K H z b ∧ (isPl z = false → Rz K "InvalidPlace" "value" z H E) ∧
  (∀ d, d < 3 → z = .str (pl d) → ∀ H' l, Same H H' → H l = none → H' l = some (.lst ((ons ds d).map V.int)) → Q (.ref l) H')
def topV (l : List Int) : V := match l.getLast? with
  | some i => .int i
  | none => .non
def sp_top_crate (K : PySem.W.Frag) : Sp := sp3 fun y x z H Q E => YardOr K H y E fun rows => NoArr K H rows.length x E ∨ ∃ ds, Arr rows.length x ds ∧ ∃ b, Is K H z b ∧ (isPl z = false → Rz K "InvalidPlace" "value" z H E) ∧
  (∀ d, d < 3 → z = .str (pl d) → ∀ H', Same H H' → Q (topV (ons ds d)) H')
def t_is_arrangement (K : PySem.W.Frag) (E : XK) : TS := (tSeq (tDrop (tFn (sp_check_yard K) E (tCons (tVar 0) tNil))) (tRet (tAndV (tCB (uIsi K) (tCons (tVar 1) (tCons (tC (.ty "str")) tNil))) (tAndV (tOp (uEq K) (tCB (uLen K) (tCons (tVar 1) tNil)) (tCB (rLenO (He.ga K "Yard") (sp_Yard_len K)) (tCons (tVar 0) tNil))) (tOp (uEq K) (tBM K "str" rStrip (tVar 1) (tCons (tC (.str "abc")) tNil)) (tC (.str "")))))))
def t_check_arrangement (K : PySem.W.Frag) (E : XK) : TS := (tIfS (tNot (tB (tFn (sp_is_arrangement K) E (tCons (tVar 0) (tCons (tVar 1) tNil))))) (tRse K "InvalidArrangement" "value" E (tCons (tVar 1) tNil)) tNext)
def t_tower (K : PySem.W.Frag) (E : XK) : TS := (tSeq (tDrop (tFn (sp_check_yard K) E (tCons (tVar 0) tNil))) (tSeq (tDrop (tFn (sp_check_place K) E (tCons (tVar 1) tNil))) (tRet (tOp uMul (tVar 1) (tCB (rLenO (He.ga K "Yard") (sp_Yard_len K)) (tCons (tVar 0) tNil))))))
def t_how_many_arrangements (K : PySem.W.Frag) (E : XK) : TS := (tSeq (tAsg (tC (.int 1)) (gName 1)) (tSeq (tFor (iRng1 (tCons (tCB (rLenO (He.ga K "Yard") (sp_Yard_len K)) (tCons (tVar 0) tNil)) tNil)) (gName 2) (tAsg (tOp uMul (tVar 1) (tCB (uLen K) (tCons (tC (.ref (He.ga K "PLACES"))) tNil))) (gName 1))) (tRet (tVar 1))))
def t_number_of (K : PySem.W.Frag) (E : XK) : TS := (tSeq (tDrop (tFn (sp_check_arrangement K) E (tCons (tVar 0) (tCons (tVar 1) tNil)))) (tSeq (tAsg (tC (.int 0)) (gName 2)) (tSeq (tFor (iStr (tVar 1)) (gName 3) (tAsg (tOp uAdd (tOp uMul (tVar 2) (tCB (uLen K) (tCons (tC (.ref (He.ga K "PLACES"))) tNil))) (tBM K "tuple" (rTIdx K) (tC (.ref (He.ga K "PLACES"))) (tCons (tVar 3) tNil))) (gName 2))) (tRet (tVar 2)))))
def t_arrangement_at (K : PySem.W.Frag) (E : XK) : TS := (tSeq (tDrop (tFn (sp_check_yard K) E (tCons (tVar 0) tNil))) (tSeq (tIfS (tNot (tB (tFn (sp_is_integer_within K) E (tCons (tVar 1) (tCons (tC (.int 0)) (tCons (tOp uSub (tFn (sp_how_many_arrangements K) E (tCons (tVar 0) tNil)) (tC (.int 1))) tNil)))))) (tRse K "InvalidCount" "value" E (tCons (tVar 1) tNil)) tNext) (tSeq (tAsg (tC (.str "")) (gName 2)) (tSeq (tAsg (tVar 1) (gName 3)) (tSeq (tFor (iRng1 (tCons (tCB (rLenO (He.ga K "Yard") (sp_Yard_len K)) (tCons (tVar 0) tNil)) tNil)) (gName 4) (tSeq (tAsg (tCB rDivmod (tCons (tVar 3) (tCons (tCB (uLen K) (tCons (tC (.ref (He.ga K "PLACES"))) tNil)) tNil))) (gTup K 2 (gCons (gName 3) (gCons (gName 5) gNil)))) (tAsg (tOp uAdd (tOp (uIx K) (tC (.ref (He.ga K "PLACES"))) (tVar 5)) (tVar 2)) (gName 2)))) (tRet (tVar 2)))))))
def t_on_place (K : PySem.W.Frag) (E : XK) : TS := (tSeq (tDrop (tFn (sp_check_arrangement K) E (tCons (tVar 0) (tCons (tVar 1) tNil)))) (tSeq (tDrop (tFn (sp_check_place K) E (tCons (tVar 2) tNil))) (tRet (tLc (iEnumU K (tCons (tVar 1) tNil)) (gTup K 2 (gCons (gName 3) (gCons (gName 4) gNil))) (tTest (tOp (uEq K) (tVar 4) (tVar 2))) (tVar 3) [3, 4]))))
def t_top_crate (K : PySem.W.Frag) (E : XK) : TS := (tSeq (tAsg (tFn (sp_on_place K) E (tCons (tVar 0) (tCons (tVar 1) (tCons (tVar 2) tNil)))) (gName 3)) (tRet (tIf (tTruth K (tVar 3)) (tOp (uIx K) (tVar 3) (tUn (rU fun i => .int (-i)) (tC (.int 1)))) (tC .non))))
section
variable {K : PySem.W.Frag} (F : KF K) {vs : List V} {H : Hp} {Q : VK} {E : XK}
local macro_rules | `(tactic| walk_at "w") => `(tactic| try simp only [turnE, lcT, Snoc, tRet, tRetN, tAndV, tOrV, tNotV, tCB, tCons, tVar, tNil, tC, tOp, tSeq, tAsg, gName, gSub, tIfS, tDrop, tFn, tTup, tLst, tNext, tB, tTest, tNot, tAnd, tOr, tIf, tChain, tUn, rU, tFld, tPart, tNoPart, L2.tSl, tBM, tPar, tPar3, tTruth, tDNewK,
  L2.start, List.map_cons, List.map_nil, List.length_cons, List.length_nil, List.replicate_succ, List.replicate_zero, List.append_nil, List.nil_append, List.cons_append, List.singleton_append, Nat.sub_self, Nat.zero_add, Nat.reduceAdd, Nat.reduceSub,
  List.getElem?_cons_zero, List.getElem?_cons_succ, List.set_cons_zero, List.set_cons_succ, Option.some.injEq, exists_eq_left, exists_eq_left', V.int.injEq, V.bl.injEq, V.str.injEq, V.ref.injEq,
  uAdd_int, uAdd_str, uSub_int, uMul_int, uMul_str, uDiv_int, uMod_int, uPow_int, uLt_int, uLe_int, uGt_int, uGe_int, uIs_non, uNis_non, uIs_bl, uNis_bl, sp1, sp2, sp3, sp4, uEq_int, uEq_str, uNe_int, uNe_str, uSl_str, uLen_str, decide_eq_true_eq])
local macro_rules | `(tactic| walk_at "1") => `(tactic| try simp only [turnE, lcT, Snoc, tRet, tRetN, tAndV, tOrV, tNotV, tCB, tCons, tVar, tNil, tC, tOp, tAsg, gName, gSub, tIfS, tDrop, tFn, tTup, tLst, tNext, tB, tTest, tNot, tAnd, tOr, tIf, tChain, tUn, rU, tFld, tPart, tNoPart, L2.tSl, tBM, tPar, tPar3, tTruth, tDNewK,
  L2.start, List.map_cons, List.map_nil, List.length_cons, List.length_nil, List.replicate_succ, List.replicate_zero, List.append_nil, List.nil_append, List.cons_append, List.singleton_append, Nat.sub_self, Nat.zero_add, Nat.reduceAdd, Nat.reduceSub,
  List.getElem?_cons_zero, List.getElem?_cons_succ, List.set_cons_zero, List.set_cons_succ, Option.some.injEq, exists_eq_left, exists_eq_left', V.int.injEq, V.bl.injEq, V.str.injEq, V.ref.injEq,
  uAdd_int, uAdd_str, uSub_int, uMul_int, uMul_str, uDiv_int, uMod_int, uPow_int, uLt_int, uLe_int, uGt_int, uGe_int, uIs_non, uNis_non, uIs_bl, uNis_bl, sp1, sp2, sp3, sp4, uEq_int, uEq_str, uNe_int, uNe_str, uSl_str, uLen_str, decide_eq_true_eq])
local macro_rules | `(tactic| walk_at "s") => `(tactic| ((try dsimp only [turnE]); with_reducible refine seq_ ?_))

/-- check_yard(y), and then -/
theorem chk_yard {y : V} {H : Hp} {k : List (List (Option Int)) → Prop} {Q : VK} (h : YardOr K H y E k) (q : ∀ p rows, y = .ref p → Yd K H p rows → k rows → Q .non H) : sp_check_yard K [y] H Q E := by
  obtain ⟨a, h1, h2, h3⟩ := h
  refine ⟨a, h1, fun e => ?_, h2⟩
  obtain ⟨p, rows, z1, z2, z3⟩ := h3 e
  exact q p rows z1 z2 z3
theorem abc_one (c : Nat) : ("abc" : Str).cps.contains c = true ↔ isPl (.str ⟨#[c]⟩) = true := by
  have e : ("abc" : Str).cps = #[97, 98, 99] := by decide
  rw [e]
  constructor
  · intro h
    have h : c = 97 ∨ c = 98 ∨ c = 99 := by simpa using h
    rcases h with rfl | rfl | rfl <;> decide
  · intro h
    obtain ⟨d, hd, h2⟩ := isPl_inv h
    injection h2 with h2
    have h3 : (#[c] : Array Nat) = #[97 + d] := congrArg Str.cps h2
    have h4 : c = 97 + d := by simpa using h3
    subst h4
    have : d = 0 ∨ d = 1 ∨ d = 2 := by omega
    rcases this with rfl | rfl | rfl <;> simp
theorem strip_places (z : Str) : decide (Txt.stripChars z "abc" = "") = (strL z).all isPl := by
  rw [Bool.eq_iff_iff, decide_eq_true_iff, strip_nil, List.all_eq_true]
  unfold strL
  constructor
  · intro h v hv
    obtain ⟨c, hc, rfl⟩ := List.mem_map.mp hv
    exact (abc_one c).mp (h c hc)
  · intro h c hc
    exact (abc_one c).mpr (h _ (List.mem_map.mpr ⟨c, hc, rfl⟩))
include F in
theorem read_is_arrangement (h : sp_is_arrangement K vs H Q E) : t_is_arrangement K E { nx := fun _ H' => Q .non H', rt := Q } (start ["yard", "value"] vs) H := by
  match vs, h with
  | [y, x], h =>
    unfold t_is_arrangement
    walk_at "w"
    refine chk_yard h fun p rows ep hy ⟨b, hb, hs, q⟩ => ?_
    subst ep
    refine isi_ty (b := .str) F rfl hb ?_
    walk_at "w"
    by_cases e : b = .str
    · subst e
      obtain ⟨z, rfl⟩ := hb.str_inv
      simp only [Ty.sub, decide_true, Bool.true_or, if_true]
      refine ⟨hs z rfl, ?_⟩
      refine lenO_of hy ?_
      rw [uEq_int]
      refine ⟨_, rfl, ?_⟩
      by_cases el : z.cps.size = rows.length
      · rw [decide_eq_true (by show ((z.cps.size : Nat) : Int) = _; omega), if_pos rfl]
        refine ⟨rfl, z, "abc", rfl, rfl, hs z rfl, ?_⟩
        walk_at "w"
        rw [strip_places]
        have := q H (Same.refl H)
        simpa [arrB, el] using this
      · rw [decide_eq_false (by show ¬ ((z.cps.size : Nat) : Int) = _; omega), if_neg (by simp)]
        have := q H (Same.refl H)
        simpa [arrB, el] using this
    · rw [if_neg (by simp [Ty.sub, e])]
      have this := q H (Same.refl H)
      have e2 : arrB rows.length x = false := by cases x <;> first | rfl | exact absurd hb.of_str e
      rwa [e2] at this
include F in
theorem read_check_arrangement (h : sp_check_arrangement K vs H Q E) : t_check_arrangement K E { nx := fun _ H' => Q .non H', rt := Q } (start ["yard", "arrangement"] vs) H := by
  match vs, h with
  | [y, x], h =>
    unfold t_check_arrangement sp_is_arrangement
    walk_at "w"
    refine YardOr.to h id fun p rows ep hy ⟨b, hb, hs, q1, q2⟩ => ⟨b, hb, hs, fun H1 s => ?_⟩
    cases e : arrB rows.length x with
    | true => exact q1 e H1 s
    | false => exact rse_var (K := K) (c := "InvalidArrangement") (f := "value") (E := E) (i := 1) (D := { nx := fun _ H' => Q .non H', rt := Q }) rfl ((q2 e).same s)

theorem mul_pl (d n : Nat) : Txt.mul (pl d) (n : Int) = wd (List.replicate n d) := by
  have key : ∀ (m : Nat) (acc : Array Nat), ((List.replicate m (pl d).cps).foldl (· ++ ·) acc).toList = acc.toList ++ List.replicate m (97 + d) := by
    intro m
    induction m with
    | zero => intro acc; simp
    | succ m ih =>
      intro acc
      rw [List.replicate_succ, List.foldl_cons, ih]
      simp [pl, List.replicate_succ]
  have e : (wd (List.replicate n d)).cps.toList = List.replicate n (97 + d) := by simp [wd]
  have ext : ∀ a b : Str, a.cps.toList = b.cps.toList → a = b := fun a b h => by
    obtain ⟨a⟩ := a
    obtain ⟨b⟩ := b
    exact congrArg Str.mk (Array.toList_inj.mp h)
  apply ext
  rw [e]
  unfold Txt.mul
  match n with
  | 0 => rfl
  | 1 => rfl
  | n + 2 =>
    rw [if_neg (by omega), if_neg (by
      have h1 : (((n + 2 : Nat) : Int) == 1) = false := by simpa using (by omega : ¬ ((n : Int) + 2 = 1))
      have h2 : ((pl d).length == 0) = false := rfl
      rw [h1, h2]; decide)]
    rw [key]
    simp
    omega
theorem isPl_arg {x : V} {a : Ty} {Q : VK} {H : Hp} {E : XK} (hb : Is K H x a) (q1 : isPl x = false → Rz K "InvalidPlace" "value" x H E) (q2 : ∀ d, d < 3 → x = .str (pl d) → Q .non H) : sp_check_place K [x] H Q E := by
  refine ⟨a, hb, fun e => ?_, q1⟩
  obtain ⟨d, h, r⟩ := isPl_inv e
  exact q2 d h r
include F in
theorem read_tower (h : sp_tower K vs H Q E) : t_tower K E { nx := fun _ H' => Q .non H', rt := Q } (start ["yard", "place"] vs) H := by
  match vs, h with
  | [y, x], h =>
    unfold t_tower
    walk_at "w"
    refine chk_yard h fun p rows ep hy ⟨b, hb, q1, q2⟩ => isPl_arg hb q1 fun d hd ex => ?_
    subst ep ex
    refine lenO_of hy ?_
    have hl := hy
    obtain ⟨_, _, _, _, _, _, l1, l2, _⟩ := hl
    refine ⟨by omega, by omega, by show 1 ≤ 10000; decide, ?_⟩
    rw [mul_pl]
    exact q2 d hd rfl
theorem chk_arr {y x : V} {H : Hp} {Q : VK} {k : List (List (Option Int)) → List Nat → Prop} (h : YardOr K H y E fun rows => (∃ ds, Arr rows.length x ds ∧ k rows ds) ∨ NoArr K H rows.length x E)
    (q : ∀ p rows ds, y = .ref p → Yd K H p rows → Arr rows.length x ds → k rows ds → ∀ H', Same H H' → Q .non H') : sp_check_arrangement K [y, x] H Q E := by
  refine YardOr.to h id fun p rows e hy g => ?_
  rcases g with ⟨ds, ⟨rfl, a1, a2⟩, g⟩ | ⟨b, g1, g2, g3, g4⟩
  · refine ⟨.str, is_str _, fun z e => ?_, fun _ => q p rows ds e hy ⟨rfl, a1, a2⟩ g, fun z => ?_⟩
    · cases e
      obtain ⟨_, _, _, _, _, _, l1, l2, _⟩ := hy
      rw [wd_length, a1]
      exact Nat.le_trans l1 (by decide)
    · rw [arrB_wd a1 a2] at z
      cases z
  · exact ⟨b, g1, g2, fun z => absurd (g3.symm.trans z) (by decide), fun _ => g4⟩
theorem strL_get {ds : List Nat} {i : Nat} {x : V} (h : (strL (wd ds))[i]? = some x) : ∃ d, ds[i]? = some d ∧ x = .str (pl d) := by
  rw [strL_wd, List.getElem?_map] at h
  obtain ⟨d, h1, h2⟩ := Option.map_eq_some_iff.mp h
  exact ⟨d, h1, h2.symm⟩
theorem take_num {ds : List Nat} {i d : Nat} (h : ds[i]? = some d) : num (ds.take (i + 1)) = num (ds.take i) * 3 + d := by
  rw [List.take_succ, h, ← num_snoc]
  rfl
theorem num_lt {ds : List Nat} (h : D3 ds) : 0 ≤ num ds ∧ num ds < 3 ^ ds.length := by
  have key : ∀ (r : List Nat), D3 r.reverse → 0 ≤ num r.reverse ∧ num r.reverse < 3 ^ r.length := by
    intro r
    induction r with
    | nil => intro _; exact ⟨Int.le_refl _, by decide⟩
    | cons d r ih =>
      intro h3
      have hd : d < 3 := h3 d (by simp)
      obtain ⟨k1, k2⟩ := ih fun x m => h3 x (by simp at m ⊢; exact .inl m)
      rw [List.reverse_cons, num_snoc, List.length_cons, Int.pow_succ]
      constructor <;> omega
  have := key ds.reverse (by rwa [List.reverse_reverse])
  rwa [List.reverse_reverse, List.length_reverse] at this
theorem onsN_succ {n d e : Nat} {ds : List Nat} (h : ds[n]? = some e) : onsN (n + 1) ds d = if e = d then onsN n ds d ++ [(n : Int)] else onsN n ds d := by
  unfold onsN
  rw [List.range_succ, List.filter_append, List.map_append]
  by_cases c : e = d
  · rw [if_pos c]
    simp [h, c]
  · rw [if_neg c]
    simp [h, c]
theorem onsN_len {n d : Nat} {ds : List Nat} : (onsN n ds d).length ≤ n := by
  unfold onsN
  rw [List.length_map]
  exact Nat.le_trans (List.length_filter_le _ _) (by simp)
theorem wd_get {ds : List Nat} {i c : Nat} (h : (wd ds).cps[i]? = some c) : ∃ d, ds[i]? = some d ∧ (⟨#[c]⟩ : Str) = pl d := by
  rw [← Array.getElem?_toList] at h
  simp only [wd, List.getElem?_map] at h
  obtain ⟨d, h1, h2⟩ := Option.map_eq_some_iff.mp h
  exact ⟨d, h1, by rw [← h2]; rfl⟩
theorem chk_arr3 {y x : V} {H : Hp} {Q : VK} {k : List (List (Option Int)) → List Nat → Prop} (h : YardOr K H y E fun rows => NoArr K H rows.length x E ∨ ∃ ds, Arr rows.length x ds ∧ k rows ds)
    (q : ∀ p rows ds, y = .ref p → Yd K H p rows → Arr rows.length x ds → k rows ds → ∀ H', Same H H' → Q .non H') : sp_check_arrangement K [y, x] H Q E :=
  chk_arr (k := k) (YardOr.to h id fun _ _ _ _ g => g.symm) q
include F in
theorem read_on_place (h : sp_on_place K vs H Q E) : t_on_place K E { nx := fun _ H' => Q .non H', rt := Q } (start ["yard", "arrangement", "place", "crate", "held"] vs) H := by
  match vs, h with
  | [y, x, z], h =>
    unfold t_on_place
    walk_at "w"
    refine chk_arr3 h fun p rows ds ep hy ⟨ex, a1, a2⟩ ⟨b, hb, q1, q2⟩ H1 s1 => ?_
    subst ep ex
    refine isPl_arg (hb.same s1) (fun e => (q1 e).same s1) fun d hd ez => ?_
    subst ez
    refine tLc_enumS (z := wd ds) (fun R r => ⟨_, rfl, r⟩) fun D hD => ?_
    refine lc_enumS (z := wd ds) (fun i H => Same H1 H ∧ H D = some (.lst ((onsN i ds d).map V.int))) ⟨same_new hD, upd_same⟩ ?_ ?_
    · rintro i c H2 T hc ⟨s, h2⟩ hT
      obtain ⟨e, he, hc2⟩ := wd_get hc
      rw [hc2]
      refine ⟨T, _, rfl, .inl (.inl upd_same), rfl, _, _, rfl, _, _, rfl, ⟨rfl, rfl, ?_⟩⟩
      walk_at "w"
      simp only [lcT, wipe]
      walk_at "w"
      have hDT : D ≠ T := by rintro rfl; rw [hT] at h2; cases h2
      have hu : upd H2 T (.tup [.int i, .str (pl e)]) D = some (.lst ((onsN i ds d).map V.int)) := by rw [upd_ne hDT]; exact h2
      have st : Same H1 (upd H2 T (.tup [.int i, .str (pl e)])) := s.trans (same_new hT)
      have hn := onsN_succ (d := d) he
      by_cases c : e = d
      · rw [if_pos c] at hn
        rw [if_pos (by rw [c])]
        have hlt : i < ds.length := (List.getElem?_eq_some_iff.mp he).1
        have hl := onsN_len (n := i) (d := d) (ds := ds)
        obtain ⟨_, _, _, _, _, _, l1, l2, _⟩ := id hy
        refine ⟨_, hu, ?_, ?_, ?_⟩
        · rw [List.length_map]
          exact Nat.lt_of_lt_of_le (show _ < 61 by omega) (by decide)
        · exact (Off.trans (Same.off st) off_upd).same hD
        · rw [hn, upd_same]
          simp
      · rw [if_neg c] at hn
        rw [if_neg (by intro z; exact c (pl_inj z))]
        exact ⟨st, by rw [hu, hn]⟩
    · rintro H2 ⟨s, h2⟩
      rw [wd_size] at h2
      exact q2 d hd rfl H2 D (s1.trans s) (Same.free s1 hD) h2
theorem getLast_at (i : Int) (r : List Int) : atI ((i :: r).map V.int) (-1) = some (topV (i :: r)) := by
  unfold atI ixN
  rw [if_neg (by decide), if_pos (by simp; omega)]
  have e : ((-1 : Int) + (((i :: r).map V.int).length : Nat)).toNat = r.length := by simp; omega
  show ((i :: r).map V.int)[_]? = _
  rw [e]
  unfold topV
  rw [List.getElem?_map]
  have : (i :: r).getLast? = (i :: r)[r.length]? := by rw [List.getLast?_eq_getElem?]; rfl
  rw [this]
  have lt : r.length < (i :: r).length := by simp
  rw [List.getElem?_eq_getElem lt]
  rfl
include F in
theorem read_top_crate (h : sp_top_crate K vs H Q E) : t_top_crate K E { nx := fun _ H' => Q .non H', rt := Q } (start ["yard", "arrangement", "place", "crates"] vs) H := by
  match vs, h with
  | [y, x, z], h =>
    unfold t_top_crate sp_on_place
    walk_at "w"
    refine YardOr.to h id fun p rows ep hy g => ?_
    rcases g with g | ⟨ds, a, b, hb, q1, q2⟩
    · exact .inl g
    · refine .inr ⟨ds, a, b, hb, q1, fun d hd ez H1 l s hl h1 => ?_⟩
      subst ep ez
      walk_at "w"
      have q := q2 d hd rfl H1 s
      refine ⟨_, .inl ⟨_, .inl (.inl h1), rfl⟩, ?_⟩
      cases e : ons ds d with
      | nil =>
        rw [if_neg (by simp)]
        rw [e] at q
        exact q
      | cons i r =>
        rw [if_pos (by simp)]
        refine ⟨_, topV (ons ds d), .inl (.inl (.inl h1)), ?_, q⟩
        rw [e]
        exact getLast_at i r
end
theorem uIx_str {K : PySem.W.Frag} {z : Str} {i : Int} {c : Nat} {H : Hp} {Q : VK} (h : z.length ≤ sizeLine) (hi : atI z.cps.toList i = some c) (q : Q (.str ⟨#[c]⟩) H) : uIx K (.str z) (.int i) H Q := ⟨h, c, hi, q⟩
theorem cut_wd (ds : List Nat) (lo hi : Option Int) : cutS (wd ds) lo hi = wd ((ds.drop (HT.sIx ds.length 0 lo)).take (HT.sIx ds.length ds.length hi - HT.sIx ds.length 0 lo)) := by
  unfold cutS
  rw [wd_length]
  have e : (wd ds).cps.toList = ds.map (97 + ·) := by simp [wd]
  rw [e, ← List.map_drop, ← List.map_take]
  rfl
theorem cut_to {ds : List Nat} {k : Nat} (h : k ≤ ds.length) : cutS (wd ds) none (some (k : Int)) = wd (ds.take k) := by
  rw [cut_wd, HT.sIx_none, HT.sIx_nat, List.drop_zero]
  congr 2
  omega
theorem cut_from {ds : List Nat} {k : Nat} (h : k ≤ ds.length) : cutS (wd ds) (some (k : Int)) none = wd (ds.drop k) := by
  rw [cut_wd, HT.sIx_none, HT.sIx_nat]
  have e : min k ds.length = k := by omega
  rw [e, List.take_of_length_le (by simp)]
end U
namespace U
open PySem PySem.Spec PyProof.Rows L2

/-! ### ways, prices, moves -/
def wayI (a b : Nat) : Nat := 2 * a + (if a < b then b - 1 else b)
def prOf (rows : List (List (Option Int))) (k a b : Nat) : Option Int := ((rows[k]?.getD [])[wayI a b]?).getD none
/-- may crate k go to place d -/
def alw (rows : List (List (Option Int))) (ds : List Nat) (k d : Nat) : Bool :=
  decide (ds[k]?.getD 0 ≠ d) && ((prOf rows k (ds[k]?.getD 0) d).isSome && decide (ds.drop (k + 1) = List.replicate (ds.length - (k + 1)) (3 - ds[k]?.getD 0 - d)))
def Mv (K : PySem.W.Frag) (H : Hp) (t : Addr) (k d : Nat) : Prop := SqT K H t [.int k, .str (pl d)]
/-- a value that has the form of a move, or not -/
def MvF (K : PySem.W.Frag) (H : Hp) (n : Nat) (x : V) (b : Bool) : Prop := (∃ a, Is K H x a ∧ a ≠ .tup ∧ b = false) ∨
  ∃ t xs, x = .ref t ∧ SqT K H t xs ∧ ((xs.length ≠ 2 ∧ b = false) ∨ ∃ u v c e, xs = [u, v] ∧ Is K H u c ∧ Is K H v e ∧ b = (isIn u 0 ((n : Int) - 1) && isPl v))
theorem MvF.same {K : PySem.W.Frag} {H H' : Hp} {n : Nat} {x : V} {b : Bool} (e : Same H H') (h : MvF K H n x b) : MvF K H' n x b := by
  rcases h with ⟨a, h, r⟩ | ⟨t, xs, h1, h2, h3⟩
  · exact .inl ⟨a, h.same e, r⟩
  · refine .inr ⟨t, xs, h1, Same.sqT e h2, ?_⟩
    rcases h3 with h3 | ⟨u, v, c, d, z1, z2, z3, z4⟩
    · exact .inl h3
    · exact .inr ⟨u, v, c, d, z1, z2.same e, z3.same e, z4⟩
theorem Mv.form {K : PySem.W.Frag} {H : Hp} {t : Addr} {k d n : Nat} (h : Mv K H t k d) (hk : k < n) (hd : d < 3) : MvF K H n (.ref t) true := by
  refine .inr ⟨t, _, rfl, h, .inr ⟨_, _, .int, .str, rfl, is_int _, is_str _, ?_⟩⟩
  rw [isPl_pl hd]
  show true = (decide ((0 : Int) ≤ (k : Int)) && decide ((k : Int) ≤ (n : Int) - 1) && true)
  rw [decide_eq_true (by omega), decide_eq_true (by omega)]
  rfl
def sp_third (K : PySem.W.Frag) : Sp := sp1 fun x H Q E => ∃ a, Is K H x a ∧ (isWy x = false → Rz K "InvalidWay" "value" x H E) ∧ ∀ a b, a < 3 → b < 3 → a ≠ b → x = .str (wd [a, b]) → Q (.str (pl (3 - a - b))) H
def sp_check_crate (K : PySem.W.Frag) : Sp := sp2 fun y x H Q E => ∃ p rows a, y = .ref p ∧ Yd K H p rows ∧ Is K H x a ∧ (isIn x 0 ((rows.length : Int) - 1) = true → Q .non H) ∧ (isIn x 0 ((rows.length : Int) - 1) = false → Rz K "InvalidCrate" "value" x H E)
def sp_Yard_price (K : PySem.W.Frag) : Sp := sp3 fun y c w H Q E => ∃ p rows a b, y = .ref p ∧ Yd K H p rows ∧ Is K H c a ∧ Is K H w b ∧ (isIn c 0 ((rows.length : Int) - 1) = false → Rz K "InvalidCrate" "value" c H E) ∧
  (isIn c 0 ((rows.length : Int) - 1) = true → isWy w = false → Rz K "InvalidWay" "value" w H E) ∧ ∀ k a b, k < rows.length → a < 3 → b < 3 → a ≠ b → c = .int (k : Nat) → w = .str (wd [a, b]) → Q (pV (prOf rows k a b)) H
def sp_is_crate_and_place (K : PySem.W.Frag) : Sp := sp2 fun y x H Q _ => ∃ p rows b, y = .ref p ∧ Yd K H p rows ∧ MvF K H rows.length x b ∧ Q (.bl b) H
def sp_is_allowed (K : PySem.W.Frag) : Sp := sp3 fun y x z H Q _ => ∃ p rows ds t k d, y = .ref p ∧ Yd K H p rows ∧ Arr rows.length x ds ∧ z = .ref t ∧ Mv K H t k d ∧ k < rows.length ∧ d < 3 ∧ Q (.bl (alw rows ds k d)) H
/-- no allowed move -/
def NoMv (K : PySem.W.Frag) (H : Hp) (rows : List (List (Option Int))) (ds : List Nat) (z : V) (E : XK) : Prop :=
  (MvF K H rows.length z false ∨ ∃ t k d, z = .ref t ∧ Mv K H t k d ∧ k < rows.length ∧ d < 3 ∧ alw rows ds k d = false) ∧ Rz K "InvalidMove" "value" z H E
def MvOr (K : PySem.W.Frag) (H : Hp) (y x z : V) (E : XK) (k : List (List (Option Int)) → List Nat → Nat → Nat → Prop) : Prop := YardOr K H y E fun rows => NoArr K H rows.length x E ∨ ∃ ds, Arr rows.length x ds ∧
  (NoMv K H rows ds z E ∨ ∃ t c d, z = .ref t ∧ Mv K H t c d ∧ c < rows.length ∧ d < 3 ∧ alw rows ds c d = true ∧ k rows ds c d)
def sp_check_move (K : PySem.W.Frag) : Sp := sp3 fun y x z H Q E => MvOr K H y x z E fun _ _ _ _ => ∀ H', Same H H' → Q .non H'
def sp_moved (K : PySem.W.Frag) : Sp := sp3 fun y x z H Q E => MvOr K H y x z E fun _ ds k d => ∀ H', Same H H' → Q (.str (wd (ds.set k d))) H'
def sp_move_cost (K : PySem.W.Frag) : Sp := sp3 fun y x z H Q E => MvOr K H y x z E fun rows ds k d => ∀ H', Same H H' → Q (pV (prOf rows k (ds[k]?.getD 0) d)) H'
def sp_way_back (K : PySem.W.Frag) : Sp := sp3 fun y x z H Q E => MvOr K H y x z E fun _ ds k _ => ∀ t H', Same H H' → H t = none → Mv K H' t k (ds[k]?.getD 0) → Q (.ref t) H'
def allL (n : Nat) : List (Nat × Nat) := (List.range n).flatMap fun k => [(k, 0), (k, 1), (k, 2)]
def alwL (rows : List (List (Option Int))) (ds : List Nat) : List (Nat × Nat) := (allL rows.length).filter fun m => alw rows ds m.1 m.2
/-- tuples, one a move -/
def Mvs (K : PySem.W.Frag) (H : Hp) (ts : List Addr) (ms : List (Nat × Nat)) : Prop := ts.length = ms.length ∧ ∀ (i : Nat) (t : Addr) (m : Nat × Nat), ts[i]? = some t → ms[i]? = some m → Mv K H t m.1 m.2
def sp_allowed (K : PySem.W.Frag) : Sp := sp2 fun y x H Q E => YardOr K H y E fun rows => NoArr K H rows.length x E ∨ ∃ ds, Arr rows.length x ds ∧
  ∀ l ts H', Same H H' → H l = none → H' l = some (.lst (ts.map V.ref)) → Mvs K H' ts (alwL rows ds) → (∀ t ∈ ts, H t = none) → Q (.ref l) H'
def t_third (K : PySem.W.Frag) (E : XK) : TS := (tSeq (tDrop (tFn (sp_check_way K) E (tCons (tVar 0) tNil))) (tRet (tOp (rThird K) (tC (.ref (He.ga K "THIRDS"))) (tVar 0))))
def t_check_crate (K : PySem.W.Frag) (E : XK) : TS := (tIfS (tNot (tB (tFn (sp_is_integer_within K) E (tCons (tVar 1) (tCons (tC (.int 0)) (tCons (tOp uSub (tCB (rLenO (He.ga K "Yard") (sp_Yard_len K)) (tCons (tVar 0) tNil)) (tC (.int 1))) tNil)))))) (tRse K "InvalidCrate" "value" E (tCons (tVar 1) tNil)) tNext)
def t_Yard_price (K : PySem.W.Frag) (E : XK) : TS := (tSeq (tDrop (tFn (sp_check_crate K) E (tCons (tVar 0) (tCons (tVar 1) tNil)))) (tSeq (tDrop (tFn (sp_check_way K) E (tCons (tVar 2) tNil))) (tRet (tOp (uIx K) (tOp (uIx K) (tFld K (tVar 0) "_rows") (tVar 1)) (tOp (rCol K) (tC (.ref (He.ga K "COLUMNS"))) (tVar 2))))))
def t_is_crate_and_place (K : PySem.W.Frag) (E : XK) : TS := (tRet (tAndV (tCB (uIsi K) (tCons (tVar 1) (tCons (tC (.ty "tuple")) tNil))) (tAndV (tOp (uEq K) (tCB (uLen K) (tCons (tVar 1) tNil)) (tC (.int 2))) (tAndV (tFn (sp_is_integer_within K) E (tCons (tOp (uIx K) (tVar 1) (tC (.int 0))) (tCons (tC (.int 0)) (tCons (tOp uSub (tCB (rLenO (He.ga K "Yard") (sp_Yard_len K)) (tCons (tVar 0) tNil)) (tC (.int 1))) tNil)))) (tFn (sp_is_place K) E (tCons (tOp (uIx K) (tVar 1) (tC (.int 1))) tNil))))))
def t_is_allowed (K : PySem.W.Frag) (E : XK) : TS := (tSeq (tAsg (tVar 2) (gTup K 2 (gCons (gName 3) (gCons (gName 4) gNil)))) (tSeq (tAsg (tOp (uIx K) (tVar 1) (tVar 3)) (gName 5)) (tSeq (tIfS (tOr (tTest (tOp (uNe K) (tBM K "str" rRfind (tVar 1) (tCons (tVar 5) tNil)) (tVar 3))) (tTest (tOp uGe (tBM K "str" rRfind (tVar 1) (tCons (tVar 4) tNil)) (tVar 3)))) (tRet (tC (.bl false))) tNext) (tRet (tOp uNis (tOp (uIx K) (tOp (uIx K) (tMeth (He.ga K "Yard") "price_rows" (sp_Yard_price_rows K) [] E (tVar 0) tNil) (tVar 3)) (tOp (rCol K) (tC (.ref (He.ga K "COLUMNS"))) (tOp uAdd (tVar 5) (tVar 4)))) (tC .non))))))
def t_check_move (K : PySem.W.Frag) (E : XK) : TS := (tSeq (tDrop (tFn (sp_check_arrangement K) E (tCons (tVar 0) (tCons (tVar 1) tNil)))) (tIfS (tNot (tAnd (tB (tFn (sp_is_crate_and_place K) E (tCons (tVar 0) (tCons (tVar 2) tNil)))) (tB (tFn (sp_is_allowed K) E (tCons (tVar 0) (tCons (tVar 1) (tCons (tVar 2) tNil))))))) (tRse K "InvalidMove" "value" E (tCons (tVar 2) tNil)) tNext))
def t_allowed (K : PySem.W.Frag) (E : XK) : TS := (tSeq (tDrop (tFn (sp_check_arrangement K) E (tCons (tVar 0) (tCons (tVar 1) tNil)))) (tSeq (tAsg (tLc2 (iRng1 (tCons (tCB (rLenO (He.ga K "Yard") (sp_Yard_len K)) (tCons (tVar 0) tNil)) tNil)) (gName 3) tYes (iSeq K (tC (.ref (He.ga K "PLACES")))) (gName 4) tYes (tTup (tCons (tVar 3) (tCons (tVar 4) tNil))) [3, 4] [4]) (gName 2)) (tRet (tLc (iSeq K (tVar 2)) (gName 5) (tB (tFn (sp_is_allowed K) E0 (tCons (tVar 0) (tCons (tVar 1) (tCons (tVar 5) tNil))))) (tVar 5) [5]))))
def t_moved (K : PySem.W.Frag) (E : XK) : TS := (tSeq (tDrop (tFn (sp_check_move K) E (tCons (tVar 0) (tCons (tVar 1) (tCons (tVar 2) tNil))))) (tSeq (tAsg (tVar 2) (gTup K 2 (gCons (gName 3) (gCons (gName 4) gNil)))) (tRet (tOp uAdd (tOp uAdd (tSl (uSl K) (tVar 1) tNoPart (tPart (tVar 3))) (tVar 4)) (tSl (uSl K) (tVar 1) (tPart (tOp uAdd (tVar 3) (tC (.int 1)))) tNoPart)))))
def t_move_cost (K : PySem.W.Frag) (E : XK) : TS := (tSeq (tDrop (tFn (sp_check_move K) E (tCons (tVar 0) (tCons (tVar 1) (tCons (tVar 2) tNil))))) (tSeq (tAsg (tVar 2) (gTup K 2 (gCons (gName 3) (gCons (gName 4) gNil)))) (tRet (tOp (uIx K) (tOp (uIx K) (tMeth (He.ga K "Yard") "price_rows" (sp_Yard_price_rows K) [] E (tVar 0) tNil) (tVar 3)) (tOp (rCol K) (tC (.ref (He.ga K "COLUMNS"))) (tOp uAdd (tOp (uIx K) (tVar 1) (tVar 3)) (tVar 4)))))))
def t_way_back (K : PySem.W.Frag) (E : XK) : TS := (tSeq (tDrop (tFn (sp_check_move K) E (tCons (tVar 0) (tCons (tVar 1) (tCons (tVar 2) tNil))))) (tSeq (tAsg (tVar 2) (gTup K 2 (gCons (gName 3) (gCons (gName 4) gNil)))) (tRet (tTup (tCons (tVar 3) (tCons (tOp (uIx K) (tVar 1) (tVar 3)) tNil))))))
section
variable {K : PySem.W.Frag} (F : KF K) {vs : List V} {H : Hp} {Q : VK} {E : XK}
local macro_rules | `(tactic| walk_at "w") => `(tactic| try simp only [turnE, lcT, Snoc, tRet, tRetN, tAndV, tOrV, tNotV, tCB, tCons, tVar, tNil, tC, tOp, tSeq, tAsg, gName, gSub, tIfS, tDrop, tFn, tTup, tLst, tNext, tB, tTest, tNot, tAnd, tOr, tIf, tChain, tUn, rU, tFld, tPart, tNoPart, L2.tSl, tBM, tPar, tPar3, tTruth, tDNewK,
  L2.start, List.map_cons, List.map_nil, List.length_cons, List.length_nil, List.replicate_succ, List.replicate_zero, List.append_nil, List.nil_append, List.cons_append, List.singleton_append, Nat.sub_self, Nat.zero_add, Nat.reduceAdd, Nat.reduceSub,
  List.getElem?_cons_zero, List.getElem?_cons_succ, List.set_cons_zero, List.set_cons_succ, Option.some.injEq, exists_eq_left, exists_eq_left', V.int.injEq, V.bl.injEq, V.str.injEq, V.ref.injEq,
  uAdd_int, uAdd_str, uSub_int, uMul_int, uMul_str, uDiv_int, uMod_int, uPow_int, uLt_int, uLe_int, uGt_int, uGe_int, uIs_non, uNis_non, uIs_bl, uNis_bl, sp1, sp2, sp3, sp4, uEq_int, uEq_str, uNe_int, uNe_str, uSl_str, uLen_str, decide_eq_true_eq])
local macro_rules | `(tactic| walk_at "1") => `(tactic| try simp only [turnE, lcT, Snoc, tRet, tRetN, tAndV, tOrV, tNotV, tCB, tCons, tVar, tNil, tC, tOp, tAsg, gName, gSub, tIfS, tDrop, tFn, tTup, tLst, tNext, tB, tTest, tNot, tAnd, tOr, tIf, tChain, tUn, rU, tFld, tPart, tNoPart, L2.tSl, tBM, tPar, tPar3, tTruth, tDNewK,
  L2.start, List.map_cons, List.map_nil, List.length_cons, List.length_nil, List.replicate_succ, List.replicate_zero, List.append_nil, List.nil_append, List.cons_append, List.singleton_append, Nat.sub_self, Nat.zero_add, Nat.reduceAdd, Nat.reduceSub,
  List.getElem?_cons_zero, List.getElem?_cons_succ, List.set_cons_zero, List.set_cons_succ, Option.some.injEq, exists_eq_left, exists_eq_left', V.int.injEq, V.bl.injEq, V.str.injEq, V.ref.injEq,
  uAdd_int, uAdd_str, uSub_int, uMul_int, uMul_str, uDiv_int, uMod_int, uPow_int, uLt_int, uLe_int, uGt_int, uGe_int, uIs_non, uNis_non, uIs_bl, uNis_bl, sp1, sp2, sp3, sp4, uEq_int, uEq_str, uNe_int, uNe_str, uSl_str, uLen_str, decide_eq_true_eq])
local macro_rules | `(tactic| walk_at "s") => `(tactic| ((try dsimp only [turnE]); with_reducible refine seq_ ?_))

theorem isWy_wd {a b : Nat} (ha : a < 3) (hb : b < 3) (n : a ≠ b) : isWy (.str (wd [a, b])) = true ∧ (wd [a, b], pl (3 - a - b)) ∈ thirds := by
  match a, ha, b, hb with
  | 0, _, 0, _ => exact absurd rfl n
  | 0, _, 1, _ => exact ⟨by decide, by decide⟩
  | 0, _, 2, _ => exact ⟨by decide, by decide⟩
  | 1, _, 0, _ => exact ⟨by decide, by decide⟩
  | 1, _, 1, _ => exact absurd rfl n
  | 1, _, 2, _ => exact ⟨by decide, by decide⟩
  | 2, _, 0, _ => exact ⟨by decide, by decide⟩
  | 2, _, 1, _ => exact ⟨by decide, by decide⟩
  | 2, _, 2, _ => exact absurd rfl n
theorem isWy_inv {x : V} (h : isWy x = true) : ∃ a b, a < 3 ∧ b < 3 ∧ a ≠ b ∧ x = .str (wd [a, b]) := by
  cases x with
  | str z =>
    have h : z ∈ wayL := of_decide_eq_true h
    simp only [wayL, List.mem_cons, List.not_mem_nil, or_false] at h
    rcases h with rfl | rfl | rfl | rfl | rfl | rfl
    · exact ⟨0, 1, by decide, by decide, by decide, by decide⟩
    · exact ⟨0, 2, by decide, by decide, by decide, by decide⟩
    · exact ⟨1, 0, by decide, by decide, by decide, by decide⟩
    · exact ⟨1, 2, by decide, by decide, by decide, by decide⟩
    · exact ⟨2, 0, by decide, by decide, by decide, by decide⟩
    · exact ⟨2, 1, by decide, by decide, by decide, by decide⟩
  | _ => cases h
include F in
theorem read_third (h : sp_third K vs H Q E) : t_third K E { nx := fun _ H' => Q .non H', rt := Q } (start ["way"] vs) H := by
  match vs, h with
  | [x], ⟨a, ha, q1, q2⟩ =>
    unfold t_third sp_check_way
    walk_at "w"
    refine ⟨a, ha, fun e => ?_, q1⟩
    obtain ⟨a, b, h1, h2, h3, rfl⟩ := isWy_inv e
    exact ⟨_, _, rfl, rfl, (isWy_wd h1 h2 h3).2, q2 a b h1 h2 h3 rfl⟩
include F in
theorem read_check_crate (h : sp_check_crate K vs H Q E) : t_check_crate K E { nx := fun _ H' => Q .non H', rt := Q } (start ["yard", "crate"] vs) H := by
  match vs, h with
  | [_, x], ⟨p, rows, a, rfl, hy, ha, q1, q2⟩ =>
    unfold t_check_crate sp_is_integer_within
    walk_at "w"
    refine lenO_of hy ?_
    walk_at "w"
    refine ⟨a, 0, _, ha, rfl, rfl, ?_⟩
    cases e : isIn x 0 ((rows.length : Int) - 1) with
    | true => exact q1 e
    | false => exact rse_var (K := K) (c := "InvalidCrate") (f := "value") (E := E) (i := 1) (D := { nx := fun _ H' => Q .non H', rt := Q }) rfl (q2 e)
theorem isIn_inv {x : V} {n : Nat} (h : isIn x 0 ((n : Int) - 1) = true) : ∃ k : Nat, k < n ∧ x = .int k := by
  cases x with
  | int i =>
    have h : (decide ((0 : Int) ≤ i) && decide (i ≤ (n : Int) - 1)) = true := h
    simp only [decide_eq_true_eq, Bool.and_eq_true] at h
    exact ⟨i.toNat, by omega, by congr 1; omega⟩
  | _ => cases h
theorem col_wd {a b : Nat} (ha : a < 3) (hb : b < 3) (n : a ≠ b) : (wd [a, b], ((wayI a b : Nat) : Int)) ∈ columns := by
  match a, ha, b, hb with
  | 0, _, 0, _ => exact absurd rfl n
  | 0, _, 1, _ => decide
  | 0, _, 2, _ => decide
  | 1, _, 0, _ => decide
  | 1, _, 1, _ => exact absurd rfl n
  | 1, _, 2, _ => decide
  | 2, _, 0, _ => decide
  | 2, _, 1, _ => decide
  | 2, _, 2, _ => exact absurd rfl n
theorem col_of {a b : Nat} {Q : VK} (ha : a < 3) (hb : b < 3) (n : a ≠ b) (q : Q (.int (wayI a b : Nat)) H) : rCol K (.ref (He.ga K "COLUMNS")) (.str (wd [a, b])) H Q := ⟨_, _, rfl, rfl, col_wd ha hb n, q⟩
theorem wayI_lt {a b : Nat} (ha : a < 3) (hb : b < 3) (n : a ≠ b) : wayI a b < 6 := by
  unfold wayI
  split <;> omega
theorem at_nat {xs : List V} {k : Nat} {v : V} (h : xs[k]? = some v) : atI xs (k : Int) = some v := by
  have lt := (List.getElem?_eq_some_iff.mp h).1
  unfold atI ixN
  rw [if_pos (Int.natCast_nonneg k), if_pos (by omega)]
  show xs[((k : Nat) : Int).toNat]? = _
  rw [Int.toNat_natCast, h]
theorem Yd.ys {y : Addr} {rows : List (List (Option Int))} (h : Yd K H y rows) : ∃ dx t, H y = some (.ins (He.ga K "Yard") dx [("_rows", .ref t), ("_reckoning", .non)]) ∧ Ys K H t rows := by
  obtain ⟨dx, t, as, h1, h2, h3, h4, h5, h6, h7⟩ := h
  exact ⟨dx, t, h1, as, h2, h3, h6⟩
theorem ys_row {t : Addr} {rows : List (List (Option Int))} {k : Nat} {Q : VK} (hs : Ys K H t rows) (hk : k < rows.length) (q : ∀ u, SqT K H u (rows[k].map pV) → Q (.ref u) H) : uIx K (.ref t) (.int (k : Nat)) H Q := by
  obtain ⟨as, h1, h2, h3⟩ := hs
  have hka : k < as.length := by omega
  exact ⟨_, .ref as[k], .inr h1, at_nat (by rw [List.getElem?_map, List.getElem?_eq_getElem hka]; rfl), q _ (h3 k _ _ (List.getElem?_eq_getElem hka) (List.getElem?_eq_getElem hk))⟩
theorem row_price {u : Addr} {rows : List (List (Option Int))} {k a b : Nat} {Q : VK} (hk : k < rows.length) (hu : SqT K H u (rows[k].map pV)) (h6 : rows[k].length = 6) (ha : a < 3) (hb : b < 3) (n : a ≠ b) (q : Q (pV (prOf rows k a b)) H) : uIx K (.ref u) (.int (wayI a b : Nat)) H Q := by
  have hw := wayI_lt ha hb n
  refine ⟨_, pV rows[k][wayI a b], .inr hu, at_nat (by rw [List.getElem?_map, List.getElem?_eq_getElem (by omega)]; rfl), ?_⟩
  have e : prOf rows k a b = rows[k][wayI a b] := by
    unfold prOf
    rw [List.getElem?_eq_getElem hk]
    show (rows[k][wayI a b]?).getD none = _
    rw [List.getElem?_eq_getElem (by omega)]
    rfl
  rwa [e] at q
theorem Yd.six {y : Addr} {rows : List (List (Option Int))} (h : Yd K H y rows) {k : Nat} (hk : k < rows.length) : rows[k].length = 6 := by
  obtain ⟨_, _, _, _, _, _, _, _, _, h7⟩ := h
  exact (h7 rows[k] (List.getElem_mem hk)).1
include F in
theorem read_Yard_price (h : sp_Yard_price K vs H Q E) : t_Yard_price K E { nx := fun _ H' => Q .non H', rt := Q } (start ["self", "crate", "way"] vs) H := by
  match vs, h with
  | [_, c, x], ⟨p, rows, a, b, rfl, hy, ha, hb, q1, q2, q3⟩ =>
    unfold t_Yard_price sp_check_crate sp_check_way
    walk_at "w"
    refine ⟨p, rows, a, rfl, hy, ha, fun e => ?_, q1⟩
    refine ⟨b, hb, fun e2 => ?_, q2 e⟩
    obtain ⟨k, hk, rfl⟩ := isIn_inv e
    obtain ⟨a, b, h1, h2, h3, rfl⟩ := isWy_inv e2
    obtain ⟨dx, t, y1, ys⟩ := hy.ys
    refine ⟨p, _, _, _, .ref t, rfl, y1, F.cl, F.na, rfl, ?_⟩
    exact ys_row ys hk fun u hu => col_of h1 h2 h3 (row_price hk hu (hy.six hk) h1 h2 h3 (q3 k a b hk h1 h2 h3 rfl rfl))
end
end U
namespace U
open PySem PySem.Spec PyProof.Rows L2

/-! ### a yard's lists, and other yards made of one -/
/-- fresh lists of prices -/
def RowL (H : Hp) (ls : List Addr) (rows : List (List (Option Int))) : Prop := ls.length = rows.length ∧ ∀ (i : Nat) (a : Addr) (r : List (Option Int)), ls[i]? = some a → rows[i]? = some r → H a = some (.lst (r.map pV))
def sp_Yard_rows (K : PySem.W.Frag) : Sp := sp1 fun y H Q _ => ∃ p rows, y = .ref p ∧ Yd K H p rows ∧ ∀ l ls H', Same H H' → H l = none → H' l = some (.lst (ls.map V.ref)) → RowL H' ls rows → ls.Nodup → l ∉ ls → (∀ a ∈ ls, H a = none) → Q (.ref l) H'
def setP (rows : List (List (Option Int))) (k i : Nat) (o : Option Int) : List (List (Option Int)) := rows.set k ((rows[k]?.getD []).set i o)
def sp_Yard_with_price (K : PySem.W.Frag) : Sp := sp4 fun y c w x H Q E => ∃ p rows a b d, y = .ref p ∧ Yd K H p rows ∧ Is K H c a ∧ Is K H w b ∧ Is K H x d ∧ (isIn c 0 ((rows.length : Int) - 1) = false → Rz K "InvalidCrate" "value" c H E) ∧
  (isIn c 0 ((rows.length : Int) - 1) = true → isWy w = false → Rz K "InvalidWay" "value" w H E) ∧ (isIn c 0 ((rows.length : Int) - 1) = true → isWy w = true → isPB x = false → Rz K "InvalidPrice" "value" x H E) ∧
  ∀ k a b o, k < rows.length → a < 3 → b < 3 → a ≠ b → okP o = true → c = .int (k : Nat) → w = .str (wd [a, b]) → x = pV o → ∀ z H', Same H H' → H z = none → Yd K H' z (setP rows k (wayI a b) o) → Q (.ref z) H'
def sp_check_price_or_bar (K : PySem.W.Frag) : Sp := sp1 fun x H Q E => ∃ a, Is K H x a ∧ (isPB x = true → Q .non H) ∧ (isPB x = false → Rz K "InvalidPrice" "value" x H E)
def t_check_price_or_bar (K : PySem.W.Frag) (E : XK) : TS := (tIfS (tAnd (tTest (tOp uNis (tVar 0) (tC .non))) (tNot (tB (tFn (sp_is_price K) E (tCons (tVar 0) tNil))))) (tRse K "InvalidPrice" "value" E (tCons (tVar 0) tNil)) tNext)
def t_Yard_rows (K : PySem.W.Frag) (E : XK) : TS := (tRet (tLc (iSeq K (tFld K (tVar 0) "_rows")) (gName 1) tYes (tCB (uLst K) (tCons (tVar 1) tNil)) [1]))
def t_Yard_with_price (K : PySem.W.Frag) (E : XK) : TS := (tSeq (tDrop (tFn (sp_check_crate K) E (tCons (tVar 0) (tCons (tVar 1) tNil)))) (tSeq (tDrop (tFn (sp_check_way K) E (tCons (tVar 2) tNil))) (tSeq (tDrop (tFn (sp_check_price_or_bar K) E (tCons (tVar 3) tNil))) (tSeq (tAsg (tMeth (He.ga K "Yard") "rows" (sp_Yard_rows K) [] E (tVar 0) tNil) (gName 4)) (tSeq (tAsg (tVar 3) (gSub (tOp (uIx K) (tVar 4) (tVar 1)) (tOp (rCol K) (tC (.ref (He.ga K "COLUMNS"))) (tVar 2)) rSetL)) (tRet (tMake (He.ga K "Yard") (sp_Yard_init K) [] E (tCons (tVar 4) tNil))))))))
section
variable {K : PySem.W.Frag} (F : KF K) {vs : List V} {H : Hp} {Q : VK} {E : XK}
local macro_rules | `(tactic| walk_at "w") => `(tactic| try simp only [turnE, lcT, Snoc, tRet, tRetN, tAndV, tOrV, tNotV, tCB, tCons, tVar, tNil, tC, tOp, tSeq, tAsg, gName, gSub, tIfS, tDrop, tFn, tTup, tLst, tNext, tB, tTest, tNot, tAnd, tOr, tIf, tChain, tUn, rU, tFld, tPart, tNoPart, L2.tSl, tBM, tPar, tPar3, tTruth, tDNewK,
  L2.start, List.map_cons, List.map_nil, List.length_cons, List.length_nil, List.replicate_succ, List.replicate_zero, List.append_nil, List.nil_append, List.cons_append, List.singleton_append, Nat.sub_self, Nat.zero_add, Nat.reduceAdd, Nat.reduceSub,
  List.getElem?_cons_zero, List.getElem?_cons_succ, List.set_cons_zero, List.set_cons_succ, Option.some.injEq, exists_eq_left, exists_eq_left', V.int.injEq, V.bl.injEq, V.str.injEq, V.ref.injEq,
  uAdd_int, uAdd_str, uSub_int, uMul_int, uMul_str, uDiv_int, uMod_int, uPow_int, uLt_int, uLe_int, uGt_int, uGe_int, uIs_non, uNis_non, uIs_bl, uNis_bl, sp1, sp2, sp3, sp4, uEq_int, uEq_str, uNe_int, uNe_str, uSl_str, uLen_str, decide_eq_true_eq])
local macro_rules | `(tactic| walk_at "1") => `(tactic| try simp only [turnE, lcT, Snoc, tRet, tRetN, tAndV, tOrV, tNotV, tCB, tCons, tVar, tNil, tC, tOp, tAsg, gName, gSub, tIfS, tDrop, tFn, tTup, tLst, tNext, tB, tTest, tNot, tAnd, tOr, tIf, tChain, tUn, rU, tFld, tPart, tNoPart, L2.tSl, tBM, tPar, tPar3, tTruth, tDNewK,
  L2.start, List.map_cons, List.map_nil, List.length_cons, List.length_nil, List.replicate_succ, List.replicate_zero, List.append_nil, List.nil_append, List.cons_append, List.singleton_append, Nat.sub_self, Nat.zero_add, Nat.reduceAdd, Nat.reduceSub,
  List.getElem?_cons_zero, List.getElem?_cons_succ, List.set_cons_zero, List.set_cons_succ, Option.some.injEq, exists_eq_left, exists_eq_left', V.int.injEq, V.bl.injEq, V.str.injEq, V.ref.injEq,
  uAdd_int, uAdd_str, uSub_int, uMul_int, uMul_str, uDiv_int, uMod_int, uPow_int, uLt_int, uLe_int, uGt_int, uGe_int, uIs_non, uNis_non, uIs_bl, uNis_bl, sp1, sp2, sp3, sp4, uEq_int, uEq_str, uNe_int, uNe_str, uSl_str, uLen_str, decide_eq_true_eq])
local macro_rules | `(tactic| walk_at "s") => `(tactic| ((try dsimp only [turnE]); with_reducible refine seq_ ?_))

include F in
theorem read_check_price_or_bar (h : sp_check_price_or_bar K vs H Q E) : t_check_price_or_bar K E { nx := fun _ H' => Q .non H', rt := Q } (start ["price"] vs) H := by
  match vs, h with
  | [x], ⟨a, ha, q1, q2⟩ =>
    unfold t_check_price_or_bar sp_is_price
    walk_at "1"
    by_cases e : x = .non
    · subst e
      simp only [decide_true, Bool.not_true, Bool.false_eq_true, if_false]
      exact q1 rfl
    · simp only [e, decide_false, Bool.not_false, if_true]
      refine ⟨a, ha, ?_⟩
      have eq : isPB x = isPr x := by
        cases x with
        | non => exact absurd rfl e
        | _ => rfl
      rw [eq] at q1 q2
      cases z : isPr x with
      | true => exact q1 z
      | false => exact rse_var (K := K) (c := "InvalidPrice") (f := "value") (E := E) (i := 0) (D := { nx := fun _ H' => Q .non H', rt := Q }) rfl (q2 z)
theorem tLc_inT {t : TE} {g : TG} {tt : TT} {te : TE} {ws : List Nat} {σ : L2.St} {H : Hp} (h : t σ H fun x H1 => ∃ a, x = .ref a ∧ (∃ xs, SqT K H1 a xs) ∧ ∀ D, H1 D = none → LcB (Itt K a) g tt te ws σ H1 D (Q (.ref D))) : tLc (iSeq K t) g tt te ws σ H Q := .inr h
include F in
theorem read_Yard_rows (h : sp_Yard_rows K vs H Q E) : t_Yard_rows K E { nx := fun _ H' => Q .non H', rt := Q } (start ["self", "row"] vs) H := by
  match vs, h with
  | [_], ⟨p, rows, rfl, hy, q⟩ =>
    unfold t_Yard_rows
    obtain ⟨dx, t, as, y1, y2, y3, y4, y5, y6, y7⟩ := id hy
    simp only [tRet]
    refine tLc_inT ?_
    walk_at "1"
    refine ⟨p, _, dx, _, .ref t, rfl, y1, F.cl, F.na, rfl, t, rfl, ⟨_, y2⟩, fun D hD => ?_⟩
    refine lc_plain (plain_T (xs := as.map V.ref)) (fun i H' => Same H H' ∧ ∃ ls, H' D = some (.lst (ls.map V.ref)) ∧ ls.length = i ∧ ls.Nodup ∧ D ∉ ls ∧ (∀ a ∈ ls, H a = none) ∧ ∀ (j : Nat) (a : Addr) (r : List (Option Int)), ls[j]? = some a → rows[j]? = some r → H' a = some (.lst (r.map pV)))
      ⟨same_new hD, [], upd_same, rfl, .nil, (fun m => nomatch m), (fun a m => nomatch m), fun j a r z => nomatch z⟩ (fun i H' z => Same.sqT z.1 y2) ?_ ?_
    · rintro i x H2 hx ⟨s2, ls, gD, hl, nd, nD, nH, at_⟩
      rw [List.getElem?_map] at hx
      obtain ⟨a, ha, rfl⟩ := Option.map_eq_some_iff.mp hx
      have hi : i < as.length := by exact (List.getElem?_eq_some_iff.mp ha).1
      have hr : rows[i]? = some rows[i] := List.getElem?_eq_getElem (by omega)
      simp only [lcT, wipe, gName, List.set_cons_zero, List.set_cons_succ]
      refine ⟨trivial, ?_⟩
      simp only [tYes, if_true]
      walk_at "1"
      refine ⟨_, .inr (Same.sqT s2 (y6 i a _ ha hr)), fun l nl => ?_⟩
      have lD : l ≠ D := by rintro rfl; rw [gD] at nl; cases nl
      have lls : l ∉ ls := fun m => by
        obtain ⟨j, lt, e⟩ := List.mem_iff_getElem.mp m
        have := at_ j l rows[j] (by rw [← e]; exact List.getElem?_eq_getElem lt) (List.getElem?_eq_getElem (by omega))
        rw [this] at nl
        cases nl
      have nHl : H l = none := by
        cases e : H l with
        | none => rfl
        | some o => rw [s2 _ _ e] at nl; cases nl
      have s3 : Same H2 (upd H2 l (.lst (rows[i].map pV))) := same_new nl
      have gl : upd H2 l (.lst (rows[i].map pV)) l = some (.lst (rows[i].map pV)) := upd_same
      generalize upd H2 l (.lst (rows[i].map pV)) = H3 at *
      refine ⟨_, s3 _ _ gD, ?_, (Off.trans (Same.off (s2.trans s3)) off_upd).same hD, ls ++ [l], by rw [upd_same]; simp, by simp [hl], ?_, ?_, ?_, ?_⟩
      · rw [List.length_map, hl]
        exact Nat.lt_of_lt_of_le (show i < 61 by omega) (by decide)
      · rw [List.nodup_append]
        refine ⟨nd, by simp, fun x hx y hy => ?_⟩
        rw [List.mem_singleton.mp hy]
        rintro rfl
        exact lls hx
      · rintro m
        rcases List.mem_append.mp m with m | m
        · exact nD m
        · exact lD (List.mem_singleton.mp m).symm
      · rintro x m
        rcases List.mem_append.mp m with m | m
        · exact nH x m
        · rw [List.mem_singleton.mp m]; exact nHl
      · rintro j x r z1 z2
        have xD : x ≠ D := by
          rintro rfl
          rcases List.mem_append.mp (List.mem_of_getElem? z1) with m | m
          · exact nD m
          · exact lD (List.mem_singleton.mp m).symm
        rw [upd_ne xD]
        by_cases e : j < ls.length
        · rw [List.getElem?_append_left e] at z1
          exact s3 _ _ (at_ j x r z1 z2)
        · have e2 : j = ls.length := by
            have := (List.getElem?_eq_some_iff.mp z1).1
            simp at this
            omega
          subst e2
          rw [List.getElem?_append_right (Nat.le_refl _), Nat.sub_self] at z1
          cases z1
          rw [hl, hr] at z2
          cases z2
          exact gl
    · rintro H2 ⟨s2, ls, gD, hl, nd, nD, nH, at_⟩
      rw [List.length_map] at hl
      exact q D ls H2 s2 hD gD ⟨by omega, at_⟩ nd nD nH
theorem make_yd {H : Hp} {E : XK} {rows : List (List (Option Int))} {v : V} {Q : Addr → Hp → Prop} (hr : RowV K H v rows) (ho : RowsOk rows) (q : ∀ x H', Same H H' → H x = none → Yd K H' x rows → Q x H') :
    ∀ x dx, H x = none → H dx = none → dx ≠ x → sp_Yard_init K [.ref x, v] (upd (upd H dx (.own x)) x (.ins (He.ga K "Yard") dx [])) (fun v H2 => v = .non ∧ Q x H2) E := by
  intro x dx hx hdx hne
  have s1 : Same H (upd H dx (.own x)) := same_new hdx
  have hx1 : upd H dx (.own x) x = none := by rw [upd_ne hne.symm]; exact hx
  have s2 : Same (upd H dx (.own x)) (upd (upd H dx (.own x)) x (.ins (He.ga K "Yard") dx [])) := same_new hx1
  refine ⟨x, dx, rfl, upd_same, .inl ⟨rows, hr.same (s1.trans s2), ho, fun H' o hy => ⟨rfl, q x H' ?_ hx hy⟩⟩⟩
  exact Off.same (Off.trans (Same.off (s1.trans s2)) o) hx
theorem setP_ok {rows : List (List (Option Int))} {k i : Nat} {o : Option Int} (h : RowsOk rows) (ho : okP o = true) : RowsOk (setP rows k i o) := by
  refine ⟨by simp [setP, h.1], by simp [setP, h.2.1], fun r m => ?_⟩
  unfold setP at m
  rcases List.mem_or_eq_of_mem_set m with m | rfl
  · exact h.2.2 r m
  · by_cases e : k < rows.length
    · rw [List.getElem?_eq_getElem e, Option.getD_some]
      obtain ⟨a, b⟩ := h.2.2 rows[k] (List.getElem_mem e)
      refine ⟨by rw [List.length_set]; exact a, List.all_eq_true.mpr fun p m => ?_⟩
      rcases List.mem_or_eq_of_mem_set m with m | rfl
      · exact List.all_eq_true.mp b p m
      · exact ho
    · rw [List.set_eq_of_length_le (by omega)] at m
      exact h.2.2 _ m
include F in
theorem read_Yard_with_price (h : sp_Yard_with_price K vs H Q E) : t_Yard_with_price K E { nx := fun _ H' => Q .non H', rt := Q } (start ["self", "crate", "way", "price", "rows"] vs) H := by
  match vs, h with
  | [_, c, w, x], ⟨p, rows, a, b, d, rfl, hy, ha, hb, hd, r1, r2, r3, q⟩ =>
    unfold t_Yard_with_price sp_check_crate sp_check_way sp_check_price_or_bar
    walk_at "s"
    walk_at "1"
    refine ⟨p, rows, a, rfl, hy, ha, fun e => ?_, r1⟩
    show tSeq _ _ _ _ _
    walk_at "s"
    walk_at "1"
    refine ⟨b, hb, fun e2 => ?_, r2 e⟩
    show tSeq _ _ _ _ _
    walk_at "s"
    walk_at "1"
    refine ⟨d, hd, fun e3 => ?_, r3 e e2⟩
    · show tSeq _ _ _ _ _
      obtain ⟨k, hk, rfl⟩ := isIn_inv e
      obtain ⟨i, j, h1, h2, h3, rfl⟩ := isWy_inv e2
      obtain ⟨o, rfl, ho⟩ : ∃ o, x = pV o ∧ okP o = true := by
        cases x with
        | non => exact ⟨none, rfl, rfl⟩
        | int z => exact ⟨some z, rfl, e3⟩
        | _ => cases e3
      have rok : RowsOk rows := by
        obtain ⟨_, _, _, _, _, _, l1, l2, _, l3⟩ := id hy
        exact ⟨l2, l1, l3⟩
      obtain ⟨dx, t, as, y1, _⟩ := id hy
      walk_at "s"
      walk_at "1"
      simp only [tMeth]
      walk_at "1"
      refine ⟨p, dx, _, rfl, y1, by rfl, p, rows, rfl, hy, fun l ls H1 s1 nl gl hR nd nlls nls => ?_⟩
      walk_at "s"
      walk_at "1"
      have hkl : k < ls.length := by rw [hR.1]; exact hk
      obtain ⟨la, hla⟩ : ∃ la, ls[k]? = some la := ⟨_, List.getElem?_eq_getElem hkl⟩
      have hw := wayI_lt h1 h2 h3
      have hr6 := (rok.2.2 rows[k] (List.getElem_mem hk)).1
      have hrk : rows[k]? = some rows[k] := List.getElem?_eq_getElem hk
      have gla := hR.2 k la _ hla hrk
      refine ⟨_, .ref la, .inl (.inl (.inl gl)), at_nat (by rw [List.getElem?_map, hla]; rfl), ?_⟩
      refine col_of h1 h2 h3 ?_
      refine ⟨la, _, _, wayI i j, rfl, rfl, gla, ?_, ?_⟩
      · unfold ixN
        rw [List.length_map, hr6, if_pos (by omega), if_pos (by omega), Int.toNat_natCast]
      · have of : Off la H1 (upd H1 la (.lst ((rows[k].map pV).set (wayI i j) (pV o)))) := off_upd
        have gla2 : upd H1 la (.lst ((rows[k].map pV).set (wayI i j) (pV o))) la = some (.lst ((rows[k].set (wayI i j) o).map pV)) := by rw [upd_same, List.map_set]
        have sH : Same H (upd H1 la (.lst ((rows[k].map pV).set (wayI i j) (pV o)))) := (Off.trans (Same.off s1) of).same (nls la (List.mem_of_getElem? hla))
        have gl2 : upd H1 la (.lst ((rows[k].map pV).set (wayI i j) (pV o))) l = some (.lst (ls.map V.ref)) := of _ _ (fun z => nlls (z ▸ List.mem_of_getElem? hla)) gl
        generalize upd H1 la (.lst ((rows[k].map pV).set (wayI i j) (pV o))) = H2 at *
        have hv : RowV K H2 (.ref l) (setP rows k (wayI i j) o) := by
          refine ⟨l, _, rfl, .inl (.inl (.inl gl2)), by simp [setP, hR.1], fun m v r z1 z2 => ?_⟩
          rw [List.getElem?_map] at z1
          obtain ⟨am, ham, rfl⟩ := Option.map_eq_some_iff.mp z1
          refine ⟨am, rfl, .inl (.inl (.inl ?_))⟩
          unfold setP at z2
          by_cases z : m = k
          · subst z
            rw [hla] at ham
            cases ham
            rw [List.getElem?_set_self hk, hrk] at z2
            cases z2
            exact gla2
          · rw [List.getElem?_set_ne (Ne.symm z)] at z2
            have ne : am ≠ la := fun w => z ((List.getElem?_inj (by rw [hR.1]; exact (List.getElem?_eq_some_iff.mp z2).1) nd).mp (by rw [ham, hla, w]))
            exact of _ _ ne (hR.2 m am r ham z2)
        walk_at "1"
        simp only [tMake]
        walk_at "1"
        refine make_yd hv (setP_ok rok ho) fun z H3 s3 nz hz => q k i j o hk h1 h2 h3 ho rfl rfl rfl z H3 (sH.trans s3) ?_ hz
        cases e4 : H z with
        | none => rfl
        | some u => rw [sH _ _ e4] at nz; cases nz
end
end U
namespace U
open PySem PySem.Spec PyProof.Rows L2

/-! ### rows of prices as data, in lists and in tuples -/
def pD : Option Int → PyData
  | none => .none
  | some i => .int i
def gridL (rows : List (List (Option Int))) : PyData := .list (rows.map fun r => .list (r.map pD))
def gridU (rows : List (List (Option Int))) : PyData := .tuple (rows.map fun r => .tuple (r.map pD))
theorem pD_eqv (a b : Option Int) : PyData.eqv (pD a) (pD b) = decide (a = b) := by
  cases a <;> cases b <;> simp [pD, PyData.eqv] <;> rfl
theorem all_eqv {α : Type} [DecidableEq α] (f : α → PyData) (hf : ∀ a b, PyData.eqv (f a) (f b) = decide (a = b)) : ∀ as bs : List α, PyData.eqvAll (as.map f) (bs.map f) = decide (as = bs)
  | [], [] => by simp [PyData.eqvAll]
  | [], _ :: _ => by simp [PyData.eqvAll]
  | _ :: _, [] => by simp [PyData.eqvAll]
  | a :: r, b :: s => by
    simp only [List.map_cons, PyData.eqvAll, hf, all_eqv f hf r s, List.cons.injEq]
    exact (Bool.decide_and ..).symm
theorem gridL_eqv (a b : List (List (Option Int))) : PyData.eqv (gridL a) (gridL b) = decide (a = b) := by
  unfold gridL
  rw [PyData.eqv]
  refine all_eqv (fun r : List (Option Int) => PyData.list (r.map pD)) (fun r s => ?_) a b
  rw [PyData.eqv]
  exact all_eqv pD pD_eqv r s
theorem gridU_eqv (a b : List (List (Option Int))) : PyData.eqv (gridU a) (gridU b) = decide (a = b) := by
  unfold gridU
  rw [PyData.eqv]
  refine all_eqv (fun r : List (Option Int) => PyData.tuple (r.map pD)) (fun r s => ?_) a b
  rw [PyData.eqv]
  exact all_eqv pD pD_eqv r s
theorem line_flat (r : List (Option Int)) : PyData.canLayAll0 (r.map pD) = true ∧ PyData.depthAll (r.map pD) = 0 := by
  induction r with
  | nil => exact ⟨by simp [PyData.canLayAll0], by simp [PyData.depthAll]⟩
  | cons o t ih => cases o <;> simp [PyData.canLayAll0, PyData.depthAll, pD, PyData.canLay0, PyData.depth, ih]
theorem gridL_shaped (rows : List (List (Option Int))) : SeqAt.shaped (gridL rows) = true := by
  have all : PyData.canLayAll0 (rows.map fun r => .list (r.map pD)) = true ∧ PyData.depthAll (rows.map fun r => .list (r.map pD)) ≤ 1 := by
    induction rows with
    | nil => exact ⟨by simp [PyData.canLayAll0], by simp [PyData.depthAll]⟩
    | cons r t ih => simp [PyData.canLayAll0, PyData.canLay0, PyData.depthAll, PyData.depth, ih, line_flat r]
  unfold SeqAt.shaped gridL
  rw [PyData.canLay0, all.1, PyData.depth]
  refine decide_eq_true (by omega)
theorem gridU_shaped (rows : List (List (Option Int))) : SeqAt.shaped (gridU rows) = true := by
  have all : PyData.canLayAll0 (rows.map fun r => .tuple (r.map pD)) = true ∧ PyData.depthAll (rows.map fun r => .tuple (r.map pD)) ≤ 1 := by
    induction rows with
    | nil => exact ⟨by simp [PyData.canLayAll0], by simp [PyData.depthAll]⟩
    | cons r t ih => simp [PyData.canLayAll0, PyData.canLay0, PyData.depthAll, PyData.depth, ih, line_flat r]
  unfold SeqAt.shaped gridU
  rw [PyData.canLay0, all.1, PyData.depth]
  refine decide_eq_true (by omega)
/-- a list of lists of prices -/
def GrL (K : PySem.W.Frag) (H : Hp) (p : Addr) (rows : List (List (Option Int))) : Prop := ∃ as : List Addr, SqL K H p (as.map V.ref) ∧ as.length = rows.length ∧
  ∀ (i : Nat) (a : Addr) (r : List (Option Int)), as[i]? = some a → rows[i]? = some r → SqL K H a (r.map pV)
section
variable {K : PySem.W.Frag} {H H' : Hp} {Q : VK}
theorem GrL.same {p : Addr} {rows : List (List (Option Int))} (e : Same H H') (h : GrL K H p rows) : GrL K H' p rows := by
  obtain ⟨as, h1, h2, h3⟩ := h
  exact ⟨as, Same.seq e h1, h2, fun i a r z1 z2 => Same.seq e (h3 i a r z1 z2)⟩
theorem dp_gridL {p : Addr} {rows : List (List (Option Int))} (h : GrL K H p rows) : Dp K H (.ref p) (gridL rows) := by
  obtain ⟨as, h1, h2, h3⟩ := h
  refine .lst h1 ?_
  clear h1
  induction as generalizing rows with
  | nil =>
    cases rows with
    | nil => exact .nil
    | cons r t => cases h2
  | cons a as ih =>
    cases rows with
    | nil => cases h2
    | cons r t =>
      refine .cons (.lst (h3 0 a r rfl rfl) ?_) (ih (Nat.succ.inj h2) fun j x y z1 z2 => h3 (j + 1) x y z1 z2)
      clear ih h2 h3
      induction r with
      | nil => exact .nil
      | cons o t ih =>
        refine .cons ?_ ih
        cases o with
        | none => exact .non
        | some i => exact .int i
theorem dp_gridU {p : Addr} {as : List Addr} {rows : List (List (Option Int))} (h1 : SqT K H p (as.map V.ref)) (h2 : as.length = rows.length) (h3 : ∀ (i : Nat) (a : Addr) (r : List (Option Int)), as[i]? = some a → rows[i]? = some r → SqT K H a (r.map pV)) : Dp K H (.ref p) (gridU rows) := by
  refine .tup h1 ?_
  clear h1
  induction as generalizing rows with
  | nil =>
    cases rows with
    | nil => exact .nil
    | cons r t => cases h2
  | cons a as ih =>
    cases rows with
    | nil => cases h2
    | cons r t =>
      refine .cons (.tup (h3 0 a r rfl rfl) ?_) (ih (Nat.succ.inj h2) fun j x y z1 z2 => h3 (j + 1) x y z1 z2)
      clear ih h2 h3
      induction r with
      | nil => exact .nil
      | cons o t ih =>
        refine .cons ?_ ih
        cases o with
        | none => exact .non
        | some i => exact .int i
/-- lists of lists of prices, told apart -/
theorem eq_gr {p q : Addr} {r1 r2 : List (List (Option Int))} (h1 : GrL K H p r1) (h2 : GrL K H q r2) (k : Q (.bl (decide (r1 = r2))) H) : uEq K (.ref p) (.ref q) H Q := by
  refine ⟨_, _, dp_gridL h1, dp_gridL h2, gridL_shaped _, gridL_shaped _, ?_⟩
  rw [gridL_eqv]
  exact k
theorem ne_gr {p q : Addr} {r1 r2 : List (List (Option Int))} (h1 : GrL K H p r1) (h2 : GrL K H q r2) (k : Q (.bl (!decide (r1 = r2))) H) : uNe K (.ref p) (.ref q) H Q := by
  refine ⟨_, _, dp_gridL h1, dp_gridL h2, gridL_shaped _, gridL_shaped _, ?_⟩
  rw [gridL_eqv]
  exact k
end
end U
namespace U
open PySem PySem.Spec PyProof.Rows L2

/-! ### other yards made of one -/
/-- a way, by its places -/
def waysN : List (Nat × Nat) := [(0, 1), (0, 2), (1, 0), (1, 2), (2, 0), (2, 1)]
def okW (w : Nat × Nat) : Prop := w.1 < 3 ∧ w.2 < 3 ∧ w.1 ≠ w.2
/-- each way has the price of another one -/
def turnR (rows : List (List (Option Int))) (ws : List (Nat × Nat)) : List (List (Option Int)) := rows.map fun r => ws.map fun w => (r[wayI w.1 w.2]?).getD none
def backL : List (Nat × Nat) := waysN.map fun w => (w.2, w.1)
/-- where a place stands among three -/
def invN (n : List Nat) (d : Nat) : Nat := n.findIdx (· == d)
def nameL (n : List Nat) : List (Nat × Nat) := waysN.map fun w => (invN n w.1, invN n w.2)
def permsN : List (List Nat) := [[0, 1, 2], [0, 2, 1], [1, 0, 2], [1, 2, 0], [2, 0, 1], [2, 1, 0]]
def priceT : Option Int → Str
  | none => "-"
  | some i => ((toString i : String) : Str)
def lineT (r : List (Option Int)) : Str := Txt.join " " (r.map priceT)
def gridT (rows : List (List (Option Int))) : Str := Txt.join "\n" (rows.map lineT)
def sp_Yard_with_prices_of (K : PySem.W.Frag) : Sp := sp2 fun y l H Q _ => ∃ p rows q ws, y = .ref p ∧ Yd K H p rows ∧ l = .ref q ∧ SqL K H q (ws.map fun w => V.str (wd [w.1, w.2])) ∧ ws.length = 6 ∧ (∀ w ∈ ws, okW w) ∧
  ∀ z H', Same H H' → H z = none → Yd K H' z (turnR rows ws) → Q (.ref z) H'
def sp_Yard_backwards (K : PySem.W.Frag) : Sp := sp1 fun y H Q _ => ∃ p rows, y = .ref p ∧ Yd K H p rows ∧ ∀ z H', Same H H' → H z = none → Yd K H' z (turnR rows backL) → Q (.ref z) H'
def sp_Yard_smallest (K : PySem.W.Frag) : Sp := sp2 fun y c H Q _ => ∃ p rows, ∃ k : Nat, y = .ref p ∧ Yd K H p rows ∧ c = .int (k : Nat) ∧ 1 ≤ k ∧ k ≤ rows.length ∧ ∀ z H', Same H H' → H z = none → Yd K H' z (rows.drop (rows.length - k)) → Q (.ref z) H'
def sp_Yard_even (K : PySem.W.Frag) : Sp := sp3 fun c n x H Q _ => ∃ (k : Nat) (i : Int), c = .ref (He.ga K "Yard") ∧ n = .int (k : Nat) ∧ x = .int i ∧ 1 ≤ k ∧ k ≤ 60 ∧ 0 < i ∧ ∀ z H', Same H H' → H z = none → Yd K H' z (List.replicate k (List.replicate 6 (some i))) → Q (.ref z) H'
def sp__is_place_order (K : PySem.W.Frag) : Sp := sp1 fun x H Q _ => ∃ n ∈ permsN, x = .str (wd n) ∧ ∀ H', Same H H' → Q (.bl true) H'
def sp_Yard_renamed (K : PySem.W.Frag) : Sp := sp2 fun y x H Q _ => ∃ p rows, ∃ n ∈ permsN, y = .ref p ∧ Yd K H p rows ∧ x = .str (wd n) ∧ ∀ z H', Same H H' → H z = none → Yd K H' z (turnR rows (nameL n)) → Q (.ref z) H'
def sp_Yard_eq (K : PySem.W.Frag) : Sp := sp2 fun x y H Q _ => ∃ p rows, x = .ref p ∧ Yd K H p rows ∧ ((∃ q rows2, y = .ref q ∧ Yd K H q rows2 ∧ Q (.bl (decide (rows = rows2))) H) ∨ ∃ a, Is K H y a ∧ a ≠ .yard ∧ Q (.bl false) H)
def lowQ : Option Int → Bool
  | none => true
  | some i => decide (0 < i ∧ i < 10 ^ 32)
def sp__price_text (_K : PySem.W.Frag) : Sp := sp1 fun x H Q _ => ∃ o, x = pV o ∧ lowQ o = true ∧ Q (.str (priceT o)) H
def sp_Yard_str (K : PySem.W.Frag) : Sp := sp1 fun x H Q _ => ∃ p rows, x = .ref p ∧ Yd K H p rows ∧ (∀ r ∈ rows, r.all lowQ = true) ∧ ∀ H', Same H H' → Q (.str (gridT rows)) H'
def t_Yard_with_prices_of (K : PySem.W.Frag) (E : XK) : TS := (tSeq (tAsg (tLc (iSeq K (tVar 1)) (gName 3) tYes (tOp (rCol K) (tC (.ref (He.ga K "COLUMNS"))) (tVar 3)) [3]) (gName 2)) (tRet (tMake (He.ga K "Yard") (sp_Yard_init K) [] E (tCons (tLc (iSeq K (tFld K (tVar 0) "_rows")) (gName 4) tYes (tLc (iSeq K (tVar 2)) (gName 5) tYes (tOp (uIx K) (tVar 4) (tVar 5)) [5]) [4]) tNil))))
def t_Yard_backwards (K : PySem.W.Frag) (E : XK) : TS := (tRet (tMeth (He.ga K "Yard") "_with_prices_of" (sp_Yard_with_prices_of K) [] E (tVar 0) (tCons (tLc (iSeq K (tC (.ref (He.ga K "WAYS")))) (gName 1) tYes (tRevS (tVar 1)) [1]) tNil)))
def t_Yard_smallest (K : PySem.W.Frag) (E : XK) : TS := (tSeq (tIfS (tNot (tB (tFn (sp_is_integer_within K) E (tCons (tVar 1) (tCons (tC (.int 1)) (tCons (tCB (rLenO (He.ga K "Yard") (sp_Yard_len K)) (tCons (tVar 0) tNil)) tNil)))))) (tRse K "InvalidCount" "value" E (tCons (tVar 1) tNil)) tNext) (tRet (tMake (He.ga K "Yard") (sp_Yard_init K) [] E (tCons (tSl (rSlA K) (tFld K (tVar 0) "_rows") (tPart (tOp uSub (tCB (rLenO (He.ga K "Yard") (sp_Yard_len K)) (tCons (tVar 0) tNil)) (tVar 1))) tNoPart) tNil))))
def t_Yard_even (K : PySem.W.Frag) (E : XK) : TS := (tSeq (tIfS (tNot (tB (tFn (sp_is_integer_within K) E (tCons (tVar 1) (tCons (tC (.int 1)) (tCons (tC (.int 60)) tNil)))))) (tRse K "InvalidCount" "value" E (tCons (tVar 1) tNil)) tNext) (tSeq (tIfS (tNot (tB (tFn (sp_is_price K) E (tCons (tVar 2) tNil)))) (tRse K "InvalidPrice" "value" E (tCons (tVar 2) tNil)) tNext) (tRet (tMakeL 0 (He.ga K "Yard") (sp_Yard_init K) E (tCons (tOp uMul (tLst (tCons (tOp uMul (tLst (tCons (tVar 2) tNil)) (tCB (uLen K) (tCons (tC (.ref (He.ga K "WAYS"))) tNil))) tNil)) (tVar 1)) tNil)))))
def t__is_place_order (K : PySem.W.Frag) (E : XK) : TS := (tRet (tAndV (tCB (uIsi K) (tCons (tVar 0) (tCons (tC (.ty "str")) tNil))) (tOp (uEq K) (tCB rSortTx (tCons (tVar 0) tNil)) (tCB (uLst K) (tCons (tC (.ref (He.ga K "PLACES"))) tNil)))))
def t_Yard_renamed (K : PySem.W.Frag) (E : XK) : TS := (tSeq (tIfS (tNot (tB (tFn (sp__is_place_order K) E (tCons (tVar 1) tNil)))) (tRse K "InvalidPlace" "value" E (tCons (tVar 1) tNil)) tNext) (tSeq (tAsg (tDictZip K (tCons (tVar 1) (tCons (tC (.ref (He.ga K "PLACES"))) tNil))) (gName 2)) (tRet (tMeth (He.ga K "Yard") "_with_prices_of" (sp_Yard_with_prices_of K) [] E (tVar 0) (tCons (tLc (iSeq K (tC (.ref (He.ga K "WAYS")))) (gName 3) tYes (tOp uAdd (tDGet (tVar 2) (tOp (uIx K) (tVar 3) (tC (.int 0)))) (tDGet (tVar 2) (tOp (uIx K) (tVar 3) (tC (.int 1))))) [3]) tNil)))))
def t_Yard_eq (K : PySem.W.Frag) (E : XK) : TS := (tRet (tAndV (tCB (uIsi K) (tCons (tVar 1) (tCons (tC (.ref (He.ga K "Yard"))) tNil))) (tOp (uEq K) (tFld K (tVar 0) "_rows") (tFld K (tVar 1) "_rows"))))
def t__price_text (K : PySem.W.Frag) (E : XK) : TS := (tRet (tIf (tTest (tOp uIs (tVar 0) (tC .non))) (tC (.str "-")) (tCB rStrI (tCons (tVar 0) tNil))))
def t_Yard_str (K : PySem.W.Frag) (E : XK) : TS := (tRet (tJoin K (tC (.str "\n")) (tLc (iSeq K (tFld K (tVar 0) "_rows")) (gName 1) tYes (tJoin K (tC (.str " ")) (tLc (iSeq K (tVar 1)) (gName 2) tYes (tFn (sp__price_text K) E0 (tCons (tVar 2) tNil)) [2])) [1])))
section
variable {K : PySem.W.Frag} (F : KF K) {vs : List V} {H : Hp} {Q : VK} {E : XK}
local macro_rules | `(tactic| walk_at "w") => `(tactic| try simp only [turnE, lcT, Snoc, tRet, tRetN, tAndV, tOrV, tNotV, tCB, tCons, tVar, tNil, tC, tOp, tSeq, tAsg, gName, gSub, tIfS, tDrop, tFn, tTup, tLst, tNext, tB, tTest, tNot, tAnd, tOr, tIf, tChain, tUn, rU, tFld, tPart, tNoPart, L2.tSl, tBM, tPar, tPar3, tTruth, tDNewK,
  L2.start, List.map_cons, List.map_nil, List.length_cons, List.length_nil, List.replicate_succ, List.replicate_zero, List.append_nil, List.nil_append, List.cons_append, List.singleton_append, Nat.sub_self, Nat.zero_add, Nat.reduceAdd, Nat.reduceSub,
  List.getElem?_cons_zero, List.getElem?_cons_succ, List.set_cons_zero, List.set_cons_succ, Option.some.injEq, exists_eq_left, exists_eq_left', V.int.injEq, V.bl.injEq, V.str.injEq, V.ref.injEq,
  uAdd_int, uAdd_str, uSub_int, uMul_int, uMul_str, uDiv_int, uMod_int, uPow_int, uLt_int, uLe_int, uGt_int, uGe_int, uIs_non, uNis_non, uIs_bl, uNis_bl, sp1, sp2, sp3, sp4, uEq_int, uEq_str, uNe_int, uNe_str, uSl_str, uLen_str, decide_eq_true_eq])
local macro_rules | `(tactic| walk_at "1") => `(tactic| try simp only [turnE, lcT, Snoc, tRet, tRetN, tAndV, tOrV, tNotV, tCB, tCons, tVar, tNil, tC, tOp, tAsg, gName, gSub, tIfS, tDrop, tFn, tTup, tLst, tNext, tB, tTest, tNot, tAnd, tOr, tIf, tChain, tUn, rU, tFld, tPart, tNoPart, L2.tSl, tBM, tPar, tPar3, tTruth, tDNewK,
  L2.start, List.map_cons, List.map_nil, List.length_cons, List.length_nil, List.replicate_succ, List.replicate_zero, List.append_nil, List.nil_append, List.cons_append, List.singleton_append, Nat.sub_self, Nat.zero_add, Nat.reduceAdd, Nat.reduceSub,
  List.getElem?_cons_zero, List.getElem?_cons_succ, List.set_cons_zero, List.set_cons_succ, Option.some.injEq, exists_eq_left, exists_eq_left', V.int.injEq, V.bl.injEq, V.str.injEq, V.ref.injEq,
  uAdd_int, uAdd_str, uSub_int, uMul_int, uMul_str, uDiv_int, uMod_int, uPow_int, uLt_int, uLe_int, uGt_int, uGe_int, uIs_non, uNis_non, uIs_bl, uNis_bl, sp1, sp2, sp3, sp4, uEq_int, uEq_str, uNe_int, uNe_str, uSl_str, uLen_str, decide_eq_true_eq])
local macro_rules | `(tactic| walk_at "s") => `(tactic| ((try dsimp only [turnE]); with_reducible refine seq_ ?_))

theorem Yd.ok {p : Addr} {rows : List (List (Option Int))} (h : Yd K H p rows) : RowsOk rows := by
  obtain ⟨_, _, _, _, _, _, l1, l2, _, l3⟩ := h
  exact ⟨l2, l1, l3⟩
theorem turnR_ok {rows : List (List (Option Int))} {ws : List (Nat × Nat)} (h : RowsOk rows) (h6 : ws.length = 6) (hw : ∀ w ∈ ws, okW w) : RowsOk (turnR rows ws) := by
  refine ⟨by simp [turnR, h.1], by simp [turnR, h.2.1], fun r m => ?_⟩
  obtain ⟨r0, m0, rfl⟩ := List.mem_map.mp m
  obtain ⟨a, b⟩ := h.2.2 r0 m0
  refine ⟨by rw [List.length_map]; exact h6, List.all_eq_true.mpr fun o m => ?_⟩
  obtain ⟨w, mw, rfl⟩ := List.mem_map.mp m
  have := wayI_lt (hw w mw).1 (hw w mw).2.1 (hw w mw).2.2
  rw [List.getElem?_eq_getElem (by omega)]
  exact List.all_eq_true.mp b _ (List.getElem_mem _)
theorem make_yd2 {rows : List (List (Option Int))} {v : V} {R : VK} (hr : RowV K H v rows) (ho : RowsOk rows) (q : ∀ x H', Same H H' → H x = none → Yd K H' x rows → R (.ref x) H') :
    ∀ x dx, H x = none → H dx = none → dx ≠ x → sp_Yard_init K [.ref x, v] (upd (upd H dx (.own x)) x (.ins (He.ga K "Yard") dx [])) (fun v H2 => v = .non ∧ R (.ref x) H2) E := make_yd (Q := fun x H' => R (.ref x) H') hr ho q
/-- a comprehension whose turns make new lists -/
theorem lc_fresh {J : It} {G : Hp → Prop} {xs : List V} (P : Plain J xs G) (f : Nat → List V) {te : TE} {j : Nat} {σ : L2.St} {H : Hp} {D : Addr} {Qd : Hp → Prop} (hD : H D = none) (hl : xs.length ≤ 1000) (hG : ∀ H', Same H H' → G H')
    (hs : ∀ i x H2 (Q : VK), xs[i]? = some x → Same H H2 → (∀ l H3, H2 l = none → Same H2 H3 → H3 l = some (.lst (f i)) → Q (.ref l) H3) → te (σ.set j (some x)) H2 Q)
    (hd : ∀ (H2 : Hp) (ls : List Addr), Same H H2 → ls.length = xs.length → H2 D = some (.lst (ls.map V.ref)) → (∀ (i : Nat) (l : Addr), ls[i]? = some l → H2 l = some (.lst (f i))) → ls.Nodup → D ∉ ls → (∀ l ∈ ls, H l = none) → Qd H2) : LcB J (gName j) tYes te [j] σ H D Qd := by
  refine lc_plain P (fun i H' => Same H H' ∧ ∃ ls : List Addr, H' D = some (.lst (ls.map V.ref)) ∧ ls.length = i ∧ D ∉ ls ∧ (∀ (j : Nat) (a : Addr), ls[j]? = some a → H' a = some (.lst (f j))) ∧ ls.Nodup ∧ ∀ l ∈ ls, H l = none)
    ⟨same_new hD, [], upd_same, rfl, (fun m => nomatch m), (fun j a z => nomatch z), .nil, fun l m => nomatch m⟩ (fun i H' z => hG _ z.1) ?_ (fun H2 ⟨s2, ls, gD, hl, nD, at_, nd, fr⟩ => hd H2 ls s2 hl gD at_ nd nD fr)
  rintro i x H2 hx ⟨s2, ls, gD, hll, nD, at_, nd, fr⟩
  have hi : i < xs.length := (List.getElem?_eq_some_iff.mp hx).1
  show wipe _ [j] = wipe σ [j] ∧ _
  refine ⟨by simp only [wipe, List.set_set], ?_⟩
  show te ((σ.set j none).set j (some x)) H2 _
  rw [List.set_set]
  refine hs i x H2 _ hx s2 fun l H3 nl s3 gl => ?_
  have lD : l ≠ D := by rintro rfl; rw [gD] at nl; cases nl
  have lls : l ∉ ls := fun m => by
    obtain ⟨k, lt, e⟩ := List.mem_iff_getElem.mp m
    have := at_ k l (by rw [← e]; exact List.getElem?_eq_getElem lt)
    rw [this] at nl
    cases nl
  refine ⟨_, s3 _ _ gD, ?_, (Off.trans (Same.off (s2.trans s3)) off_upd).same hD, ls ++ [l], by rw [upd_same]; simp, by simp [hll], ?_, ?_, ?_, ?_⟩
  · rw [List.length_map, hll]
    exact Nat.lt_of_lt_of_le (show i < 1001 by omega) (by decide)
  · rintro m
    rcases List.mem_append.mp m with m | m
    · exact nD m
    · exact lD (List.mem_singleton.mp m).symm
  · rintro k y z1
    have yD : y ≠ D := by
      rintro rfl
      rcases List.mem_append.mp (List.mem_of_getElem? z1) with m | m
      · exact nD m
      · exact lD (List.mem_singleton.mp m).symm
    rw [upd_ne yD]
    by_cases e : k < ls.length
    · rw [List.getElem?_append_left e] at z1
      exact s3 _ _ (at_ k y z1)
    · have e2 : k = ls.length := by
        have := (List.getElem?_eq_some_iff.mp z1).1
        simp at this
        omega
      subst e2
      rw [List.getElem?_append_right (Nat.le_refl _), Nat.sub_self] at z1
      cases z1
      rw [← hll] at gl
      exact gl
  · rw [List.nodup_append]
    refine ⟨nd, by simp, fun x hx y hy => ?_⟩
    rw [List.mem_singleton.mp hy]
    rintro rfl
    exact lls hx
  · intro y m
    rcases List.mem_append.mp m with m | m
    · exact fr y m
    · rw [List.mem_singleton.mp m]
      cases e : H l with
      | none => rfl
      | some o => rw [s2 _ _ e] at nl; cases nl
include F in
theorem read_Yard_with_prices_of (h : sp_Yard_with_prices_of K vs H Q E) : t_Yard_with_prices_of K E { nx := fun _ H' => Q .non H', rt := Q } (start ["self", "ways", "columns", "way", "row", "column"] vs) H := by
  match vs, h with
  | [_, _], ⟨p, rows, l, ws, rfl, hy, rfl, hs, h6, hw, q⟩ =>
    unfold t_Yard_with_prices_of
    obtain ⟨dx, t, as, y1, y2, y3, y4, y5, y6, y7⟩ := id hy
    walk_at "s"
    show tLc _ _ _ _ _ _ _ _
    refine tLc_seq (p := l) (.inl hs) (tVar_eq rfl) fun J G P hG C nC => ?_
    refine lc_grow P (fun acc _ => acc = (ws.take acc.length).map fun w => V.int (wayI w.1 w.2 : Nat)) nC (by rw [List.length_map, h6]; decide) hG (fun _ _ => rfl) (fun _ _ _ _ _ _ h => h) ?_ ?_
    · rintro i x acc H2 Q' hx s2 hl ha k
      rw [List.getElem?_map] at hx
      obtain ⟨w, hwi, rfl⟩ := Option.map_eq_some_iff.mp hx
      obtain ⟨w1, w2, w3⟩ := hw w (List.mem_of_getElem? hwi)
      walk_at "1"
      exact col_of w1 w2 w3 (k _ _ (Same.refl _) (take_snoc (fun w : Nat × Nat => V.int (wayI w.1 w.2 : Nat)) ha hl hwi))
    · rintro acc H2 hl s2 gC ha
      rw [List.length_map] at hl
      rw [ha, hl, List.take_length] at gC
      walk_at "1"
      simp only [tRet, tMake]
      walk_at "1"
      refine tLc_inT ?_
      walk_at "1"
      refine ⟨p, _, dx, _, .ref t, rfl, s2 _ _ y1, F.cl, F.na, rfl, t, rfl, ⟨_, Same.sqT s2 y2⟩, fun D hD => ?_⟩
      refine lc_fresh (plain_T (xs := as.map V.ref)) (fun i => ((turnR rows ws)[i]?.getD []).map pV) hD (by rw [List.length_map]; omega) (fun H' e => Same.sqT (s2.trans e) y2) ?_ ?_
      · rintro i x H3 Q' hx s3 k
        rw [List.getElem?_map] at hx
        obtain ⟨a, hai, rfl⟩ := Option.map_eq_some_iff.mp hx
        have hi : i < rows.length := y3 ▸ (List.getElem?_eq_some_iff.mp hai).1
        have hr : rows[i]? = some rows[i] := List.getElem?_eq_getElem hi
        have hq : SqT K H3 a (rows[i].map pV) := Same.sqT (s2.trans s3) (y6 i a _ hai hr)
        have hr6 := (y7 rows[i] (List.getElem_mem hi)).1
        simp only [List.set_cons_zero, List.set_cons_succ]
        refine tLc_seq (p := C) (.inl (.inl (.inl (s3 _ _ gC)))) (tVar_eq rfl) fun J G P hG D2 nD => ?_
        refine lc_grow P (fun acc _ => acc = (((turnR rows ws)[i]?.getD []).take acc.length).map pV) nD (by rw [List.length_map, h6]; decide) hG (fun _ _ => rfl) (fun _ _ _ _ _ _ h => h) ?_ ?_
        · rintro n y acc H4 Q2 hy s4 hl ha k
          rw [List.getElem?_map] at hy
          obtain ⟨w, hwi, rfl⟩ := Option.map_eq_some_iff.mp hy
          obtain ⟨w1, w2, w3⟩ := hw w (List.mem_of_getElem? hwi)
          have hwl := wayI_lt w1 w2 w3
          simp only [List.set_cons_zero, List.set_cons_succ]
          walk_at "1"
          refine ⟨_, _, .inr (Same.sqT s4 hq), at_nat (by rw [List.getElem?_map, List.getElem?_eq_getElem (by omega)]; rfl), ?_⟩
          refine k _ _ (Same.refl _) ?_
          refine take_snoc pV ha hl ?_
          rw [show (turnR rows ws)[i]? = some (ws.map fun w => (rows[i][wayI w.1 w.2]?).getD none) by unfold turnR; rw [List.getElem?_map, hr]; rfl, Option.getD_some, List.getElem?_map, hwi, Option.map_some, List.getElem?_eq_getElem (by omega)]
          rfl
        · rintro acc H4 hl s4 gD2 ha
          refine k D2 H4 nD s4 ?_
          rw [gD2, ha, List.take_of_length_le]
          rw [hl, List.length_map, show (turnR rows ws)[i]? = some (ws.map fun w => (rows[i][wayI w.1 w.2]?).getD none) by unfold turnR; rw [List.getElem?_map, hr]; rfl]
          simp
      · rintro H3 ls s3 hl gD at_ _ _ _
        rw [List.length_map] at hl
        have hv : RowV K H3 (.ref D) (turnR rows ws) := by
          refine ⟨D, _, rfl, .inl (.inl (.inl gD)), by simp [turnR]; omega, fun m v r z1 z2 => ?_⟩
          rw [List.getElem?_map] at z1
          obtain ⟨am, ham, rfl⟩ := Option.map_eq_some_iff.mp z1
          refine ⟨am, rfl, .inl (.inl (.inl ?_))⟩
          have := at_ m am ham
          rw [z2] at this
          exact this
        refine make_yd hv (turnR_ok hy.ok h6 hw) fun z H4 s4 nz hz => q z H4 ((s2.trans s3).trans s4) ?_ hz
        cases e4 : H z with
        | none => rfl
        | some u => rw [(s2.trans s3) _ _ e4] at nz; cases nz
theorem ways6V : ([.str "ab", .str "ac", .str "ba", .str "bc", .str "ca", .str "cb"] : List V) = waysN.map fun w => V.str (wd [w.1, w.2]) := by decide
theorem rev_wd2 (ds : List Nat) (u : Tok) : Txt.sliceBy (wd ds) none none (-1, u) = wd ds.reverse := by
  have ext : ∀ a b : Str, a.cps.toList = b.cps.toList → a = b := fun a b h => by
    obtain ⟨a⟩ := a
    obtain ⟨b⟩ := b
    exact congrArg Str.mk (Array.toList_inj.mp h)
  apply ext
  rw [step_rev_list, wd_length]
  have e : (wd ds.reverse).cps.toList = (ds.map (97 + ·)).reverse := by simp [wd]
  rw [e]
  apply List.ext_getElem
  · simp
  · intro i h1 h2
    simp at h1 h2
    have lt : ds.length - 1 - i < ds.length := by omega
    simp [wd, lt]
theorem waysN_ok : ∀ w ∈ waysN, okW w := by
  unfold okW
  decide
theorem backL_ok : ∀ w ∈ backL, okW w := by
  unfold okW
  decide
include F in
theorem read_Yard_backwards (h : sp_Yard_backwards K vs H Q E) : t_Yard_backwards K E { nx := fun _ H' => Q .non H', rt := Q } (start ["self", "way"] vs) H := by
  match vs, h with
  | [_], ⟨p, rows, rfl, hy, q⟩ =>
    unfold t_Yard_backwards
    obtain ⟨dx, t, as, y1, _⟩ := id hy
    walk_at "1"
    simp only [tMeth]
    walk_at "1"
    refine ⟨p, dx, _, rfl, y1, by rfl, ?_⟩
    refine tLc_seq (p := He.ga K "WAYS") (xs := waysN.map fun w => V.str (wd [w.1, w.2])) (.inr (ways6V ▸ F.ways H)) (fun Q => rfl) fun J G P hG C nC => ?_
    refine lc_grow P (fun acc _ => acc = (waysN.take acc.length).map fun w => V.str (wd [w.2, w.1])) nC (by decide) hG (fun _ _ => rfl) (fun _ _ _ _ _ _ h => h) ?_ ?_
    · rintro i x acc H2 Q' hx s2 hl ha k
      rw [List.getElem?_map] at hx
      obtain ⟨w, hwi, rfl⟩ := Option.map_eq_some_iff.mp hx
      walk_at "1"
      refine ⟨_, rfl, _, rfl, by rw [wd_length]; show 2 ≤ sizeLine; decide, fun u => ?_⟩
      rw [rev_wd2]
      exact k _ _ (Same.refl _) (take_snoc (fun w : Nat × Nat => V.str (wd [w.2, w.1])) ha hl hwi)
    · rintro acc H2 hl s2 gC ha
      rw [List.length_map] at hl
      rw [ha, hl, List.take_length] at gC
      refine ⟨p, rows, C, backL, rfl, hy.same s2, rfl, .inl (.inl gC), rfl, backL_ok, fun z H' s3 nz hz => q z H' (s2.trans s3) ?_ hz⟩
      cases e4 : H z with
      | none => rfl
      | some u => rw [s2 _ _ e4] at nz; cases nz
include F in
theorem read_Yard_smallest (h : sp_Yard_smallest K vs H Q E) : t_Yard_smallest K E { nx := fun _ H' => Q .non H', rt := Q } (start ["self", "count"] vs) H := by
  match vs, h with
  | [_, _], ⟨p, rows, k, rfl, hy, rfl, k1, k2, q⟩ =>
    unfold t_Yard_smallest sp_is_integer_within
    obtain ⟨dx, t, as, y1, y2, y3, y4, y5, y6, y7⟩ := id hy
    walk_at "s"
    walk_at "1"
    refine lenO_of hy ?_
    walk_at "1"
    refine ⟨_, 1, _, is_int _, rfl, rfl, ?_⟩
    rw [show isIn (.int (k : Nat)) 1 (rows.length : Int) = true by simp [isIn]; omega, Bool.not_true, if_neg (by decide)]
    simp only [tMake]
    walk_at "1"
    refine ⟨p, _, dx, _, .ref t, rfl, y1, F.cl, F.na, rfl, lenO_of hy ?_⟩
    walk_at "1"
    have hm : ∀ d, HT.sIx (as.map V.ref).length d (some ((rows.length : Int) - (k : Int))) = rows.length - k := by
      intro d
      rw [show (rows.length : Int) - (k : Int) = ((rows.length - k : Nat) : Int) by omega, HT.sIx_nat, List.length_map, y3]
      omega
    refine ⟨t, _, rfl, y2, fun hw => ?_, fun hw p0 np => ?_⟩
    · rw [hm] at hw
      have hv : RowV K H (.ref t) rows := ⟨t, _, rfl, .inr y2, by rw [List.length_map, y3], fun i v r z1 z2 => by
        rw [List.getElem?_map] at z1
        obtain ⟨a, ha, rfl⟩ := Option.map_eq_some_iff.mp z1
        exact ⟨a, rfl, .inr (y6 i a r ha z2)⟩⟩
      rw [hw.1, List.drop_zero] at q
      exact make_yd hv hy.ok q
    · have s1 : Same H (upd H p0 (.tup (cutV (as.map V.ref) (some ((rows.length : Int) - (k : Int))) none))) := same_new np
      have g1 : upd H p0 (.tup (cutV (as.map V.ref) (some ((rows.length : Int) - (k : Int))) none)) p0 = some (.tup ((as.drop (rows.length - k)).map V.ref)) := by
        rw [upd_same]
        unfold cutV
        rw [hm, HT.sIx_none, List.length_map, List.take_of_length_le (by simp), List.map_drop]
      generalize upd H p0 (.tup (cutV (as.map V.ref) (some ((rows.length : Int) - (k : Int))) none)) = H1 at *
      have hv : RowV K H1 (.ref p0) (rows.drop (rows.length - k)) := ⟨p0, _, rfl, .inr (.inl (.inl g1)), by simp [y3], fun i v r z1 z2 => by
        rw [List.getElem?_map, List.getElem?_drop] at z1
        rw [List.getElem?_drop] at z2
        obtain ⟨a, ha, rfl⟩ := Option.map_eq_some_iff.mp z1
        exact ⟨a, rfl, .inr (Same.sqT s1 (y6 _ a r ha z2))⟩⟩
      have ok : RowsOk (rows.drop (rows.length - k)) := ⟨by rw [List.length_drop]; omega, by rw [List.length_drop]; omega, fun r m => y7 r (List.mem_of_mem_drop m)⟩
      refine make_yd hv ok fun z H2 s2 nz hz => q z H2 (s1.trans s2) ?_ hz
      cases e4 : H z with
      | none => rfl
      | some u => rw [s1 _ _ e4] at nz; cases nz
include F in
theorem read_Yard_even (h : sp_Yard_even K vs H Q E) : t_Yard_even K E { nx := fun _ H' => Q .non H', rt := Q } (start ["cls", "count", "price"] vs) H := by
  match vs, h with
  | [_, _, _], ⟨k, i, rfl, rfl, rfl, k1, k2, i0, q⟩ =>
    unfold t_Yard_even sp_is_integer_within sp_is_price
    walk_at "s"
    walk_at "1"
    refine ⟨_, 1, 60, is_int _, rfl, rfl, ?_⟩
    rw [show isIn (.int (k : Nat)) 1 60 = true by simp [isIn]; omega, Bool.not_true, if_neg (by decide)]
    show tSeq _ _ _ _ _
    walk_at "s"
    walk_at "1"
    refine ⟨_, is_int _, ?_⟩
    rw [show isPr (.int i) = true by simpa [isPr] using i0, Bool.not_true, if_neg (by decide)]
    simp only [tMakeL]
    walk_at "1"
    refine ⟨trivial, by decide, fun p1 n1 => ⟨_, .inr (F.ways _), ?_⟩⟩
    dsimp only [List.length_cons, List.length_nil]
    refine ⟨p1, 6, [.int i], rfl, rfl, upd_same, by decide, by decide, by show 6 ≤ sizeLine; decide, fun p2 n2 => ?_⟩
    refine ⟨by decide, fun p3 n3 => ?_⟩
    refine ⟨p3, _, [.ref p2], rfl, rfl, upd_same, by omega, by omega, by rw [Int.toNat_natCast, List.length_singleton, Nat.one_mul]; exact Nat.le_trans k2 (by decide), fun p4 n4 => ?_⟩
    have s1 : Same H (upd H p1 (.lst [.int i])) := same_new n1
    generalize upd H p1 (.lst [.int i]) = H1 at *
    have s2 : Same H1 (upd H1 p2 (.lst (List.replicate (6 : Int).toNat [V.int i]).flatten)) := same_new n2
    have g2 : upd H1 p2 (.lst (List.replicate (6 : Int).toNat [V.int i]).flatten) p2 = some (.lst ((List.replicate 6 (some i)).map pV)) := upd_same
    generalize upd H1 p2 (.lst (List.replicate (6 : Int).toNat [V.int i]).flatten) = H2 at *
    have s3 : Same H2 (upd H2 p3 (.lst [.ref p2])) := same_new n3
    generalize upd H2 p3 (.lst [.ref p2]) = H3 at *
    have s4 : Same H3 (upd H3 p4 (.lst (List.replicate (k : Int).toNat [V.ref p2]).flatten)) := same_new n4
    have g4 : upd H3 p4 (.lst (List.replicate (k : Int).toNat [V.ref p2]).flatten) p4 = some (.lst (List.replicate k (V.ref p2))) := by
      rw [upd_same, Int.toNat_natCast]
      clear q n1 n2 n3 n4 s1 s2 g2 s3 s4 k1 k2
      congr 2
      induction k with
      | zero => rfl
      | succ n ih => rw [List.replicate_succ, List.flatten_cons, ih]; rfl
    generalize upd H3 p4 (.lst (List.replicate (k : Int).toNat [V.ref p2]).flatten) = H4 at *
    have sa : Same H H4 := ((s1.trans s2).trans s3).trans s4
    have hv : RowV K H4 (.ref p4) (List.replicate k (List.replicate 6 (some i))) := by
      refine ⟨p4, _, rfl, .inl (.inl (.inl g4)), by simp, fun m v r z1 z2 => ?_⟩
      obtain rfl := List.eq_of_mem_replicate (List.mem_of_getElem? z1)
      obtain rfl := List.eq_of_mem_replicate (List.mem_of_getElem? z2)
      exact ⟨p2, rfl, .inl (.inl (.inl (s4 _ _ (s3 _ _ g2))))⟩
    have ok : RowsOk (List.replicate k (List.replicate 6 (some i))) := by
      refine ⟨by simpa using k1, by simpa using k2, fun r m => ?_⟩
      obtain ⟨_, rfl⟩ := List.mem_replicate.mp m
      refine ⟨by simp, ?_⟩
      simp [okP, i0]
    refine make_yd hv ok fun z H5 s5 nz hz => q z H5 (sa.trans s5) ?_ hz
    cases e4 : H z with
    | none => rfl
    | some u => rw [sa _ _ e4] at nz; cases nz
theorem isi_yd {x : V} {a : Ty} (F : KF K) (h : Is K H x a) (q : Q (.bl (a.sub .yard)) H) : uIsi K [x, .ref (He.ga K "Yard")] H Q := .inl ⟨a.v K, a.sub .yard, h, F.kit a .yard, q⟩
theorem perm_ok : ∀ n ∈ permsN, n.Perm [0, 1, 2] := by decide
def abcL : List Str := ["a", "b", "c"]
/-- a sorted list of these three texts -/
theorem order_abc {ys : List Str} (h : ys.Perm abcL) (s : sortedS ys = true) : ys = abcL := by
  have nd : ys.Nodup := h.nodup_iff.mpr (by decide)
  match ys, h.length_eq with
  | [x, y, z], _ =>
    have mx := h.subset (a := x) (by simp)
    have my := h.subset (a := y) (by simp)
    have mz := h.subset (a := z) (by simp)
    simp only [abcL, List.mem_cons, List.not_mem_nil, or_false] at mx my mz
    clear h
    rcases mx with rfl | rfl | rfl <;> rcases my with rfl | rfl | rfl <;> rcases mz with rfl | rfl | rfl <;> revert s nd <;> decide +kernel
theorem order_wd : ∀ n ∈ permsN, ((wd n).cps.toList.map fun c => (⟨#[c]⟩ : Str)).Perm abcL := by decide +kernel
theorem nameL_ok : ∀ n ∈ permsN, ∀ w ∈ nameL n, okW w := by
  unfold okW
  decide +kernel
def namesD (n : List Nat) : List (Key × V) := mergeK [] (signKV (wd n) [.str "a", .str "b", .str "c"])
theorem names_get {n : List Nat} (hn : n ∈ permsN) {d : Nat} (hd : d < 3) : valV (namesD n) (.inr (pl d)) = some (.str (pl (invN n d))) := by
  simp only [permsN, List.mem_cons, List.not_mem_nil, or_false] at hn
  have : d = 0 ∨ d = 1 ∨ d = 2 := by omega
  rcases hn with rfl | rfl | rfl | rfl | rfl | rfl <;> rcases this with rfl | rfl | rfl <;> rfl
theorem str_at2 {K : PySem.W.Frag} {H : Hp} {Q : VK} {ds : List Nat} {k : Nat} (h : ds.length ≤ 60) (hk : k < ds.length) (q : Q (.str (pl (ds[k]?.getD 0))) H) : uIx K (.str (wd ds)) (.int (k : Nat)) H Q := by
  have e : ds[k]? = some ds[k] := List.getElem?_eq_getElem hk
  rw [e] at q
  have hlen : (wd ds).cps.toList.length = ds.length := by simp [wd]
  refine uIx_str (c := 97 + ds[k]) (Nat.le_trans (by rw [wd_length]; exact h) (by decide)) ?_ q
  unfold atI ixN
  rw [if_pos (by omega), hlen, if_pos (by omega)]
  show (wd ds).cps.toList[((k : Nat) : Int).toNat]? = _
  rw [Int.toNat_natCast]
  simp [wd, e]
theorem low_abs {i : Int} (h : lowQ (some i) = true) : i.natAbs < 10 ^ 32 := by
  have h := of_decide_eq_true h
  have e : (10 : Int) ^ 32 = 100000000000000000000000000000000 := by decide
  rw [e] at h
  omega
theorem low_log {i : Int} (h : lowQ (some i) = true) : i.natAbs.log2 < 1920 := by
  have big := low_abs h
  have : i.natAbs.log2 < 128 := by
    by_cases z : i.natAbs = 0
    · rw [z]; decide
    · exact (Nat.log2_lt z).mpr (Nat.lt_of_lt_of_le big (by decide))
  omega
theorem priceT_len {o : Option Int} (h : lowQ o = true) : (priceT o).length ≤ 40 := by
  cases o with
  | none => decide
  | some i =>
    have e := int_text_length_le10 (k := 32) (by decide) (low_abs h)
    show (Str.ofString (toString i)).length ≤ 40
    rw [PySem.ofString_length]
    omega
theorem sum_le {α : Type} (f : α → Nat) (n : Nat) : ∀ l : List α, (∀ x ∈ l, f x ≤ n) → (l.map f).sum ≤ l.length * n
  | [], _ => by simp
  | a :: r, h => by
    have := sum_le f n r fun x m => h x (List.mem_cons_of_mem _ m)
    have := h a List.mem_cons_self
    rw [List.map_cons, List.length_cons, List.sum_cons, Nat.succ_mul]
    omega
theorem lineT_sum {r : List (Option Int)} (h : r.all lowQ = true) (h6 : r.length = 6) : ((r.map priceT).map (·.length)).sum ≤ 240 := by
  rw [List.map_map]
  have := sum_le ((fun z : Str => z.length) ∘ priceT) 40 r fun o m => priceT_len (List.all_eq_true.mp h o m)
  omega
theorem lineT_len {r : List (Option Int)} (h : r.all lowQ = true) (h6 : r.length = 6) : (lineT r).length ≤ 250 := by
  have h1 := StrLaws.join_length_le " " (r.map priceT)
  have h2 := lineT_sum h h6
  rw [List.length_map, h6] at h1
  have h3 : (" " : Str).length = 1 := by decide
  rw [h3] at h1
  show (Builtin.Str.glued " " (r.map priceT)).length ≤ 250
  rw [StrLaws.glued_eq_join]
  omega
theorem gridT_sum {rows : List (List (Option Int))} (h : ∀ r ∈ rows, r.all lowQ = true) (h6 : RowsOk rows) : ((rows.map lineT).map (·.length)).sum ≤ 15000 := by
  rw [List.map_map]
  have := sum_le ((fun z : Str => z.length) ∘ lineT) 250 rows fun r m => lineT_len (h r m) (h6.2.2 r m).1
  have := h6.2.1
  omega
include F in
theorem read__price_text (h : sp__price_text K vs H Q E) : t__price_text K E { nx := fun _ H' => Q .non H', rt := Q } (start ["price"] vs) H := by
  match vs, h with
  | [_], ⟨o, rfl, ho, q⟩ =>
    unfold t__price_text
    walk_at "1"
    cases o with
    | none => 
      simp only [pV, decide_true, if_true]
      exact q
    | some i =>
      rw [if_neg (fun z => by cases z)]
      exact ⟨i, rfl, low_log ho, q⟩
include F in
theorem read_Yard_eq (h : sp_Yard_eq K vs H Q E) : t_Yard_eq K E { nx := fun _ H' => Q .non H', rt := Q } (start ["self", "other"] vs) H := by
  match vs, h with
  | [_, y], ⟨p, rows, rfl, hy, h⟩ =>
    unfold t_Yard_eq
    obtain ⟨dx, t, as, y1, y2, y3, y4, y5, y6, y7⟩ := id hy
    walk_at "1"
    rcases h with ⟨q2, rows2, rfl, hy2, q⟩ | ⟨a, ha, na, q⟩
    · obtain ⟨ex, t2, bs, z1, z2, z3, z4, z5, z6, z7⟩ := id hy2
      refine isi_yd F (is_yard F z1) ?_
      walk_at "1"
      rw [if_pos (by decide)]
      refine ⟨p, _, dx, _, .ref t, rfl, y1, F.cl, F.na, rfl, q2, _, ex, _, .ref t2, rfl, z1, F.cl, F.na, rfl, ?_⟩
      refine ⟨_, _, dp_gridU y2 y3 y6, dp_gridU z2 z3 z6, gridU_shaped _, gridU_shaped _, ?_⟩
      rw [gridU_eqv]
      exact q
    · refine isi_yd F ha ?_
      rw [show a.sub .yard = false by revert na; cases a <;> decide]
      exact ⟨false, rfl, q⟩
include F in
theorem read_Yard_str (h : sp_Yard_str K vs H Q E) : t_Yard_str K E { nx := fun _ H' => Q .non H', rt := Q } (start ["self", "row", "price"] vs) H := by
  match vs, h with
  | [_], ⟨p, rows, rfl, hy, hlow, q⟩ =>
    unfold t_Yard_str sp__price_text
    obtain ⟨dx, t, as, y1, y2, y3, y4, y5, y6, y7⟩ := id hy
    walk_at "1"
    simp only [tJoin, tM1, tC]
    refine ⟨⟨_, rfl⟩, ?_⟩
    refine tLc_inT ?_
    walk_at "1"
    refine ⟨p, _, dx, _, .ref t, rfl, y1, F.cl, F.na, rfl, t, rfl, ⟨_, y2⟩, fun D hD => ?_⟩
    refine lc_grow (plain_T (xs := as.map V.ref)) (fun acc _ => acc = (rows.take acc.length).map fun r => V.str (lineT r)) hD (by rw [List.length_map, y3]; exact Nat.le_trans y4 (by decide)) (fun H' e => Same.sqT e y2) (fun _ _ => rfl) (fun _ _ _ _ _ _ h => h) ?_ ?_
    · rintro i x acc H2 Q' hx s2 hl ha k
      rw [List.getElem?_map] at hx
      obtain ⟨a, hai, rfl⟩ := Option.map_eq_some_iff.mp hx
      have hi : i < rows.length := y3 ▸ (List.getElem?_eq_some_iff.mp hai).1
      have hr : rows[i]? = some rows[i] := List.getElem?_eq_getElem hi
      have hq : SqT K H2 a (rows[i].map pV) := Same.sqT s2 (y6 i a _ hai hr)
      have hr6 := (y7 rows[i] (List.getElem_mem hi)).1
      have hrl := hlow rows[i] (List.getElem_mem hi)
      refine ⟨⟨_, rfl⟩, ?_⟩
      simp only [List.set_cons_zero, List.set_cons_succ]
      refine tLc_seq (p := a) (.inr hq) (tVar_eq rfl) fun J G P hG D2 nD => ?_
      refine lc_grow P (fun acc _ => acc = (rows[i].take acc.length).map fun o => V.str (priceT o)) nD (by rw [List.length_map, hr6]; decide) hG (fun _ _ => rfl) (fun _ _ _ _ _ _ h => h) ?_ ?_
      · rintro n y acc2 H4 Q2 hy s4 hl2 ha2 k2
        rw [List.getElem?_map] at hy
        obtain ⟨o, ho, rfl⟩ := Option.map_eq_some_iff.mp hy
        simp only [List.set_cons_zero, List.set_cons_succ]
        walk_at "1"
        refine ⟨o, rfl, List.all_eq_true.mp hrl o (List.mem_of_getElem? ho), ?_⟩
        exact k2 _ _ (Same.refl _) (take_snoc (fun o : Option Int => V.str (priceT o)) ha2 hl2 ho)
      · rintro acc2 H4 hl2 s4 gD2 ha2
        rw [List.length_map] at hl2
        rw [ha2, hl2, List.take_length] at gD2
        refine ⟨" ", D2, rows[i].map priceT, rfl, rfl, .inl (.inl (.inl (by rw [gD2, List.map_map]; rfl))), ?_, ?_⟩
        · have := lineT_sum hrl hr6
          have h3 : (" " : Str).length = 1 := by decide
          rw [h3, List.length_map, hr6]
          omega
        · exact k _ _ s4 (take_snoc (fun r : List (Option Int) => V.str (lineT r)) ha hl hr)
    · rintro acc H2 hl s2 gD ha
      rw [List.length_map] at hl
      rw [ha, hl, y3, List.take_length] at gD
      refine ⟨"\n", D, rows.map lineT, rfl, rfl, .inl (.inl (.inl (by rw [gD, List.map_map]; rfl))), ?_, q H2 s2⟩
      have := gridT_sum hlow hy.ok
      have h3 : ("\n" : Str).length = 1 := by decide
      rw [h3, List.length_map]
      omega
end
end U
namespace U
open PySem PySem.Spec PyProof.Rows L2 TL

/-! ### texts cut at a sign -/
def linesL (l : List Nat) : List (List Nat) := spl [10] 0 [] l
def wordsL (l : List Nat) : List (List Nat) := spl [32] 0 [] l
theorem spl_mem {s : Nat} : ∀ (l acc : List Nat), s ∉ acc → ∀ w ∈ spl [s] 0 acc l, s ∉ w ∧ ∃ p q, acc ++ l = p ++ (w ++ q)
  | [], acc, h, w, m => by
    rw [spl_nil] at m
    rw [List.mem_singleton.mp m]
    exact ⟨h, [], [], by simp⟩
  | c :: r, acc, h, w, m => by
    by_cases e : c = s
    · subst e
      rw [spl_hit (by simp [pre])] at m
      rcases List.mem_cons.mp m with rfl | m
      · exact ⟨h, [], c :: r, by simp⟩
      · obtain ⟨h1, p, q, e⟩ := spl_mem r [] (by simp) w m
        refine ⟨h1, acc ++ [c] ++ p, q, ?_⟩
        have : r = p ++ (w ++ q) := by simpa using e
        rw [this]
        simp
    · rw [spl_miss (pre_of_head _ _ e)] at m
      obtain ⟨h1, p, q, e2⟩ := spl_mem r (acc ++ [c]) (by simp [h]; exact fun z => e z.symm) w m
      exact ⟨h1, p, q, by simpa using e2⟩
/-! ### the longest word of a text -/
def sepc (c : Nat) : Bool := c == 10 || c == 32
def mx : Nat → List Nat → Nat
  | k, [] => k
  | k, c :: r => if sepc c = true then max k (mx 0 r) else mx (k + 1) r
theorem mx_add : ∀ (l : List Nat) (j k : Nat), mx (j + k) l ≤ j + mx k l
  | [], j, k => Nat.le_refl _
  | c :: r, j, k => by
    unfold mx
    split
    · omega
    · have := mx_add r j (k + 1)
      rw [Nat.add_assoc]
      exact this
theorem mx_mono : ∀ (l : List Nat) {j k : Nat}, j ≤ k → mx j l ≤ mx k l
  | [], j, k, h => h
  | c :: r, j, k, h => by
    unfold mx
    split
    · omega
    · exact mx_mono r (by omega)
theorem mx_ge : ∀ (l : List Nat) (k : Nat), k ≤ mx k l
  | [], k => Nat.le_refl _
  | c :: r, k => by
    unfold mx
    split
    · omega
    · exact Nat.le_trans (Nat.le_succ k) (mx_ge r (k + 1))
theorem mx_app : ∀ (a b : List Nat) (k : Nat), mx k (a ++ b) ≤ mx k a + mx 0 b
  | [], b, k => mx_add b k 0
  | c :: r, b, k => by
    show mx k (c :: (r ++ b)) ≤ _
    rw [mx, mx]
    split
    · have := mx_app r b 0
      omega
    · exact mx_app r b (k + 1)
theorem mx_pre : ∀ (a b : List Nat) (k : Nat), mx k a ≤ mx k (a ++ b)
  | [], b, k => mx_ge b k
  | c :: r, b, k => by
    show _ ≤ mx k (c :: (r ++ b))
    unfold mx
    split
    · have := mx_pre r b 0
      omega
    · exact mx_pre r b (k + 1)
theorem mx_suf : ∀ (a b : List Nat) (k : Nat), mx 0 b ≤ mx k (a ++ b)
  | [], b, k => mx_mono b (Nat.zero_le _)
  | c :: r, b, k => by
    show _ ≤ mx k (c :: (r ++ b))
    rw [mx]
    split
    · have := mx_suf r b 0
      omega
    · exact mx_suf r b (k + 1)
theorem mx_free : ∀ (w : List Nat) (k : Nat), (∀ c ∈ w, sepc c = false) → mx k w = k + w.length
  | [], k, _ => rfl
  | c :: r, k, h => by
    rw [mx, if_neg (by rw [h c List.mem_cons_self]; decide), mx_free r (k + 1) fun d m => h d (List.mem_cons_of_mem _ m), List.length_cons]
    omega
theorem mx_len : ∀ (l : List Nat) (k : Nat), mx k l ≤ k + l.length
  | [], k => Nat.le_refl _
  | c :: r, k => by
    rw [mx, List.length_cons]
    split
    · have := mx_len r 0
      omega
    · have := mx_len r (k + 1)
      omega
theorem mx_sep {s : Nat} (hs : sepc s = true) : ∀ (a b : List Nat) (k : Nat), mx k (a ++ s :: b) = max (mx k a) (mx 0 b)
  | [], b, k => by
    show mx k (s :: b) = max k (mx 0 b)
    rw [mx]
    exact if_pos hs
  | c :: r, b, k => by
    show mx k (c :: (r ++ s :: b)) = _
    rw [mx, mx]
    split
    · rw [mx_sep hs r b 0]
      omega
    · exact mx_sep hs r b (k + 1)
theorem mx_join {s : Nat} (hs : sepc s = true) {N : Nat} : ∀ {ps : List (List Nat)}, (∀ p ∈ ps, mx 0 p ≤ N) → mx 0 (joinL [s] ps) ≤ N
  | [], _ => Nat.zero_le _
  | [p], h => h p List.mem_cons_self
  | p :: q :: r, h => by
    show mx 0 (p ++ s :: joinL [s] (q :: r)) ≤ N
    rw [mx_sep hs]
    have h1 := h p List.mem_cons_self
    have h2 := mx_join hs (ps := q :: r) fun x m => h x (List.mem_cons_of_mem _ m)
    omega
theorem word_mx {t l w : List Nat} (hl : l ∈ linesL t) (hw : w ∈ wordsL l) : w.length ≤ mx 0 t := by
  obtain ⟨h1, p, q, e⟩ := spl_mem t [] (by simp) l hl
  obtain ⟨h2, p2, q2, e2⟩ := spl_mem l [] (by simp) w hw
  rw [List.nil_append] at e e2
  have h10 : 10 ∉ w := fun m => h1 (by rw [e2]; simp [m])
  have free : ∀ c ∈ w, sepc c = false := fun c m => by
    unfold sepc
    rw [Bool.or_eq_false_iff]
    refine ⟨?_, ?_⟩
    · exact beq_false_of_ne fun z => h10 (z ▸ m)
    · exact beq_false_of_ne fun z => h2 (z ▸ m)
  have e3 : mx 0 w = w.length := by rw [mx_free w 0 free, Nat.zero_add]
  rw [← e3, e, e2]
  refine Nat.le_trans ?_ (mx_suf p _ 0)
  refine Nat.le_trans ?_ (mx_pre _ q 0)
  refine Nat.le_trans ?_ (mx_suf p2 _ 0)
  exact mx_pre w q2 0
theorem line_part {t l : List Nat} (hl : l ∈ linesL t) : ∃ p q, t = p ++ (l ++ q) := by
  obtain ⟨_, p, q, e⟩ := spl_mem t [] (by simp) l hl
  exact ⟨p, q, e⟩
theorem word_part {l w : List Nat} (hw : w ∈ wordsL l) : ∃ p q, l = p ++ (w ++ q) := by
  obtain ⟨_, p, q, e⟩ := spl_mem l [] (by simp) w hw
  exact ⟨p, q, e⟩
/-! ### what is the text of a yard -/
def dig (c : Nat) : Bool := decide (48 ≤ c) && decide (c ≤ 57)
def numOk (w : List Nat) : Bool := !w.isEmpty && (w.all dig && !(w.head? == some 48))
def wOk (w : List Nat) : Bool := w == [45] || numOk w
def wP (w : List Nat) : Option Int := if w = [45] then none else some (NumText.digitsVal w : Nat)
def lineOk (l : List Nat) : Bool := decide ((wordsL l).length = 6) && (wordsL l).all wOk
def textOk (t : List Nat) : Bool := decide ((linesL t).length ≤ 60) && (linesL t).all lineOk
def rowsT (t : List Nat) : List (List (Option Int)) := (linesL t).map fun l => (wordsL l).map wP
theorem dig_iff {c : Nat} : dig c = true ↔ 48 ≤ c ∧ c ≤ 57 := by simp [dig]
theorem numOk_all {w : List Nat} (h : numOk w = true) : NumText.AllDigits w ∧ w ≠ [] := by
  unfold numOk at h
  simp only [Bool.and_eq_true, Bool.not_eq_true', List.isEmpty_eq_false_iff] at h
  exact ⟨fun c m => dig_iff.mp (List.all_eq_true.mp h.2.1 c m), h.1⟩
theorem fold_pos : ∀ (l : List Nat) (a : Nat), 0 < a → 0 < l.foldl (fun acc c => acc * 10 + (c - 48)) a
  | [], a, h => h
  | c :: r, a, h => fold_pos r (a * 10 + (c - 48)) (by omega)
theorem numOk_pos {w : List Nat} (h : numOk w = true) : 0 < NumText.digitsVal w := by
  obtain ⟨ad, ne⟩ := numOk_all h
  unfold numOk at h
  simp only [Bool.not_eq_true', Bool.and_eq_true] at h
  cases w with
  | nil => exact absurd rfl ne
  | cons c r =>
    have h1 := ad c List.mem_cons_self
    have h2 : ¬ c = 48 := fun z => by
      subst z
      have := h.2.2
      simp at this
    unfold NumText.digitsVal
    rw [List.foldl_cons]
    exact fold_pos r (0 * 10 + (c - 48)) (by omega)
theorem wP_ok {w : List Nat} (h : wOk w = true) : okP (wP w) = true := by
  unfold wP
  split
  · rfl
  · rename_i n
    have h : numOk w = true := by
      unfold wOk at h
      rw [Bool.or_eq_true] at h
      rcases h with h | h
      · exact absurd (eq_of_beq h) n
      · exact h
    have := numOk_pos h
    exact decide_eq_true (show _ by omega)
theorem rowsT_ok {t : List Nat} (h : textOk t = true) (n0 : linesL t ≠ []) : RowsOk (rowsT t) := by
  unfold textOk at h
  rw [Bool.and_eq_true, decide_eq_true_eq, List.all_eq_true] at h
  have hp : 0 < (linesL t).length := List.length_pos_iff.mpr n0
  refine ⟨by unfold rowsT; rw [List.length_map]; omega, by unfold rowsT; rw [List.length_map]; exact h.1, fun r m => ?_⟩
  obtain ⟨l, hl, rfl⟩ := List.mem_map.mp m
  have h2 := h.2 l hl
  unfold lineOk at h2
  rw [Bool.and_eq_true, decide_eq_true_eq, List.all_eq_true] at h2
  refine ⟨by rw [List.length_map]; exact h2.1, List.all_eq_true.mpr fun p m => ?_⟩
  obtain ⟨w, hw, rfl⟩ := List.mem_map.mp m
  exact wP_ok (h2.2 w hw)
theorem spl_ne (s : Nat) : ∀ (l acc : List Nat), spl [s] 0 acc l ≠ []
  | [], acc => by rw [spl_nil]; simp
  | c :: r, acc => by
    by_cases e : c = s
    · subst e
      rw [spl_hit (by simp [pre])]
      simp
    · rw [spl_miss (pre_of_head _ _ e)]
      exact spl_ne s r _
theorem spl_len (s : Nat) : ∀ (l acc : List Nat), (spl [s] 0 acc l).length ≤ l.length + 1
  | [], acc => by rw [spl_nil]; simp
  | c :: r, acc => by
    by_cases e : c = s
    · subst e
      rw [spl_hit (by simp [pre])]
      have := spl_len c r []
      simp only [List.length_cons]
      exact Nat.succ_le_succ this
    · rw [spl_miss (pre_of_head _ _ e)]
      have := spl_len s r (acc ++ [c])
      rw [List.length_cons]
      omega
/-! ### texts and their signs -/
theorem tl_split (x : Str) : (Txt.split x "\n").map tl = linesL (tl x) := by
  have e : tl ("\n" : Str) = [10] := by decide
  have := split_spl x "\n" (by rw [e]; simp) (kind_ok (by decide +kernel))
  rw [e] at this
  exact this
theorem tl_splitW (x : Str) : (Txt.split x " ").map tl = wordsL (tl x) := by
  have e : tl (" " : Str) = [32] := by decide
  have := split_spl x " " (by rw [e]; simp) (kind_ok (by decide +kernel))
  rw [e] at this
  exact this
theorem str_eq_tl {x y : Str} : x = y ↔ tl x = tl y := ⟨fun h => by rw [h], ext_tl⟩
/-! ### the text of a yard, read again -/
def priceL : Option Int → List Nat
  | none => [45]
  | some i => numL i.toNat
theorem tl_price {o : Option Int} (h : okP o = true) : tl (priceT o) = priceL o := by
  cases o with
  | none => show tl ("-" : Str) = [45]; decide +kernel
  | some i =>
    have h0 : 0 < i := of_decide_eq_true h
    obtain ⟨n, rfl⟩ := Int.eq_ofNat_of_zero_le (Int.le_of_lt h0)
    exact tl_num n
theorem numL_head : ∀ {n : Nat}, 0 < n → (numL n).head? ≠ some 48 := by
  intro n
  induction n using Nat.strongRecOn with  | _ n ih =>
    intro h
    by_cases z : n < 10
    · rw [numL_lt z]
      intro e
      have := Option.some.inj e
      omega
    · rw [numL_step (by omega)]
      have := ih (n / 10) (by omega) (by omega)
      have ne := numL_ne (n / 10)
      cases e : numL (n / 10) with
      | nil => exact absurd e ne
      | cons a r =>
        rw [e] at this
        exact this
theorem numOk_num {n : Nat} (h : 0 < n) : numOk (numL n) = true := by
  unfold numOk
  have h1 := numL_digits n
  have h2 := numL_ne n
  have h3 := numL_head h
  simp only [Bool.and_eq_true, Bool.not_eq_true', List.isEmpty_eq_false_iff]
  refine ⟨h2, List.all_eq_true.mpr fun c m => dig_iff.mpr (h1 c m), ?_⟩
  exact beq_false_of_ne h3
/-! ### texts shown in quotes -/
theorem hex_ok {c : Nat} (k : Nat) : ∀ d ∈ List.replicate k 48 ++ (Nat.toDigits 16 c).map Char.toNat, d < 0x110000 := by
  intro d m
  rcases List.mem_append.mp m with m | m
  · rw [List.eq_of_mem_replicate m]; decide
  · obtain ⟨x, _, rfl⟩ := List.mem_map.mp m
    have := x.valid
    unfold Char.toNat
    rcases this with h | ⟨_, h⟩
    · exact Nat.lt_trans h (by decide)
    · exact h
theorem char_ok {q c : Nat} (hc : c < 0x110000) : ∀ d ∈ Builtin.Str.reprChar q c, d < 0x110000 := by
  intro d m
  unfold Builtin.Str.reprChar at m
  dsimp only at m
  have two : ∀ {a b : Nat}, a < 0x110000 → b < 0x110000 → d ∈ [a, b] → d < 0x110000 := fun ha hb m => by
    rcases List.mem_cons.mp m with rfl | m
    · exact ha
    · rw [List.mem_singleton.mp m]; exact hb
  split at m
  · exact two (by decide) hc m
  split at m
  · exact two (by decide) (by decide) m
  split at m
  · exact two (by decide) (by decide) m
  split at m
  · exact two (by decide) (by decide) m
  split at m
  · rw [List.mem_singleton.mp m]; exact hc
  split at m
  · rcases List.mem_append.mp m with m | m
    · exact two (by decide) (by decide) m
    · exact hex_ok _ d m
  split at m
  · rcases List.mem_append.mp m with m | m
    · exact two (by decide) (by decide) m
    · exact hex_ok _ d m
  · rcases List.mem_append.mp m with m | m
    · exact two (by decide) (by decide) m
    · exact hex_ok _ d m
theorem fold_ok {q : Nat} : ∀ (l : List Nat) (acc : Array Nat), (∀ c ∈ l, c < 0x110000) → (∀ c ∈ acc.toList, c < 0x110000) → ∀ c ∈ (l.foldl (fun out c => out ++ (Builtin.Str.reprChar q c).toArray) acc).toList, c < 0x110000
  | [], acc, _, h => h
  | a :: r, acc, hl, h => by
    rw [List.foldl_cons]
    refine fold_ok r _ (fun c m => hl c (List.mem_cons_of_mem _ m)) fun c m => ?_
    rw [Array.toList_append] at m
    rcases List.mem_append.mp m with m | m
    · exact h c m
    · exact char_ok (hl a List.mem_cons_self) c m
theorem quote_ok (x : Str) : reprQuote x < 0x110000 := by
  unfold reprQuote
  split <;> decide
theorem strOk_iff {x : Str} : PyData.strOk x = true ↔ ∀ c ∈ tl x, c < 0x110000 := by
  show x.cps.all (· < 0x110000) = true ↔ _
  rw [← Array.all_toList]
  rw [List.all_eq_true]
  exact ⟨fun h c m => of_decide_eq_true (h c m), fun h c m => decide_eq_true (h c m)⟩
theorem repr_ok {x : Str} (h : ∀ c ∈ tl x, c < 0x110000) : PyData.strOk (reprText x) = true := by
  rw [strOk_iff]
  unfold reprText
  intro c m
  have m : c ∈ ((x.cps.foldl (fun out c => out ++ (Builtin.Str.reprChar (reprQuote x) c).toArray) #[reprQuote x]).push (reprQuote x)).toList := m
  rw [Array.toList_push] at m
  rcases List.mem_append.mp m with m | m
  · rw [← Array.foldl_toList] at m
    refine fold_ok x.cps.toList _ h (fun d md => ?_) c m
    have : d ∈ [reprQuote x] := md
    rw [List.mem_singleton.mp this]
    exact quote_ok x
  · rw [List.mem_singleton.mp m]
    exact quote_ok x
end U
namespace U
open PySem PySem.Spec PyProof.Rows L2 TL

/-! ### a classmethod called in a try's body -/
section
variable {X : Cx} {CX : CXT} {k : Nat} {C f q g : Addr} {sp : Sp} {Q : VK} {us : List Value} {vs : List V} {pins : List (Addr × Obj)} {σ : L2.St} {H : Hp} {s : Shared}
theorem run_fnRS {E : XK} (F : FnR X.prog X.w X.K X.mg X.base CX k f sp) (hr : Room k X.A) (hx : PassesAt CX X σ E) (I : Inv X pins σ H s) (r : Vals vs us) (h : sp vs H Q E) :
    codeAny (model X.prog X.w) X.A (.call (.ref f) ⟨us, []⟩) (fun res s' => match res with | .ok (.ret v) => EP X pins σ Q v s' | .ok _ => False | .error e => X.xe e s') s := by
  refine codeAny_mono (F X.A X.stack s H us vs Q E hr I.env0 r h) fun res s2 out => ?_
  match res, out with
  | .error er, out => exact hx pins H s er s2 I out
  | .ok (.ret u), out => exact I.after out
  | .ok .next, out => exact False.elim out
  | .ok .brk, out => exact False.elim out
  | .ok .cont, out => exact False.elim out
theorem run_cmS {E : XK} (F : FnR X.prog X.w X.K X.mg X.base CX k g sp) (hr : Room k X.A) (hx : PassesAt CX X σ E) (I : Inv X ((q, PySem.W.methodObj (.ref g) (.ref C)) :: pins) σ H s)
    (rv : Vals vs us) (h : sp (.ref C :: vs) H Q E) : wpAny (model X.prog X.w) X.A (call (.ref q) us) (EP X pins σ Q) X.xe s := by
  have go : wpAny (model X.prog X.w) X.A (call (.ref q) us) (EP X ((q, PySem.W.methodObj (.ref g) (.ref C)) :: pins) σ Q) X.xe s :=
    wpAny_call (PySem.W.method_call (ClX.pin_at I) (run_fnRS (us := .ref C :: us) (vs := .ref C :: vs) F hr hx I (.cons rfl rv) h))
  exact thn go fun _ _ y => ClX.unpinE y
end
def tCmS (C : Addr) (sp : Sp) (W : WX) (ta : TE) (t : TA) : TE := fun σ H Q => ta σ H fun x H1 => x = .ref C ∧ t σ H1 fun vs H2 => sp (.ref C :: vs) H2 Q (WE W σ)
theorem pe_cmS {X : Cx} {k : Nat} {C m : Str} {ps : List Str} {sp : Sp} {W : WX} {o e : Expr} {es : List Expr} {pos apos : Pos} {ta : TE} {t : TA} {pl : Sem Bool} (g : GoodC X.prog X.w X.K X.mg X.base k C m ps sp) (he : PE X o ta) (hr : Room k X.A) (tk : Takes X W)
    (hst : starEach (e :: es) X.env = (false, eval e X.env) :: starEach es X.env := by rfl) (hpl : (backTo pos (starEach es X.env)).any (·.1) = false := by rfl) (ha : PA X (e :: es) t)
    (ht : eval (.Call (.Attribute o m apos) (e :: es) [] pos) X.env = (do
      let ov ← eval o X.env
      standAt apos.atName
      let (f, first) ← holding [ov] (getMethod ov m pl)
      callWith pos f first (backTo pos (starEach (e :: es) X.env)) (backToKw pos (keywordEach [] X.env))) := by rfl) :
    PE X (.Call (.Attribute o m apos) (e :: es) [] pos) (tCmS (He.ga X.K C) sp W ta t) := by
  obtain ⟨fd, F, hb⟩ := g.fn
  refine .mk ?_
  intro pins s σ H Q I h
  refine PySem.W.methodCall_KW (pl := pl) (thn (he.run pins s σ H _ I h) fun u s1 out => ?_) ht
  obtain ⟨x, H1, I1, rx, ex, q⟩ := out
  subst ex
  obtain rfl : u = Value.ref (He.ga X.K C) := rx
  refine ClX.getmethcm_ok I1 g.rd g.cm fun s2 I2 => ?_
  refine ClX.callwith_cm I2 (ClX.base_none I1 (Nat.le_refl _)) g.cm.fi (thn (ha.run pos _ s2 σ H1 _ I2 q) fun us s3 out => ?_) hst hpl
  obtain ⟨vs, H2, I3, rv, q2⟩ := out
  refine ⟨⟨ClX.pin_at I3, I3.kIn⟩, ?_⟩
  exact run_cmS (F.raw hb .nil) hr (passAt tk σ) I3 rv (by rw [List.append_nil]; exact q2)
/-! ### int(text), text.split(sign) -/
def rIntS : List V → Hp → VK → Prop := fun xs H Q => ∃ a n, xs = [.str a] ∧ PySem.intText? a = some n ∧ a.length ≤ 640 ∧ Q (.int n) H
theorem call_intS {X : Cx} : CallR X (.type "int") rIntS := call_int_str
theorem int_word {w : Str} {H : Hp} {Q : VK} (h : numOk (tl w) = true) (hl : w.length ≤ 640) (q : Q (.int (NumText.digitsVal (tl w) : Nat)) H) : rIntS [.str w] H Q := by
  obtain ⟨ad, ne⟩ := numOk_all h
  exact ⟨w, _, rfl, PySem.intText_digits ad ne (Nat.le_trans hl (by decide)), hl, q⟩
def rSplit : V → List V → Hp → VK → Prop := fun x xs H Q => ∃ a b, x = .str a ∧ xs = [.str b] ∧ (b.length == 0) = false ∧ a.length + 2 ≤ sizeLine ∧ rNewStrs (Txt.split a b) H Q
theorem mt_splitU {X : Cx} : MtR X "str.split" rSplit := mt_split
theorem split_of {a b : Str} {H : Hp} {Q : VK} (hb : (b.length == 0) = false) (hl : a.length ≤ 1000000) (q : ∀ p, H p = none → Q (.ref p) (upd H p (.lst ((Txt.split a b).map V.str)))) : rSplit (.str a) [.str b] H Q :=
  ⟨a, b, rfl, rfl, hb, Nat.le_trans (Nat.add_le_add_right hl 2) (by decide), q⟩
/-! ### the text of a yard, read again -/
theorem join_free {s c : Nat} (hs : s ≠ c) : ∀ {ps : List (List Nat)}, (∀ p ∈ ps, c ∉ p) → c ∉ joinL [s] ps
  | [], _ => by simp [joinL]
  | [p], h => h p List.mem_cons_self
  | p :: q :: r, h => by
    show c ∉ p ++ s :: joinL [s] (q :: r)
    intro m
    rcases List.mem_append.mp m with m | m
    · exact h p List.mem_cons_self m
    · rcases List.mem_cons.mp m with e | m
      · exact hs e.symm
      · exact join_free hs (ps := q :: r) (fun x m => h x (List.mem_cons_of_mem _ m)) m
theorem price_free {o : Option Int} {c : Nat} (hc : c = 10 ∨ c = 32) : c ∉ priceL o := by
  cases o with
  | none =>
    show c ∉ [45]
    intro m
    have := List.mem_singleton.mp m
    omega
  | some i => exact numL_free (by omega)
def lineL (r : List (Option Int)) : List Nat := joinL [32] (r.map priceL)
theorem tl_line {r : List (Option Int)} (h : r.all okP = true) : tl (lineT r) = lineL r := by
  unfold lineT lineL
  rw [join_eq, tl_join, List.map_map]
  have e : tl (" " : Str) = [32] := by decide +kernel
  rw [e]
  congr 1
  exact List.map_congr_left fun o m => tl_price (List.all_eq_true.mp h o m)
theorem tl_grid {rows : List (List (Option Int))} (h : ∀ r ∈ rows, r.all okP = true) : tl (gridT rows) = joinL [10] (rows.map lineL) := by
  unfold gridT
  rw [join_eq, tl_join, List.map_map]
  have e : tl ("\n" : Str) = [10] := by decide +kernel
  rw [e]
  congr 1
  exact List.map_congr_left fun r m => tl_line (h r m)
theorem lines_grid {rows : List (List (Option Int))} (h : RowsOk rows) : linesL (tl (gridT rows)) = rows.map lineL := by
  rw [tl_grid fun r m => (h.2.2 r m).2]
  refine spl_join (fun e => ?_) fun p m => ?_
  · have z := congrArg List.length e
    rw [List.length_map, List.length_nil] at z
    have := h.1
    omega
  · obtain ⟨r, _, rfl⟩ := List.mem_map.mp m
    refine join_free (by decide) fun p m => ?_
    obtain ⟨o, _, rfl⟩ := List.mem_map.mp m
    exact price_free (.inl rfl)
theorem words_line {r : List (Option Int)} (h : r.length = 6) : wordsL (lineL r) = r.map priceL := by
  refine spl_join (fun e => ?_) fun p m => ?_
  · have := congrArg List.length e
    rw [List.length_map] at this
    simp at this
    rw [this] at h
    cases h
  · obtain ⟨o, _, rfl⟩ := List.mem_map.mp m
    exact price_free (.inr rfl)
theorem numL_ne45 {n : Nat} : numL n ≠ [45] := fun e => by
  have := numL_digits n 45 (by rw [e]; simp)
  omega
theorem wP_price {o : Option Int} (h : okP o = true) : wP (priceL o) = o := by
  cases o with
  | none => rfl
  | some i =>
    have h0 : 0 < i := of_decide_eq_true h
    show wP (numL i.toNat) = _
    unfold wP
    rw [if_neg numL_ne45, numL_val]
    congr 1
    omega
theorem wOk_price {o : Option Int} (h : okP o = true) : wOk (priceL o) = true := by
  cases o with
  | none => rfl
  | some i =>
    have h0 : 0 < i := of_decide_eq_true h
    show wOk (numL i.toNat) = true
    unfold wOk
    rw [numOk_num (by omega), Bool.or_true]
theorem grid_ok {rows : List (List (Option Int))} (h : RowsOk rows) : textOk (tl (gridT rows)) = true := by
  unfold textOk
  rw [lines_grid h, Bool.and_eq_true, decide_eq_true_eq, List.length_map, List.all_eq_true]
  refine ⟨h.2.1, fun l m => ?_⟩
  obtain ⟨r, hr, rfl⟩ := List.mem_map.mp m
  obtain ⟨h6, ho⟩ := h.2.2 r hr
  unfold lineOk
  rw [words_line h6, Bool.and_eq_true, decide_eq_true_eq, List.length_map, List.all_eq_true]
  refine ⟨h6, fun w m => ?_⟩
  obtain ⟨o, mo, rfl⟩ := List.mem_map.mp m
  exact wOk_price (List.all_eq_true.mp ho o mo)
theorem grid_rows {rows : List (List (Option Int))} (h : RowsOk rows) : rowsT (tl (gridT rows)) = rows := by
  unfold rowsT
  rw [lines_grid h, List.map_map]
  have e : ∀ r ∈ rows, ((fun l => (wordsL l).map wP) ∘ lineL) r = r := fun r m => by
    obtain ⟨h6, ho⟩ := h.2.2 r m
    show (wordsL (lineL r)).map wP = r
    rw [words_line h6, List.map_map]
    have e2 : ∀ o ∈ r, (wP ∘ priceL) o = o := fun o mo => wP_price (List.all_eq_true.mp ho o mo)
    rw [List.map_congr_left e2, List.map_id']
  rw [List.map_congr_left e, List.map_id']
theorem low_okQ {o : Option Int} (h : lowQ o = true) : okP o = true := by
  cases o with
  | none => rfl
  | some i => exact decide_eq_true (of_decide_eq_true h).1
theorem priceL_len {o : Option Int} (h : lowQ o = true) : (priceL o).length ≤ 40 := by
  rw [← tl_price (low_okQ h), ← len_tl]
  exact priceT_len h
theorem line_mx {r : List (Option Int)} (h : r.all lowQ = true) : mx 0 (lineL r) ≤ 40 := by
  refine mx_join rfl fun p m => ?_
  obtain ⟨o, mo, rfl⟩ := List.mem_map.mp m
  have := mx_len (priceL o) 0
  have := priceL_len (List.all_eq_true.mp h o mo)
  omega
/-- a text that may be read: not too long, its words neither, its signs signs -/
structure Tb (t : List Nat) : Prop where
  len : t.length ≤ 100000
  mx : mx 0 t ≤ 600
  ok : ∀ c ∈ t, c < 0x110000
theorem Tb.word {t l w : List Nat} (h : Tb t) (hl : l ∈ linesL t) (hw : w ∈ wordsL l) : w.length ≤ 640 := Nat.le_trans (word_mx hl hw) (Nat.le_trans h.mx (by decide))
theorem Tb.line {t l : List Nat} (h : Tb t) (hl : l ∈ linesL t) : l.length ≤ 100000 := by
  obtain ⟨p, q, e⟩ := line_part hl
  have := h.len
  have := congrArg List.length e
  simp only [List.length_append] at this
  omega
end U
namespace U
open PySem PySem.Spec PyProof.Rows L2 TL

/-- the number that a word shows -/
def numV (w : List Nat) : Int := ((NumText.digitsVal w : Nat) : Int)
def isNum (w : List Nat) : Bool := !w.isEmpty && (w.all dig && (!(w.head? == some 48) || w == [48]))
def isYT : V → Bool
  | .str t => textOk (tl t)
  | _ => false
def sp_is_numeral (_K : PySem.W.Frag) : Sp := sp1 fun x H Q _ => ∃ w, x = .str w ∧ w.length ≤ 100000 ∧ Q (.bl (isNum (tl w))) H
def sp__is_price_text (_K : PySem.W.Frag) : Sp := sp1 fun x H Q _ => ∃ w, x = .str w ∧ w.length ≤ 100000 ∧ Q (.bl (wOk (tl w))) H
def sp__price_of (_K : PySem.W.Frag) : Sp := sp1 fun x H Q _ => ∃ w, x = .str w ∧ wOk (tl w) = true ∧ w.length ≤ 640 ∧ Q (pV (wP (tl w))) H
def sp__is_line (_K : PySem.W.Frag) : Sp := sp1 fun x H Q _ => ∃ w, x = .str w ∧ w.length ≤ 100000 ∧ ∀ H', Same H H' → Q (.bl (lineOk (tl w))) H'
def sp__is_yard_text (K : PySem.W.Frag) : Sp := sp1 fun x H Q _ => ∃ a, Is K H x a ∧ (∀ t, x = .str t → t.length ≤ 100000) ∧ ∀ H', Same H H' → Q (.bl (isYT x)) H'
def sp_Yard_read (K : PySem.W.Frag) : Sp := sp2 fun c x H Q E => ∃ a, c = .ref (He.ga K "Yard") ∧ Is K H x a ∧ (∀ t, x = .str t → Tb (tl t)) ∧
  (∀ t, x = .str t → textOk (tl t) = true → ∀ z H', Same H H' → H z = none → Yd K H' z (rowsT (tl t)) → Q (.ref z) H') ∧ (isYT x = false → Rz K "InvalidText" "value" x H E)
def t_is_numeral (K : PySem.W.Frag) (E : XK) : TS := (tRet (tAndV (tOp (uNe K) (tVar 0) (tC (.str ""))) (tAndV (tOp (uEq K) (tBM K "str" rStrip (tVar 0) (tCons (tC (.str "0123456789")) tNil)) (tC (.str ""))) (tOrV (tOp (uNe K) (tOp (uIx K) (tVar 0) (tC (.int 0))) (tC (.str "0"))) (tOp (uEq K) (tVar 0) (tC (.str "0")))))))
def t__is_price_text (K : PySem.W.Frag) (E : XK) : TS := (tRet (tOrV (tOp (uEq K) (tVar 0) (tC (.str "-"))) (tAndV (tFn (sp_is_numeral K) E (tCons (tVar 0) tNil)) (tOp (uNe K) (tVar 0) (tC (.str "0"))))))
def t__price_of (K : PySem.W.Frag) (E : XK) : TS := (tRet (tIf (tTest (tOp (uEq K) (tVar 0) (tC (.str "-")))) (tC .non) (tCB rIntS (tCons (tVar 0) tNil))))
def t__is_line (K : PySem.W.Frag) (E : XK) : TS := (tSeq (tAsg (tBM K "str" rSplit (tVar 0) (tCons (tC (.str " ")) tNil)) (gName 1)) (tRet (tAndV (tOp (uEq K) (tCB (uLen K) (tCons (tVar 1) tNil)) (tCB (uLen K) (tCons (tC (.ref (He.ga K "WAYS"))) tNil))) (tCB (rAll K) (tCons (tLc (iSeq K (tVar 1)) (gName 2) tYes (tFn (sp__is_price_text K) E0 (tCons (tVar 2) tNil)) [2]) tNil)))))
def t__is_yard_text (K : PySem.W.Frag) (E : XK) : TS := (tSeq (tIfS (tNot (tB (tCB (uIsi K) (tCons (tVar 0) (tCons (tC (.ty "str")) tNil))))) (tRet (tC (.bl false))) tNext) (tSeq (tAsg (tBM K "str" rSplit (tVar 0) (tCons (tC (.str "\n")) tNil)) (gName 1)) (tRet (tAndV (tOp uLe (tCB (uLen K) (tCons (tVar 1) tNil)) (tC (.int 60))) (tCB (rAll K) (tCons (tLc (iSeq K (tVar 1)) (gName 2) tYes (tFn (sp__is_line K) E0 (tCons (tVar 2) tNil)) [2]) tNil))))))
def t_Yard_read (K : PySem.W.Frag) (E : XK) : TS := (tSeq (tIfS (tNot (tB (tFn (sp__is_yard_text K) E (tCons (tVar 1) tNil)))) (tRse K "InvalidText" "value" E (tCons (tVar 1) tNil)) tNext) (tRet (tMakeL 0 (He.ga K "Yard") (sp_Yard_init K) E (tCons (tLc (iSeq K (tBM K "str" rSplit (tVar 1) (tCons (tC (.str "\n")) tNil))) (gName 2) tYes (tLc (iSeq K (tBM K "str" rSplit (tVar 2) (tCons (tC (.str " ")) tNil))) (gName 3) tYes (tFn (sp__price_of K) E0 (tCons (tVar 3) tNil)) [3]) [2]) tNil))))
theorem str_nil {w : Str} : w = "" ↔ tl w = [] := by
  rw [str_eq_tl]
  have : tl ("" : Str) = [] := by decide +kernel
  rw [this]
theorem str_bar {w : Str} : w = "-" ↔ tl w = [45] := by
  rw [str_eq_tl]
  have : tl ("-" : Str) = [45] := by decide +kernel
  rw [this]
theorem str_zero {w : Str} : w = "0" ↔ tl w = [48] := by
  rw [str_eq_tl]
  have : tl ("0" : Str) = [48] := by decide +kernel
  rw [this]
theorem strip_dig (w : Str) : (Txt.stripChars w "0123456789" = "") ↔ (tl w).all dig = true := by
  rw [strip_nil, List.all_eq_true]
  have e : ∀ c : Nat, ("0123456789" : Str).cps.contains c = dig c := by
    intro c
    have : ("0123456789" : Str).cps = #[48, 49, 50, 51, 52, 53, 54, 55, 56, 57] := by decide +kernel
    rw [this, Bool.eq_iff_iff, dig_iff, Array.contains_iff_mem]
    simp
    omega
  exact forall₂_congr fun c _ => by rw [e]
theorem ix_first {w : Str} {c : Nat} {r : List Nat} {K : PySem.W.Frag} {H : Hp} {Q : VK} (hl : w.length ≤ 100000) (h : tl w = c :: r) (q : Q (.str ⟨#[c]⟩) H) : uIx K (.str w) (.int 0) H Q := by
  refine uIx_str (c := c) (Nat.le_trans hl (by decide)) ?_ q
  have e : w.cps.toList = c :: r := h
  rw [e]
  unfold atI ixN
  rw [if_pos (by decide), if_pos (by rw [List.length_cons]; omega)]
  rfl
theorem sign_zero {c : Nat} : ((⟨#[c]⟩ : Str) = "0") ↔ c = 48 := by
  rw [str_zero]
  show [c] = [48] ↔ _
  simp
section
variable {K : PySem.W.Frag} (F : KF K) {vs : List V} {H : Hp} {Q : VK} {E : XK}
local macro_rules | `(tactic| walk_at "w") => `(tactic| try simp only [turnE, lcT, Snoc, tRet, tRetN, tAndV, tOrV, tNotV, tCB, tCons, tVar, tNil, tC, tOp, tSeq, tAsg, gName, gSub, tIfS, tDrop, tFn, tTup, tLst, tNext, tB, tTest, tNot, tAnd, tOr, tIf, tChain, tUn, rU, tFld, tPart, tNoPart, L2.tSl, tBM, tPar, tPar3, tTruth, tDNewK,
  L2.start, List.map_cons, List.map_nil, List.length_cons, List.length_nil, List.replicate_succ, List.replicate_zero, List.append_nil, List.nil_append, List.cons_append, List.singleton_append, Nat.sub_self, Nat.zero_add, Nat.reduceAdd, Nat.reduceSub,
  List.getElem?_cons_zero, List.getElem?_cons_succ, List.set_cons_zero, List.set_cons_succ, Option.some.injEq, exists_eq_left, exists_eq_left', V.int.injEq, V.bl.injEq, V.str.injEq, V.ref.injEq,
  uAdd_int, uAdd_str, uSub_int, uMul_int, uMul_str, uDiv_int, uMod_int, uPow_int, uLt_int, uLe_int, uGt_int, uGe_int, uIs_non, uNis_non, uIs_bl, uNis_bl, sp1, sp2, sp3, sp4, uEq_int, uEq_str, uNe_int, uNe_str, uSl_str, uLen_str, decide_eq_true_eq])
local macro_rules | `(tactic| walk_at "1") => `(tactic| try simp only [turnE, lcT, Snoc, tRet, tRetN, tAndV, tOrV, tNotV, tCB, tCons, tVar, tNil, tC, tOp, tAsg, gName, gSub, tIfS, tDrop, tFn, tTup, tLst, tNext, tB, tTest, tNot, tAnd, tOr, tIf, tChain, tUn, rU, tFld, tPart, tNoPart, L2.tSl, tBM, tPar, tPar3, tTruth, tDNewK,
  L2.start, List.map_cons, List.map_nil, List.length_cons, List.length_nil, List.replicate_succ, List.replicate_zero, List.append_nil, List.nil_append, List.cons_append, List.singleton_append, Nat.sub_self, Nat.zero_add, Nat.reduceAdd, Nat.reduceSub,
  List.getElem?_cons_zero, List.getElem?_cons_succ, List.set_cons_zero, List.set_cons_succ, Option.some.injEq, exists_eq_left, exists_eq_left', V.int.injEq, V.bl.injEq, V.str.injEq, V.ref.injEq,
  uAdd_int, uAdd_str, uSub_int, uMul_int, uMul_str, uDiv_int, uMod_int, uPow_int, uLt_int, uLe_int, uGt_int, uGe_int, uIs_non, uNis_non, uIs_bl, uNis_bl, sp1, sp2, sp3, sp4, uEq_int, uEq_str, uNe_int, uNe_str, uSl_str, uLen_str, decide_eq_true_eq])
local macro_rules | `(tactic| walk_at "s") => `(tactic| ((try dsimp only [turnE]); with_reducible refine seq_ ?_))

include F in
theorem read_is_numeral (h : sp_is_numeral K vs H Q E) : t_is_numeral K E { nx := fun _ H' => Q .non H', rt := Q } (start ["word"] vs) H := by
  match vs, h with
  | [_], ⟨w, rfl, hl, q⟩ =>
    unfold t_is_numeral
    walk_at "1"
    by_cases e : w = ""
    · have e2 := str_nil.mp e
      simp only [e, decide_true, Bool.not_true, Bool.false_eq_true, if_false]
      have : isNum (tl w) = false := by rw [e2]; rfl
      rw [this] at q
      exact q
    · simp only [e, decide_false, Bool.not_false, if_true]
      have ne : tl w ≠ [] := fun z => e (str_nil.mpr z)
      obtain ⟨c, r, hc⟩ : ∃ c r, tl w = c :: r := by
        cases z : tl w with
        | nil => exact absurd z ne
        | cons c r => exact ⟨c, r, rfl⟩
      refine ⟨(by first | exact rfl | exact Or.inl rfl | exact ⟨_, rfl⟩ | trivial), w, _, rfl, rfl, Nat.le_trans hl (by decide), ?_⟩
      walk_at "1"
      by_cases e2 : Txt.stripChars w "0123456789" = ""
      · have ad := (strip_dig w).mp e2
        simp only [e2, decide_true, if_true]
        refine ix_first hl hc ?_
        walk_at "1"
        have en : isNum (tl w) = (!decide (c = 48) || decide (w = "0")) := by
          unfold isNum
          rw [ad, hc]
          have : decide (w = "0") = (c :: r == [48]) := by
            rw [← hc, Bool.eq_iff_iff, decide_eq_true_iff, str_zero, beq_iff_eq]
          rw [this, Bool.eq_iff_iff]
          simp
        rw [en] at q
        by_cases e3 : c = 48
        · simpa [e3, sign_zero] using q
        · simpa [e3, sign_zero] using q
      · have ad : (tl w).all dig = false := by
          rw [Bool.eq_false_iff]
          exact fun z => e2 ((strip_dig w).mpr z)
        have : isNum (tl w) = false := by unfold isNum; rw [ad, Bool.false_and, Bool.and_false]
        rw [this] at q
        simpa [e2] using q
theorem wOk_num (w : List Nat) : wOk w = (w == [45] || (isNum w && !(w == [48]))) := by
  unfold wOk numOk isNum
  cases w with
  | nil => rfl
  | cons c r =>
    have e : ((c :: r : List Nat).head? == some 48) = decide (c = 48) := by
      rw [Bool.eq_iff_iff, beq_iff_eq, decide_eq_true_iff]
      simp
    rw [e]
    by_cases h1 : c = 48
    · subst h1
      cases r with
      | nil => decide
      | cons d t =>
        have e2 : (48 :: d :: t == [48]) = false := by simp
        rw [e2]
        simp
    · have e2 : (c :: r == [48]) = false := by simp [h1]
      rw [e2]
      simp
include F in
theorem read__is_price_text (h : sp__is_price_text K vs H Q E) : t__is_price_text K E { nx := fun _ H' => Q .non H', rt := Q } (start ["word"] vs) H := by
  match vs, h with
  | [_], ⟨w, rfl, hl, q⟩ =>
    unfold t__is_price_text sp_is_numeral
    walk_at "1"
    rw [wOk_num] at q
    have e1 : decide (w = "-") = (tl w == [45]) := by rw [Bool.eq_iff_iff, decide_eq_true_iff, str_bar, beq_iff_eq]
    have e2 : decide (w = "0") = (tl w == [48]) := by rw [Bool.eq_iff_iff, decide_eq_true_iff, str_zero, beq_iff_eq]
    by_cases z1 : w = "-"
    · rw [if_pos z1]
      have : (tl w == [45]) = true := by rw [← e1]; exact decide_eq_true z1
      rw [this, Bool.true_or] at q
      exact q
    · rw [if_neg z1]
      have : (tl w == [45]) = false := by rw [← e1]; exact decide_eq_false z1
      rw [this, Bool.false_or] at q
      refine ⟨hl, ?_⟩
      rw [e2]
      cases z2 : isNum (tl w) with
      | true =>
        rw [z2, Bool.true_and] at q
        exact q
      | false =>
        rw [z2, Bool.false_and] at q
        exact q
include F in
theorem read__price_of (h : sp__price_of K vs H Q E) : t__price_of K E { nx := fun _ H' => Q .non H', rt := Q } (start ["word"] vs) H := by
  match vs, h with
  | [_], ⟨w, rfl, ho, hl, q⟩ =>
    unfold t__price_of
    walk_at "1"
    by_cases e : w = "-"
    · rw [if_pos e]
      have : wP (tl w) = none := by unfold wP; rw [if_pos (str_bar.mp e)]
      rw [this] at q
      exact q
    · rw [if_neg e]
      have n : ¬ tl w = [45] := fun z => e (str_bar.mpr z)
      have h2 : numOk (tl w) = true := by
        unfold wOk at ho
        rw [Bool.or_eq_true] at ho
        exact ho.resolve_left fun z => n (eq_of_beq z)
      have : wP (tl w) = some (numV (tl w)) := by unfold wP; rw [if_neg n]; rfl
      rw [this] at q
      exact int_word h2 hl q
/-- [f(x) for x in texts], f a judge that only makes new things -/
theorem all_texts {ys : List Str} {f : Str → Bool} {p : Addr} {te : TE} {j : Nat} {σ : L2.St} {H0 : Hp} (hs : SqL K H0 p (ys.map V.str)) (hl : ys.length ≤ 1000000) {tt : TE} (ht : ∀ Q, tt σ H0 Q = Q (.ref p) H0)
    (one : ∀ y ∈ ys, ∀ (H : Hp) (Q' : VK), Same H0 H → (∀ H', Same H H' → Q' (.bl (f y)) H') → te (σ.set j (some (.str y))) H Q') (q : ∀ H', Same H0 H' → Q (.bl (ys.all f)) H') :
    tLc (iSeq K tt) (gName j) tYes te [j] σ H0 (fun x H1 => rAll K [x] H1 Q) := by
  refine tLc_seq (p := p) (.inl hs) ht fun J G P hG D hD => ?_
  refine lc_grow P (fun acc _ => acc = ((ys.map f).take acc.length).map V.bl) hD (by rw [List.length_map]; exact Nat.le_trans hl (by decide)) hG (fun _ _ => rfl) (fun _ _ _ _ _ _ h => h) ?_ ?_
  · rintro i y acc H2 Q' hy s hl ha k
    rw [List.getElem?_map] at hy
    obtain ⟨z, hz, rfl⟩ := Option.map_eq_some_iff.mp hy
    refine one z (List.mem_of_getElem? hz) H2 Q' s fun H' s' => k _ _ s' (take_snoc V.bl ha hl (by rw [List.getElem?_map, hz]; rfl))
  · rintro acc H2 hl s hD2 ha
    rw [List.length_map] at hl
    have hm : acc = (ys.map f).map V.bl := by
      rw [ha, hl, List.take_of_length_le (by simp)]
    refine ⟨D, ys.map f, rfl, .inl (.inl (by rw [hD2, hm])), ?_⟩
    have := q H2 s
    rw [List.all_map]
    exact this
theorem split_all {x : Str} {b : Str} {g : List Nat → List (List Nat)} (e : (Txt.split x b).map tl = g (tl x)) (f : List Nat → Bool) : (Txt.split x b).all (fun y => f (tl y)) = (g (tl x)).all f := by
  rw [← e, List.all_map]
  rfl
theorem split_len {x : Str} {b : Str} {g : List Nat → List (List Nat)} (e : (Txt.split x b).map tl = g (tl x)) : (Txt.split x b).length = (g (tl x)).length := by
  rw [← e, List.length_map]
theorem lines_few {x : Str} (h : x.length ≤ 100000) : (Txt.split x "\n").length ≤ 1000000 := by
  rw [split_len (tl_split x)]
  have := spl_len 10 (tl x) []
  have e := len_tl x
  unfold linesL
  omega
theorem words_few {x : Str} (h : x.length ≤ 100000) : (Txt.split x " ").length ≤ 1000000 := by
  rw [split_len (tl_splitW x)]
  have := spl_len 32 (tl x) []
  have e := len_tl x
  unfold wordsL
  omega
theorem word_len {x w : Str} (h : x.length ≤ 100000) (m : w ∈ Txt.split x " ") : w.length ≤ 100000 := by
  have m2 : tl w ∈ wordsL (tl x) := by rw [← tl_splitW]; exact List.mem_map.mpr ⟨w, m, rfl⟩
  obtain ⟨p, q, e⟩ := word_part m2
  have := congrArg List.length e
  have e1 := len_tl x
  have e2 := len_tl w
  simp only [List.length_append] at this
  omega
theorem line_len {x w : Str} (h : x.length ≤ 100000) (m : w ∈ Txt.split x "\n") : w.length ≤ 100000 := by
  have m2 : tl w ∈ linesL (tl x) := by rw [← tl_split]; exact List.mem_map.mpr ⟨w, m, rfl⟩
  obtain ⟨p, q, e⟩ := line_part m2
  have := congrArg List.length e
  have e1 := len_tl x
  have e2 := len_tl w
  simp only [List.length_append] at this
  omega
theorem tLc_inN {t : TE} {g : TG} {tt : TT} {te : TE} {vs : List Nat} {σ : L2.St} {H : Hp} {Q : VK} (h : t σ H fun x H1 => ∃ a, x = .ref a ∧ (∃ xs, SqL K H1 a xs) ∧ ∀ D, H1 D = none → LcB (Itl K a) g tt te vs σ H1 D (Q (.ref D))) : tLc (iSeq K t) g tt te vs σ H Q := .inl h
include F in
theorem read__is_line (h : sp__is_line K vs H Q E) : t__is_line K E { nx := fun _ H' => Q .non H', rt := Q } (start ["line", "words", "word"] vs) H := by
  match vs, h with
  | [_], ⟨w, rfl, hl, q⟩ =>
    unfold t__is_line sp__is_price_text
    walk_at "s"
    walk_at "1"
    refine ⟨rfl, split_of (by decide +kernel) (by omega) fun p hp => ?_⟩
    have s1 : Same H (upd H p (.lst ((Txt.split w " ").map V.str))) := same_new hp
    have gp : upd H p (.lst ((Txt.split w " ").map V.str)) p = some (.lst ((Txt.split w " ").map V.str)) := upd_same
    generalize upd H p (.lst ((Txt.split w " ").map V.str)) = H1 at *
    have en := split_len (tl_splitW w)
    refine uLen_seq (.inl (.inl (.inl gp))) (uLen_seq (.inr (F.ways H1)) ?_)
    walk_at "1"
    rw [List.length_map, en]
    by_cases e : (wordsL (tl w)).length = 6
    · rw [if_pos (show ((wordsL (tl w)).length : Int) = ((6 : Nat) : Int) by omega)]
      refine all_texts (f := fun y => wOk (tl y)) (.inl (.inl gp)) (words_few hl) (tVar_eq rfl) (fun y hy H2 Q' s2 k => ?_) fun H2 s2 => ?_
      · simp only [List.set_cons_zero, List.set_cons_succ]
        walk_at "1"
        exact ⟨word_len hl hy, k _ (Same.refl _)⟩
      · rw [split_all (tl_splitW w) wOk]
        have := q H2 (s1.trans s2)
        unfold lineOk at this
        rw [decide_eq_true e, Bool.true_and] at this
        exact this
    · rw [if_neg (show ¬ ((wordsL (tl w)).length : Int) = ((6 : Nat) : Int) by omega)]
      have := q H1 s1
      unfold lineOk at this
      rw [decide_eq_false e, Bool.false_and] at this
      exact this
include F in
theorem read__is_yard_text (h : sp__is_yard_text K vs H Q E) : t__is_yard_text K E { nx := fun _ H' => Q .non H', rt := Q } (start ["value", "lines", "line"] vs) H := by
  match vs, h with
  | [x], ⟨a, ha, hl, q⟩ =>
    unfold t__is_yard_text sp__is_line
    walk_at "s"
    walk_at "1"
    refine isi_ty (b := .str) F rfl ha ⟨_, rfl, ?_⟩
    by_cases e : a = .str
    · subst e
      obtain ⟨w, rfl⟩ := ha.str_inv
      have hl := hl w rfl
      rw [if_neg (by decide)]
      show tSeq _ _ _ _ _
      walk_at "s"
      walk_at "1"
      refine ⟨rfl, split_of (by decide +kernel) (by omega) fun p hp => ?_⟩
      have s1 : Same H (upd H p (.lst ((Txt.split w "\n").map V.str))) := same_new hp
      have gp : upd H p (.lst ((Txt.split w "\n").map V.str)) p = some (.lst ((Txt.split w "\n").map V.str)) := upd_same
      generalize upd H p (.lst ((Txt.split w "\n").map V.str)) = H1 at *
      have en := split_len (tl_split w)
      refine uLen_seq (.inl (.inl (.inl gp))) ?_
      walk_at "1"
      rw [List.length_map, en]
      by_cases e : (linesL (tl w)).length ≤ 60
      · rw [if_pos (by omega)]
        refine all_texts (f := fun y => lineOk (tl y)) (.inl (.inl gp)) (lines_few hl) (tVar_eq rfl) (fun y hy H2 Q' s2 k => ?_) fun H2 s2 => ?_
        · simp only [List.set_cons_zero, List.set_cons_succ]
          walk_at "1"
          exact ⟨line_len hl hy, fun H' s' => k _ s'⟩
        · rw [split_all (tl_split w) lineOk]
          have := q H2 (s1.trans s2)
          unfold isYT textOk at this
          dsimp only at this
          rw [decide_eq_true e, Bool.true_and] at this
          exact this
      · rw [if_neg (by omega)]
        have := q H1 s1
        unfold isYT textOk at this
        dsimp only at this
        rw [decide_eq_false e, Bool.false_and] at this
        exact this
    · have : a.sub .str = false := by
        revert e
        cases a <;> decide
      rw [this, if_pos (by decide)]
      have nx : isYT x = false := by
        cases x with
        | str z => exact absurd ha.of_str e
        | _ => rfl
      have := q H (Same.refl _)
      rw [nx] at this
      exact this
include F in
theorem read_Yard_read (h : sp_Yard_read K vs H Q E) : t_Yard_read K E { nx := fun _ H' => Q .non H', rt := Q } (start ["cls", "text", "line", "word"] vs) H := by
  match vs, h with
  | [_, x], ⟨a, rfl, ha, tb, q, rz⟩ =>
    unfold t_Yard_read sp__is_yard_text sp__price_of
    walk_at "s"
    walk_at "1"
    refine ⟨a, ha, fun t e => by have := (tb t e).len; rwa [← len_tl] at this, fun H1 s1 => ?_⟩
    cases e : isYT x with
    | false =>
      rw [if_pos (by decide)]
      exact rse_var (K := K) (c := "InvalidText") (f := "value") (E := E) (i := 1) rfl ((rz e).same s1)
    | true =>
      rw [if_neg (by decide)]
      obtain ⟨t, rfl⟩ : ∃ t, x = .str t := by
        cases x with
        | str z => exact ⟨z, rfl⟩
        | _ => cases e
      have tb := tb t rfl
      have q := q t rfl e
      have hl : t.length ≤ 100000 := by have := tb.len; rwa [← len_tl] at this
      have okT : textOk (tl t) = true := e
      have few : (linesL (tl t)).length ≤ 60 ∧ (linesL (tl t)).all lineOk = true := by
        unfold textOk at okT
        rw [Bool.and_eq_true, decide_eq_true_eq] at okT
        exact okT
      refine ⟨rfl, ?_⟩
      walk_at "1"
      refine tLc_inN ?_
      walk_at "1"
      refine ⟨rfl, split_of (by decide +kernel) (by omega) fun p hp => ⟨p, rfl, ⟨_, .inl (.inl upd_same)⟩, fun D hD => ?_⟩⟩
      have s2 : Same H1 (upd H1 p (.lst ((Txt.split t "\n").map V.str))) := same_new hp
      have gp : upd H1 p (.lst ((Txt.split t "\n").map V.str)) p = some (.lst ((Txt.split t "\n").map V.str)) := upd_same
      generalize upd H1 p (.lst ((Txt.split t "\n").map V.str)) = H2 at *
      have en := split_len (tl_split t)
      have at_line : ∀ (i : Nat) (y : Str), (Txt.split t "\n")[i]? = some y → (rowsT (tl t))[i]? = some ((wordsL (tl y)).map wP) ∧ lineOk (tl y) = true ∧ y.length ≤ 100000 ∧ tl y ∈ linesL (tl t) := fun i y hy => by
        have m : tl y ∈ linesL (tl t) := by rw [← tl_split]; exact List.mem_map.mpr ⟨y, List.mem_of_getElem? hy, rfl⟩
        refine ⟨?_, List.all_eq_true.mp few.2 _ m, line_len hl (List.mem_of_getElem? hy), m⟩
        unfold rowsT
        rw [← tl_split, List.map_map, List.getElem?_map, hy]
        rfl
      refine lc_fresh (plain_L (xs := (Txt.split t "\n").map V.str)) (fun i => ((rowsT (tl t))[i]?.getD []).map pV) hD (by rw [List.length_map, en]; omega) (fun H' e => .inl (.inl (e _ _ gp))) ?_ ?_
      · rintro i x H3 Q' hx s3 k
        rw [List.getElem?_map] at hx
        obtain ⟨y, hy, rfl⟩ := Option.map_eq_some_iff.mp hx
        obtain ⟨r1, r2, r3, r4⟩ := at_line i y hy
        rw [r1, Option.getD_some] at k
        simp only [List.set_cons_zero, List.set_cons_succ]
        refine tLc_inN ?_
        walk_at "1"
        refine ⟨rfl, split_of (by decide +kernel) (by omega) fun p2 hp2 => ⟨p2, rfl, ⟨_, .inl (.inl upd_same)⟩, fun D2 hD2 => ?_⟩⟩
        have s4 : Same H3 (upd H3 p2 (.lst ((Txt.split y " ").map V.str))) := same_new hp2
        have gp2 : upd H3 p2 (.lst ((Txt.split y " ").map V.str)) p2 = some (.lst ((Txt.split y " ").map V.str)) := upd_same
        generalize upd H3 p2 (.lst ((Txt.split y " ").map V.str)) = H4 at *
        have ew := split_len (tl_splitW y)
        have nD2 : H3 D2 = none := by
          cases e : H3 D2 with
          | none => rfl
          | some o => rw [s4 _ _ e] at hD2; cases hD2
        have l6 : (wordsL (tl y)).length = 6 ∧ (wordsL (tl y)).all wOk = true := by
          unfold lineOk at r2
          rw [Bool.and_eq_true, decide_eq_true_eq] at r2
          exact r2
        refine lc_grow (plain_L (xs := (Txt.split y " ").map V.str)) (fun acc _ => acc = (((wordsL (tl y)).map wP).take acc.length).map pV) hD2 (by rw [List.length_map, ew, l6.1]; decide) (fun H' e => .inl (.inl (e _ _ gp2))) (fun _ _ => rfl) (fun _ _ _ _ _ _ h => h) ?_ ?_
        · rintro n z acc H5 Q2 hz s5 hl5 ha k2
          rw [List.getElem?_map] at hz
          obtain ⟨w, hw, rfl⟩ := Option.map_eq_some_iff.mp hz
          have mw : tl w ∈ wordsL (tl y) := by rw [← tl_splitW]; exact List.mem_map.mpr ⟨w, List.mem_of_getElem? hw, rfl⟩
          simp only [List.set_cons_zero, List.set_cons_succ]
          walk_at "1"
          refine ⟨List.all_eq_true.mp l6.2 _ mw, by have := tb.word r4 mw; rwa [← len_tl] at this, ?_⟩
          refine k2 _ _ (Same.refl _) (take_snoc pV ha hl5 ?_)
          rw [← tl_splitW, List.map_map, List.getElem?_map, hw]
          rfl
        · rintro acc H5 hl5 s5 gD2 ha
          rw [List.length_map, ew] at hl5
          refine k D2 H5 nD2 (s4.trans s5) ?_
          rw [gD2, ha, List.take_of_length_le (by rw [hl5, List.length_map]; exact Nat.le_refl _)]
      · rintro H3 ls s3 hl3 gD at_ _ _ _
        rw [List.length_map, en] at hl3
        have hv : RowV K H3 (.ref D) (rowsT (tl t)) := by
          refine ⟨D, _, rfl, .inl (.inl (.inl gD)), by unfold rowsT; rw [List.length_map, List.length_map, hl3], fun m v r z1 z2 => ?_⟩
          rw [List.getElem?_map] at z1
          obtain ⟨am, ham, rfl⟩ := Option.map_eq_some_iff.mp z1
          refine ⟨am, rfl, .inl (.inl (.inl ?_))⟩
          have := at_ m am ham
          rw [z2] at this
          exact this
        refine make_yd hv (rowsT_ok okT (spl_ne 10 _ _)) fun z H4 s4 nz hz => q z H4 (((s1.trans s2).trans s3).trans s4) ?_ hz
        cases e4 : H z with
        | none => rfl
        | some u => rw [((s1.trans s2).trans s3) _ _ e4] at nz; cases nz
end
end U
namespace U
open PySem PySem.Spec PyProof.Rows L2

/-! ### the boxes of numbers that the laws draw from -/
def Bx (H : Hp) (b : Addr) (m : Int) : Prop := ∃ g s k : Int, H b = some (.lst [.int g, .int s, .int k]) ∧ 0 ≤ g ∧ 0 ≤ s ∧ s < 2147483648 ∧ 0 ≤ k ∧ k ≤ m
theorem Bx.mono {H : Hp} {b : Addr} {m n : Int} (h : Bx H b m) (e : m ≤ n) : Bx H b n := by
  obtain ⟨g, s, k, h1, h2, h3, h4, h5, h6⟩ := h
  exact ⟨g, s, k, h1, h2, h3, h4, h5, by omega⟩
theorem Bx.same {H H' : Hp} {b : Addr} {m : Int} (h : Bx H b m) (e : Same H H') : Bx H' b m := by
  obtain ⟨g, s, k, h1, h2⟩ := h
  exact ⟨g, s, k, e _ _ h1, h2⟩
theorem Bx.at_ {H : Hp} {b : Addr} {m : Int} (h : Bx H b m) : ∃ l, H b = some (.lst l) := by
  obtain ⟨g, s, k, h1, _⟩ := h
  exact ⟨_, h1⟩
theorem Off.lst {H H' : Hp} {b c : Addr} {o : HO} (h : Off b H H') (hc : H c = some o) (n : c ≠ b) : H' c = some o := h _ _ n hc
theorem Off.new {H H2 : Hp} {b D : Addr} {o : HO} (h : Off b H H2) (hD : H D = none) : Off b H (upd H2 D o) := fun c u n e => by rw [upd_ne (ne_of_none e hD)]; exact h c u n e
theorem Bx.upd {H : Hp} {b D : Addr} {m : Int} {o : HO} (h : Bx H b m) (n : D ≠ b) : Bx (upd H D o) b m := by
  obtain ⟨g, s, k, h1, h2⟩ := h
  exact ⟨g, s, k, by rw [upd_ne n.symm]; exact h1, h2⟩
def sp__law_take (_K : PySem.W.Frag) : Sp := sp2 fun x am H Q _ => ∃ b m k, x = .ref b ∧ am = .int k ∧ 0 < k ∧ k ≤ 1000000000 ∧ Bx H b m ∧ m ≤ 1000000000 ∧ ∀ d H', 0 ≤ d → d < k → Off b H H' → Bx H' b (m + 1) → Q (.int d) H'
def sp__law_cell (K : PySem.W.Frag) : Sp := sp2 fun x y H Q _ => ∃ (a : Addr) (ns : List Int) (i : Int), x = .ref a ∧ y = .int i ∧ SqL K H a (ns.map V.int) ∧ 0 ≤ i ∧ i < 1000000 ∧ ∀ c H', Same H H' → Q (.int c) H'
def sp__law_bag (_K : PySem.W.Frag) : Sp := sp1 fun x H Q _ => ∃ c, x = .int c ∧ ∀ b H', H b = none → Same H H' → Bx H' b 0 → Q (.ref b) H'
def t__law_take (K : PySem.W.Frag) (E : XK) : TS := (tSeq (tIfS (tTest (tOp uGt (tOp (uIx K) (tVar 0) (tC (.int 0))) (tC (.int 0)))) (tSeq (tAsg (tOp uMod (tCB rInt (tCons (tOp (uIx K) (tVar 0) (tC (.int 0))) tNil)) (tVar 1)) (gName 2)) (tSeq (tAsg (tOp uDiv (tOp (uIx K) (tVar 0) (tC (.int 0))) (tVar 1)) (gSub (tVar 0) (tC (.int 0)) rSetL)) (tRet (tVar 2)))) tNext) (tSeq (tAsg (tOp uAdd (tOp (uIx K) (tVar 0) (tC (.int 2))) (tC (.int 1))) (gSub (tVar 0) (tC (.int 2)) rSetL)) (tSeq (tAsg (tOp uMod (tOp uPow (tCB rInt (tCons (tOp uAdd (tOp uAdd (tOp (uIx K) (tVar 0) (tC (.int 1))) (tOp uMul (tC (.int 32453239)) (tOp (uIx K) (tVar 0) (tC (.int 2))))) (tC (.int 1559))) tNil)) (tC (.int 5))) (tC (.int 2147483647))) (gName 3)) (tSeq (tAsg (tOp uMod (tOp uPow (tCB rInt (tCons (tOp uAdd (tVar 3) (tOp uMul (tC (.int 104729)) (tOp (uIx K) (tVar 0) (tC (.int 2))))) tNil)) (tC (.int 3))) (tC (.int 2147483587))) (gName 3)) (tRet (tOp uMod (tCB rInt (tCons (tOp uDiv (tVar 3) (tC (.int 16))) tNil)) (tVar 1)))))))
def t__law_cell (K : PySem.W.Frag) (E : XK) : TS := (tSeq (tAsg (tOp uAdd (tOp uMul (tC (.int 32453239)) (tVar 1)) (tC (.int 1559))) (gName 2)) (tRet (tIf (tTest (tOp uLt (tVar 1) (tCB (uLen K) (tCons (tVar 0) tNil)))) (tOp (uIx K) (tVar 0) (tVar 1)) (tOp uAdd (tVar 2) (tIf (tTest (tOp uGt (tCB (uLen K) (tCons (tVar 0) tNil)) (tC (.int 0)))) (tOp uMod (tCB rInt (tCons (tOp (uIx K) (tVar 0) (tC (.int 0))) tNil)) (tC (.int 1000003))) (tC (.int 0)))))))
def t__law_bag (K : PySem.W.Frag) (E : XK) : TS := (tRet (tLst (tCons (tCB uMax2 (tCons (tC (.int 0)) (tCons (tOp uSub (tVar 0) (tOp uPow (tC (.int 10)) (tC (.int 18)))) tNil))) (tCons (tOp uMod (tCB rInt (tCons (tVar 0) tNil)) (tC (.int 2147483629))) (tCons (tC (.int 0)) tNil)))))
theorem Off.free {H H' : Hp} {b l : Addr} (h : Off b H H') (n : l ≠ b) (e : H' l = none) : H l = none := by
  cases q : H l with
  | none => rfl
  | some o =>
    rw [h l o n q] at e
    cases e
theorem abc_at {K : PySem.W.Frag} {d : Int} {H : Hp} {Q : VK} (h0 : 0 ≤ d) (h1 : d < 3) (q : Q (.str (pl d.toNat)) H) : uIx K (.str "abc") (.int d) H Q := by
  refine uIx_str (c := 97 + d.toNat) (by decide) ?_ q
  obtain rfl | rfl | rfl : d = 0 ∨ d = 1 ∨ d = 2 := by omega
  · decide
  · decide
  · decide
theorem tLc_rng1 {t : TA} {σ : L2.St} {g : TG} {tt : TT} {te : TE} {vs : List Nat} {Q : VK} {H : Hp} {n : Nat} (h : ∀ R : List V → Hp → Prop, R [.int n] H → t σ H R) (hn : n ≤ 1000000000) (hc : ∀ D, H D = none → LcB (Itr 0 n) g tt te vs σ H D (Q (.ref D))) : tLc (iRng1 t) g tt te vs σ H Q := by
  refine h _ ⟨_, rfl, by omega, by omega, ?_⟩
  rw [Int.toNat_natCast]
  exact hc
/-- prices as the laws draw them: none above a hundred and some, with 27 more figures -/
def lowP : Option Int → Bool
  | none => true
  | some i => decide (0 < i ∧ i < 10 ^ 32)
def RowsLo (rows : List (List (Option Int))) : Prop := ∀ r ∈ rows, r.all lowP = true
theorem low_ok {p : Option Int} (h : lowP p = true) : okP p = true := by
  cases p with
  | none => rfl
  | some i => exact decide_eq_true (of_decide_eq_true h).1
theorem lowL_ok {r : List (Option Int)} (h : r.all lowP = true) : r.all okP = true := List.all_eq_true.mpr fun p m => low_ok (List.all_eq_true.mp h p m)
/-- a list under way, L, of lists of prices -/
def PI (H : Hp) (L b : Addr) (as : List Addr) (rows : List (List (Option Int))) : Prop := H L = some (.lst (as.map V.ref)) ∧ L ≠ b ∧ as.length = rows.length ∧ (∀ r ∈ rows, r.length = 6 ∧ r.all lowP = true) ∧
  ∀ (j : Nat) (a : Addr) (r : List (Option Int)), as[j]? = some a → rows[j]? = some r → H a = some (.lst (r.map pV)) ∧ a ≠ L ∧ a ≠ b
theorem PI.off {H H' : Hp} {L b : Addr} {as : List Addr} {rows : List (List (Option Int))} (h : PI H L b as rows) (o : Off b H H') : PI H' L b as rows := by
  obtain ⟨h1, h2, h3, h4, h5⟩ := h
  refine ⟨o _ _ h2 h1, h2, h3, h4, fun j a r z1 z2 => ?_⟩
  obtain ⟨k1, k2, k3⟩ := h5 j a r z1 z2
  exact ⟨o _ _ k3 k1, k2, k3⟩
theorem PI.put {H : Hp} {L b l : Addr} {as : List Addr} {rows : List (List (Option Int))} {o : HO} (h : PI H L b as rows) (n1 : l ≠ L) (n2 : l ∉ as) : PI (upd H l o) L b as rows := by
  obtain ⟨h1, h2, h3, h4, h5⟩ := h
  refine ⟨by rw [upd_ne n1.symm]; exact h1, h2, h3, h4, fun j a r z1 z2 => ?_⟩
  obtain ⟨k1, k2, k3⟩ := h5 j a r z1 z2
  exact ⟨by rw [upd_ne (by rintro rfl; exact n2 (List.mem_of_getElem? z1))]; exact k1, k2, k3⟩
theorem PI.fresh {H : Hp} {L b l : Addr} {as : List Addr} {rows : List (List (Option Int))} (h : PI H L b as rows) (hl : H l = none) : l ≠ L ∧ l ∉ as := by
  obtain ⟨h1, h2, h3, h4, h5⟩ := h
  refine ⟨(by rintro rfl; rw [h1] at hl; cases hl), fun m => ?_⟩
  obtain ⟨j, lt, e⟩ := List.mem_iff_getElem.mp m
  obtain ⟨k1, _⟩ := h5 j l rows[j] (by rw [← e]; exact List.getElem?_eq_getElem lt) (List.getElem?_eq_getElem (by omega))
  rw [k1] at hl
  cases hl
theorem PI.push {H : Hp} {L b l : Addr} {as : List Addr} {rows : List (List (Option Int))} {r : List (Option Int)} (h : PI H L b as rows) (hl : H l = some (.lst (r.map pV))) (n1 : l ≠ L) (n2 : l ≠ b) (h6 : r.length = 6) (ho : r.all lowP = true) :
    PI (upd H L (.lst ((as.map V.ref) ++ [.ref l]))) L b (as ++ [l]) (rows ++ [r]) := by
  obtain ⟨h1, h2, h3, h4, h5⟩ := h
  refine ⟨by rw [upd_same]; simp, h2, by simp [h3], fun x m => ?_, fun j a x z1 z2 => ?_⟩
  · rcases List.mem_append.mp m with m | m
    · exact h4 x m
    · rw [List.mem_singleton.mp m]
      exact ⟨h6, ho⟩
  · by_cases e : j < as.length
    · rw [List.getElem?_append_left e] at z1
      rw [List.getElem?_append_left (by omega)] at z2
      obtain ⟨k1, k2, k3⟩ := h5 j a x z1 z2
      exact ⟨by rw [upd_ne k2]; exact k1, k2, k3⟩
    · have e2 : j = as.length := by
        have := (List.getElem?_eq_some_iff.mp z1).1
        simp at this
        omega
      subst e2
      rw [List.getElem?_append_right (Nat.le_refl _), Nat.sub_self] at z1
      rw [List.getElem?_append_right (by omega), h3, Nat.sub_self] at z2
      cases z1
      cases z2
      exact ⟨by rw [upd_ne n1]; exact hl, n1, n2⟩
theorem PI.rowV {K : PySem.W.Frag} {H : Hp} {L b : Addr} {as : List Addr} {rows : List (List (Option Int))} (h : PI H L b as rows) : RowV K H (.ref L) rows := by
  obtain ⟨h1, h2, h3, h4, h5⟩ := h
  refine ⟨L, _, rfl, .inl (.inl (.inl h1)), by simp [h3], fun i v r z1 z2 => ?_⟩
  rw [List.getElem?_map] at z1
  obtain ⟨a, z3, rfl⟩ := Option.map_eq_some_iff.mp z1
  exact ⟨a, rfl, .inl (.inl (.inl (h5 i a r z3 z2).1))⟩
theorem d3_rep {n d : Nat} (h : d < 3) : D3 (List.replicate n d) := fun e m => by rw [List.eq_of_mem_replicate m]; exact h
theorem Bx.ne {H : Hp} {b : Addr} {m : Int} {l : Addr} (h : Bx H b m) (hl : H l = none) : l ≠ b := by
  obtain ⟨l0, hb0⟩ := h.at_
  rintro rfl
  rw [hl] at hb0
  cases hb0
/-- how many cells a law looks at -/
theorem most_of (n : Nat) (lim : Int) (hl : lim ≤ 100) : ∃ N : Nat, N ≤ 100 ∧ (if (if (n : Int) < lim then (n : Int) else lim) > 2 then (if (n : Int) < lim then (n : Int) else lim) else 2) = (N : Int) := by
  refine ⟨(if (if (n : Int) < lim then (n : Int) else lim) > 2 then (if (n : Int) < lim then (n : Int) else lim) else 2).toNat, ?_, ?_⟩
  · split <;> split <;> omega
  · split <;> split <;> omega
def sp_law0 (K : PySem.W.Frag) : Sp := sp1 fun x H Q _ => ∃ (a : Addr) (ns : List Int), x = .ref a ∧ SqL K H a (ns.map V.int) ∧ ∀ H', Q (.bl true) H'
theorem make_yard {K : PySem.W.Frag} {H : Hp} {E : XK} {rows : List (List (Option Int))} {v : V} {Q : Addr → Hp → Prop} (hr : RowV K H v rows) (ho : RowsOk rows) (q : ∀ x H', Same H H' → H x = none → Yd K H' x rows → Q x H') :
    ∀ x dx, H x = none → H dx = none → dx ≠ x → sp_Yard_init K [.ref x, v] (upd (upd H dx (.own x)) x (.ins (He.ga K "Yard") dx [])) (fun v H2 => v = .non ∧ Q x H2) E := by
  intro x dx hx hdx hne
  have s1 : Same H (upd H dx (.own x)) := same_new hdx
  have hx1 : upd H dx (.own x) x = none := by rw [upd_ne hne.symm]; exact hx
  have s2 : Same (upd H dx (.own x)) (upd (upd H dx (.own x)) x (.ins (He.ga K "Yard") dx [])) := same_new hx1
  refine ⟨x, dx, rfl, upd_same, .inl ⟨rows, hr.same (s1.trans s2), ho, fun H' o hy => ⟨rfl, q x H' ?_ hx hy⟩⟩⟩
  exact Off.same (Off.trans (Same.off (s1.trans s2)) o) hx
section
variable {K : PySem.W.Frag} (F : KF K) {vs : List V} {H : Hp} {Q : VK} {E : XK}
local macro_rules | `(tactic| walk_at "w") => `(tactic| try simp only [turnE, lcT, Snoc, tRet, tRetN, tAndV, tOrV, tNotV, tCB, tCons, tVar, tNil, tC, tOp, tSeq, tAsg, gName, gSub, tIfS, tDrop, tFn, tTup, tLst, tNext, tB, tTest, tNot, tAnd, tOr, tIf, tChain, tUn, rU, tFld, tPart, tNoPart, L2.tSl, tBM, tPar, tPar3, tTruth, tDNewK,
  L2.start, List.map_cons, List.map_nil, List.length_cons, List.length_nil, List.replicate_succ, List.replicate_zero, List.append_nil, List.nil_append, List.cons_append, List.singleton_append, Nat.sub_self, Nat.zero_add, Nat.reduceAdd, Nat.reduceSub,
  List.getElem?_cons_zero, List.getElem?_cons_succ, List.set_cons_zero, List.set_cons_succ, Option.some.injEq, exists_eq_left, exists_eq_left', V.int.injEq, V.bl.injEq, V.str.injEq, V.ref.injEq,
  uAdd_int, uAdd_str, uSub_int, uMul_int, uMul_str, uDiv_int, uMod_int, uPow_int, uLt_int, uLe_int, uGt_int, uGe_int, uIs_non, uNis_non, uIs_bl, uNis_bl, sp1, sp2, sp3, sp4, uEq_int, uEq_str, uNe_int, uNe_str, uSl_str, uLen_str, decide_eq_true_eq])
local macro_rules | `(tactic| walk_at "1") => `(tactic| try simp only [turnE, lcT, Snoc, tRet, tRetN, tAndV, tOrV, tNotV, tCB, tCons, tVar, tNil, tC, tOp, tAsg, gName, gSub, tIfS, tDrop, tFn, tTup, tLst, tNext, tB, tTest, tNot, tAnd, tOr, tIf, tChain, tUn, rU, tFld, tPart, tNoPart, L2.tSl, tBM, tPar, tPar3, tTruth, tDNewK,
  L2.start, List.map_cons, List.map_nil, List.length_cons, List.length_nil, List.replicate_succ, List.replicate_zero, List.append_nil, List.nil_append, List.cons_append, List.singleton_append, Nat.sub_self, Nat.zero_add, Nat.reduceAdd, Nat.reduceSub,
  List.getElem?_cons_zero, List.getElem?_cons_succ, List.set_cons_zero, List.set_cons_succ, Option.some.injEq, exists_eq_left, exists_eq_left', V.int.injEq, V.bl.injEq, V.str.injEq, V.ref.injEq,
  uAdd_int, uAdd_str, uSub_int, uMul_int, uMul_str, uDiv_int, uMod_int, uPow_int, uLt_int, uLe_int, uGt_int, uGe_int, uIs_non, uNis_non, uIs_bl, uNis_bl, sp1, sp2, sp3, sp4, uEq_int, uEq_str, uNe_int, uNe_str, uSl_str, uLen_str, decide_eq_true_eq])
local macro_rules | `(tactic| walk_at "s") => `(tactic| ((try dsimp only [turnE]); with_reducible refine seq_ ?_))

theorem uIx_lst {p : Addr} {xs : List V} {i : Int} {v : V} (h : H p = some (.lst xs)) (hi : atI xs i = some v) (q : Q v H) : uIx K (.ref p) (.int i) H Q := ⟨xs, v, .inl (.inl (.inl h)), hi, q⟩
theorem rInt_int {i : Int} (q : Q (.int i) H) : rInt [.int i] H Q := .inl ⟨i, rfl, q⟩
theorem rSetL_of {p : Addr} {xs : List V} {k : Int} {j : Nat} {v : V} {Q : Hp → Prop} (h : H p = some (.lst xs)) (hj : ixN xs.length k = some j) (q : Q (upd H p (.lst (xs.set j v)))) : rSetL (.ref p) (.int k) v H Q := ⟨p, xs, k, j, rfl, rfl, h, hj, q⟩
theorem cdivw_of {i j : Int} (h : 0 < j) (h2 : j ≤ 1000000000) : CDivW i j := by
  refine ⟨h, ?_⟩
  have : j.natAbs ≠ 0 := by omega
  have h3 : j.natAbs.log2 < 30 := (Nat.log2_lt this).mpr (by omega)
  omega
theorem tyL {l : Addr} {xs : List V} (h : H l = some (.lst xs)) : tyV K "list" (.ref l) H := Or.inl ⟨rfl, xs, .inl (.inl h)⟩
theorem app_of {l : Addr} {xs : List V} {y : V} (h : H l = some (.lst xs)) (hx : xs.length ≤ 100000) (q : Q .non (upd H l (.lst (xs ++ [y])))) : rAppend (.ref l) [y] H Q := ⟨l, xs, y, rfl, rfl, h, Nat.lt_of_lt_of_le (show xs.length < 100001 by omega) (by decide), q⟩
theorem take_of {b : Addr} {m k : Int} (hb : Bx H b m) (hm : m ≤ 1000000000) (h0 : 0 < k) (h1 : k ≤ 1000000000) (q : ∀ d H', 0 ≤ d → d < k → Off b H H' → Bx H' b (m + 1) → Q (.int d) H') : sp__law_take K [.ref b, .int k] H Q E :=
  ⟨b, m, k, rfl, rfl, h0, h1, hb, hm, q⟩
include F in
theorem read__law_cell (h : sp__law_cell K vs H Q E) : t__law_cell K E { nx := fun _ H' => Q .non H', rt := Q } (start ["_law_script", "_law_k", "_law_spare"] vs) H := by
  match vs, h with
  | [_, _], ⟨a, ns, i, rfl, rfl, ha, h0, h1, q⟩ =>
    unfold t__law_cell
    walk_at "s"
    walk_at "1"
    refine ⟨.inl (by omega), ?_⟩
    refine uLen_seq (.inl ha) ?_
    refine ⟨_, rfl, ?_⟩
    by_cases hi : i < ((ns.map V.int).length : Int)
    · rw [if_pos (decide_eq_true hi)]
      have hl : i.toNat < ns.length := by simp at hi; omega
      refine ⟨_, .int ns[i.toNat], .inl ha, ?_, q _ _ (Same.refl H)⟩
      unfold atI ixN
      rw [if_pos h0, if_pos hi]
      show (ns.map V.int)[i.toNat]? = _
      rw [List.getElem?_map, List.getElem?_eq_getElem hl]
      rfl
    · rw [if_neg (by simpa using hi)]
      walk_at "1"
      refine uLen_seq (.inl ha) ?_
      refine ⟨_, rfl, ?_⟩
      by_cases hz : (0 : Int) < ((ns.map V.int).length : Int)
      · rw [if_pos (decide_eq_true hz)]
        have hl : 0 < ns.length := by simp at hz; omega
        refine ⟨_, .int ns[0], .inl ha, ?_, ?_⟩
        · unfold atI ixN
          rw [if_pos (by decide), if_pos hz]
          show (ns.map V.int)[0]? = _
          rw [List.getElem?_map, List.getElem?_eq_getElem hl]
          rfl
        · refine rInt_int ?_
          walk_at "1"
          exact ⟨by omega, q _ _ (Same.refl H)⟩
      · rw [if_neg (by simpa using hz)]
        walk_at "1"
        exact q _ _ (Same.refl H)
include F in
theorem read__law_bag (h : sp__law_bag K vs H Q E) : t__law_bag K E { nx := fun _ H' => Q .non H', rt := Q } (start ["_law_cell_here"] vs) H := by
  match vs, h with
  | [_], ⟨c, rfl, q⟩ =>
    unfold t__law_bag
    walk_at "1"
    refine ⟨⟨by omega, by omega, by omega⟩, 0, c - 10 ^ Int.toNat 18, rfl, rInt_int ?_⟩
    walk_at "1"
    refine ⟨by omega, by decide, fun b hb => q b _ hb (same_new hb) ⟨_, _, 0, upd_same, ?_, Int.emod_nonneg _ (by omega), ?_, by omega, by omega⟩⟩
    · split <;> omega
    · have := Int.emod_lt_of_pos c (show (0 : Int) < 2147483629 by omega)
      omega
include F in
theorem read__law_take (h : sp__law_take K vs H Q E) : t__law_take K E { nx := fun _ H' => Q .non H', rt := Q } (start ["_law_bag_here", "_law_limit", "_law_digit", "_law_mixed"] vs) H := by
  match vs, h with
  | [_, _], ⟨b, m, k, rfl, rfl, hk, hk2, ⟨g, s, n, hb, h1, h2, h3, h4, h5⟩, hm, q⟩ =>
    unfold t__law_take
    walk_at "w"
    refine uIx_lst hb rfl ?_
    walk_at "w"
    by_cases hg : 0 < g
    · simp only [hg, if_true]
      refine uIx_lst hb rfl (rInt_int ⟨hk, ?_⟩)
      refine uIx_lst hb rfl ?_
      walk_at "w"
      refine ⟨cdivw_of hk hk2, rSetL_of (j := 0) hb rfl ?_⟩
      walk_at "w"
      refine q _ _ (Int.emod_nonneg _ (by omega)) (Int.emod_lt_of_pos _ hk) off_upd ⟨_, _, _, upd_same, Int.ediv_nonneg h1 (by omega), h2, h3, h4, by omega⟩
    · simp only [hg, if_false]
      refine uIx_lst hb rfl ?_
      walk_at "w"
      refine rSetL_of (j := 2) hb rfl ?_
      have ha : upd H b (.lst ([.int g, .int s, .int n].set 2 (.int (n + 1)))) b = some (.lst [.int g, .int s, .int (n + 1)]) := upd_same
      have ho : Off b H (upd H b (.lst ([.int g, .int s, .int n].set 2 (.int (n + 1))))) := off_upd
      generalize upd H b (.lst ([.int g, .int s, .int n].set 2 (.int (n + 1)))) = H1 at *
      refine uIx_lst ha rfl ?_
      walk_at "w"
      refine uIx_lst ha rfl ?_
      walk_at "w"
      refine ⟨.inl (by omega), ?_⟩
      refine rInt_int ?_
      walk_at "w"
      refine ⟨⟨by omega, by omega, by omega⟩, by omega, ?_⟩
      generalize hx : (s + 32453239 * (n + 1) + 1559) ^ (Int.toNat 5) % 2147483647 = x
      have hx1 : 0 ≤ x ∧ x < 2147483647 := by
        rw [← hx]
        exact ⟨Int.emod_nonneg _ (by omega), Int.emod_lt_of_pos _ (by omega)⟩
      refine uIx_lst ha rfl ?_
      walk_at "w"
      refine ⟨.inl (by omega), ?_⟩
      refine rInt_int ?_
      walk_at "w"
      refine ⟨⟨by omega, by omega, by omega⟩, by omega, ?_⟩
      generalize hy : (x + 104729 * (n + 1)) ^ (Int.toNat 3) % 2147483587 = y
      refine ⟨cdivw_of (by omega) (by omega), ?_⟩
      refine rInt_int ⟨hk, ?_⟩
      exact q _ _ (Int.emod_nonneg _ (by omega)) (Int.emod_lt_of_pos _ hk) ho ⟨_, _, _, ha, h1, h2, h3, by omega, by omega⟩
end
end U
namespace U
open PySem PySem.Spec PyProof.Rows L2

def sp__law_rows (K : PySem.W.Frag) : Sp := sp2 fun x y H Q _ => ∃ (b : Addr) (m : Int) (n : Nat), x = .ref b ∧ y = .int n ∧ 1 ≤ n ∧ n ≤ 60 ∧ Bx H b m ∧ m ≤ 1000000 ∧
  ∀ rows v H', rows.length ≤ n → RowsOk rows → RowV K H' v rows → Off b H H' → Bx H' b (m + 2000) → RowsLo rows → (∃ L as, v = .ref L ∧ PI H' L b as rows) → Q v H'
def t__law_rows (K : PySem.W.Frag) (E : XK) : TS := (tSeq (tPar 2 3 (tCons (tFn (sp__law_take K) E (tCons (tVar 0) (tCons (tC (.int 5)) tNil))) (tCons (tOp (uIx K) (tLst (tCons (tC (.int 0)) (tCons (tC (.int 0)) (tCons (tC (.int 9)) (tCons (tC (.int 4)) tNil))))) (tFn (sp__law_take K) E (tCons (tVar 0) (tCons (tC (.int 4)) tNil)))) tNil))) (tSeq (tAsg (tLst tNil) (gName 4)) (tSeq (tFor (iRng1 (tCons (tOp uAdd (tC (.int 1)) (tFn (sp__law_take K) E (tCons (tVar 0) (tCons (tVar 1) tNil)))) tNil)) (gName 5) (tSeq (tAsg (tLst tNil) (gName 6)) (tSeq (tFor (iRng1 (tCons (tC (.int 6)) tNil)) (gName 7) (tSeq (tAsg (tOp (uIx K) (tLst (tCons (tC (.int 1)) (tCons (tOp uAdd (tC (.int 1)) (tFn (sp__law_take K) E (tCons (tVar 0) (tCons (tC (.int 3)) tNil)))) (tCons (tOp uAdd (tC (.int 1)) (tFn (sp__law_take K) E (tCons (tVar 0) (tCons (tC (.int 9)) tNil)))) (tCons (tOp uAdd (tC (.int 1)) (tFn (sp__law_take K) E (tCons (tVar 0) (tCons (tOp uPow (tC (.int 10)) (tC (.int 6))) tNil)))) (tCons (tOp uSub (tOp uPow (tC (.int 10)) (tC (.int 19))) (tFn (sp__law_take K) E (tCons (tVar 0) (tCons (tC (.int 3)) tNil)))) tNil)))))) (tVar 2)) (gName 8)) (tDrop (tBM K "list" rAppend (tVar 6) (tCons (tIf (tAnd (tTest (tOp uGt (tVar 3) (tC (.int 0)))) (tTest (tOp (uEq K) (tFn (sp__law_take K) E (tCons (tVar 0) (tCons (tVar 3) tNil))) (tC (.int 0))))) (tC .non) (tVar 8)) tNil))))) (tDrop (tBM K "list" rAppend (tVar 4) (tCons (tVar 6) tNil)))))) (tRet (tVar 4)))))
section
variable {K : PySem.W.Frag} (F : KF K) {vs : List V} {H : Hp} {Q : VK} {E : XK}
local macro_rules | `(tactic| walk_at "w") => `(tactic| try simp only [turnE, lcT, Snoc, tRet, tRetN, tAndV, tOrV, tNotV, tCB, tCons, tVar, tNil, tC, tOp, tSeq, tAsg, gName, gSub, tIfS, tDrop, tFn, tTup, tLst, tNext, tB, tTest, tNot, tAnd, tOr, tIf, tChain, tUn, rU, tFld, tPart, tNoPart, L2.tSl, tBM, tPar, tPar3, tTruth, tDNewK,
  L2.start, List.map_cons, List.map_nil, List.length_cons, List.length_nil, List.replicate_succ, List.replicate_zero, List.append_nil, List.nil_append, List.cons_append, List.singleton_append, Nat.sub_self, Nat.zero_add, Nat.reduceAdd, Nat.reduceSub,
  List.getElem?_cons_zero, List.getElem?_cons_succ, List.set_cons_zero, List.set_cons_succ, Option.some.injEq, exists_eq_left, exists_eq_left', V.int.injEq, V.bl.injEq, V.str.injEq, V.ref.injEq,
  uAdd_int, uAdd_str, uSub_int, uMul_int, uMul_str, uDiv_int, uMod_int, uPow_int, uLt_int, uLe_int, uGt_int, uGe_int, uIs_non, uNis_non, uIs_bl, uNis_bl, sp1, sp2, sp3, sp4, uEq_int, uEq_str, uNe_int, uNe_str, uSl_str, uLen_str, decide_eq_true_eq])
local macro_rules | `(tactic| walk_at "1") => `(tactic| try simp only [turnE, lcT, Snoc, tRet, tRetN, tAndV, tOrV, tNotV, tCB, tCons, tVar, tNil, tC, tOp, tAsg, gName, gSub, tIfS, tDrop, tFn, tTup, tLst, tNext, tB, tTest, tNot, tAnd, tOr, tIf, tChain, tUn, rU, tFld, tPart, tNoPart, L2.tSl, tBM, tPar, tPar3, tTruth, tDNewK,
  L2.start, List.map_cons, List.map_nil, List.length_cons, List.length_nil, List.replicate_succ, List.replicate_zero, List.append_nil, List.nil_append, List.cons_append, List.singleton_append, Nat.sub_self, Nat.zero_add, Nat.reduceAdd, Nat.reduceSub,
  List.getElem?_cons_zero, List.getElem?_cons_succ, List.set_cons_zero, List.set_cons_succ, Option.some.injEq, exists_eq_left, exists_eq_left', V.int.injEq, V.bl.injEq, V.str.injEq, V.ref.injEq,
  uAdd_int, uAdd_str, uSub_int, uMul_int, uMul_str, uDiv_int, uMod_int, uPow_int, uLt_int, uLe_int, uGt_int, uGe_int, uIs_non, uNis_non, uIs_bl, uNis_bl, sp1, sp2, sp3, sp4, uEq_int, uEq_str, uNe_int, uNe_str, uSl_str, uLen_str, decide_eq_true_eq])
local macro_rules | `(tactic| walk_at "s") => `(tactic| ((try dsimp only [turnE]); with_reducible refine seq_ ?_))

theorem tFor_rng {t : TA} {g : TG} {tb : TS} {D : Ends} {σ : L2.St} {H : Hp} (h : t σ H fun vs H1 => ∃ j : Int, vs = [.int j] ∧ -(2 ^ 62) ≤ j ∧ j < 2 ^ 62 ∧ tFor (fun _ H' R => R (Itr 0 j.toNat) H') g tb D σ H1) : tFor (iRng1 t) g tb D σ H := h
theorem laps_of {J : It} {xs : List V} {G : Hp → Prop} (P : Plain J xs G) {g : TG} {tb : TS} {D : Ends} {σ : L2.St} {H : Hp} (Pv : Nat → L2.St → Hp → Prop) (h0 : Pv 0 σ H) (hG : ∀ i τ H', Pv i τ H' → G H')
    (hs : ∀ i x τ H, xs[i]? = some x → Pv i τ H → g x τ H fun ρ H2 => tb (turnE D (Pv (i + 1))) ρ H2) (hd : ∀ τ H, Pv xs.length τ H → D.nx τ H) : tFor (fun _ H' R => R J H') g tb D σ H :=
  for_plain P (wi := fun _ H' R => R J H') (fun R r => r) Pv h0 hG hs hd
theorem bars_at {e : Int} (h0 : 0 ≤ e) (h1 : e < 4) : ∃ p : Int, atI [V.int 0, .int 0, .int 9, .int 4] e = some (.int p) ∧ 0 ≤ p ∧ p ≤ 9 := by
  obtain rfl | rfl | rfl | rfl : e = 0 ∨ e = 1 ∨ e = 2 ∨ e = 3 := by omega
  all_goals exact ⟨_, rfl, by omega, by omega⟩
theorem kind_at {a b c d k : Int} (ha : 0 ≤ a) (ha2 : a < 3) (hb : 0 ≤ b) (hb2 : b < 9) (hc : 0 ≤ c) (hc2 : c < 1000000) (hd : 0 ≤ d) (hd2 : d < 3) (h0 : 0 ≤ k) (h1 : k < 5) :
    ∃ p : Int, atI [V.int 1, .int (1 + a), .int (1 + b), .int (1 + c), .int (10 ^ Int.toNat 19 - d)] k = some (.int p) ∧ 0 < p ∧ p < 10 ^ 32 := by
  have t : (10 : Int) ^ Int.toNat 19 = 10000000000000000000 := by decide
  have t2 : (10 : Int) ^ 32 = 100000000000000000000000000000000 := by decide
  rw [t, t2]
  obtain rfl | rfl | rfl | rfl | rfl : k = 0 ∨ k = 1 ∨ k = 2 ∨ k = 3 ∨ k = 4 := by omega
  all_goals exact ⟨_, rfl, by omega, by omega⟩
theorem rows_s0 {b : Addr} {x1 x3 x4 x5 x6 x7 x8 : Option V} {M : Int} {kd : Int} {D : Ends} {H : Hp} (hb : Bx H b M) (hM : M ≤ 100000000) (h0 : 0 ≤ kd) (h1 : kd < 5)
    (q : ∀ p H', 0 < p ∧ p < 10 ^ 32 → Off b H H' → Bx H' b (M + 4) → D.nx [some (.ref b), x1, some (.int kd), x3, x4, x5, x6, x7, some (.int p)] H') :
    (tAsg (tOp (uIx K) (tLst (tCons (tC (.int 1)) (tCons (tOp uAdd (tC (.int 1)) (tFn (sp__law_take K) E (tCons (tVar 0) (tCons (tC (.int 3)) tNil)))) (tCons (tOp uAdd (tC (.int 1)) (tFn (sp__law_take K) E (tCons (tVar 0) (tCons (tC (.int 9)) tNil)))) (tCons (tOp uAdd (tC (.int 1)) (tFn (sp__law_take K) E (tCons (tVar 0) (tCons (tOp uPow (tC (.int 10)) (tC (.int 6))) tNil)))) (tCons (tOp uSub (tOp uPow (tC (.int 10)) (tC (.int 19))) (tFn (sp__law_take K) E (tCons (tVar 0) (tCons (tC (.int 3)) tNil)))) tNil)))))) (tVar 2)) (gName 8)) D [some (.ref b), x1, some (.int kd), x3, x4, x5, x6, x7, x8] H := by
  walk_at "1"
  refine take_of hb (by omega) (by omega) (by omega) fun a H1 a0 a1 o1 b1 => ?_
  walk_at "1"
  refine take_of b1 (by omega) (by omega) (by omega) fun c H2 c0 c1 o2 b2 => ?_
  walk_at "1"
  refine ⟨⟨by omega, by omega, by omega⟩, take_of b2 (by omega) (by decide) (by decide) fun d H3 d0 d1 o3 b3 => ?_⟩
  walk_at "1"
  refine ⟨⟨by omega, by omega, by omega⟩, take_of b3 (by omega) (by omega) (by omega) fun e H4 e0 e1 o4 b4 => ?_⟩
  walk_at "1"
  refine ⟨by decide, fun A hA => ?_⟩
  have d1' : d < 1000000 := by
    have t : (10 : Int) ^ Int.toNat 6 = 1000000 := by decide
    rw [t] at d1
    exact d1
  obtain ⟨p, hp, p0⟩ := kind_at a0 a1 c0 c1 d0 d1' e0 e1 h0 h1
  refine uIx_lst upd_same hp ?_
  exact q p _ p0 (((o1.trans o2).trans (o3.trans o4)).trans (Same.off (same_new hA))) (Bx.upd (b4.mono (by omega)) (b4.ne hA))
theorem rows_s1 {b l : Addr} {x1 x2 x4 x5 x7 : Option V} {M bars p : Int} {xs : List V} {D : Ends} {H : Hp} (hb : Bx H b M) (hM : M ≤ 100000000) (h0 : 0 ≤ bars) (h1 : bars ≤ 9) (hl : H l = some (.lst xs)) (hx : xs.length ≤ 100000) (hlb : l ≠ b)
    (q : ∀ v H', v = .non ∨ v = .int p → Off b H H' → Bx H' b (M + 1) → D.nx [some (.ref b), x1, x2, some (.int bars), x4, x5, some (.ref l), x7, some (.int p)] (upd H' l (.lst (xs ++ [v])))) :
    (tDrop (tBM K "list" rAppend (tVar 6) (tCons (tIf (tAnd (tTest (tOp uGt (tVar 3) (tC (.int 0)))) (tTest (tOp (uEq K) (tFn (sp__law_take K) E (tCons (tVar 0) (tCons (tVar 3) tNil))) (tC (.int 0))))) (tC .non) (tVar 8)) tNil))) D [some (.ref b), x1, x2, some (.int bars), x4, x5, some (.ref l), x7, some (.int p)] H := by
  walk_at "1"
  refine ⟨tyL hl, ?_⟩
  by_cases z : 0 < bars
  · rw [if_pos z]
    refine take_of hb (by omega) z (by omega) fun d H1 d0 d1 o1 b1 => ?_
    walk_at "1"
    have hl1 := o1.lst hl hlb
    by_cases e : d = 0
    · rw [if_pos e]
      exact app_of hl1 hx (q _ _ (.inl rfl) o1 b1)
    · rw [if_neg e]
      exact app_of hl1 hx (q _ _ (.inr rfl) o1 b1)
  · rw [if_neg z]
    rw [if_neg (by decide)]
    exact app_of hl hx (q _ _ (.inr rfl) Off.refl (hb.mono (by omega)))
include F in
theorem read__law_rows (h : sp__law_rows K vs H Q E) : t__law_rows K E { nx := fun _ H' => Q .non H', rt := Q } (start ["_law_bag_here", "_law_most", "_law_kind", "_law_bars", "_law_found", "_law_crate", "_law_line", "_law_way", "_law_price"] vs) H := by
  match vs, h with
  | [_, _], ⟨b, m, n, rfl, rfl, hn1, hn, hb, hm, q⟩ =>
    unfold t__law_rows
    walk_at "s"
    simp only [tPar]
    walk_at "1"
    refine take_of hb (by omega) (by omega) (by omega) fun kd H1 k0 k1 o1 b1 => ?_
    walk_at "1"
    refine ⟨by decide, fun A hA => ?_⟩
    have hAb := b1.ne hA
    refine take_of (b1.upd hAb) (by omega) (by omega) (by omega) fun e H2 e0 e1 o2 b2 => ?_
    obtain ⟨bars, hbars, r0, r1⟩ := bars_at e0 e1
    refine uIx_lst (o2.lst upd_same hAb) hbars ?_
    have o2 : Off b H1 H2 := Off.trans (Same.off (same_new hA)) o2
    refine ⟨_, _, rfl, ?_⟩
    walk_at "s"
    walk_at "1"
    refine ⟨by decide, fun L hL => ?_⟩
    have hLb := b2.ne hL
    have o12 := o1.trans o2
    have hL0 : H L = none := Off.free o12 hLb hL
    have oL : Off b H (upd H2 L (.lst [])) := Off.new o12 hL0
    have gL : upd H2 L (.lst []) L = some (.lst []) := upd_same
    have bL := b2.upd (o := .lst []) hLb
    generalize upd H2 L (.lst []) = H3 at *
    walk_at "s"
    refine tFor_rng ?_
    walk_at "1"
    refine take_of bL (by omega) (by omega) (by omega) fun d H4 d0 d1 o4 b4 => ?_
    walk_at "1"
    obtain ⟨nn, en⟩ : ∃ nn : Nat, 1 + d = (nn : Int) := ⟨(1 + d).toNat, by omega⟩
    refine ⟨_, rfl, by omega, by omega, ?_⟩
    rw [en, Int.toNat_natCast]
    have hLx := o4.lst gL hLb
    have o4 : Off b H H4 := oL.trans o4
    refine laps_of (plain_R (lo := 0) (n := nn)) (fun i τ H' => ∃ as rows o5 o6 o7 o8, τ = [some (.ref b), some (.int n), some (.int kd), some (.int bars), some (.ref L), o5, o6, o7, o8] ∧ PI H' L b as rows ∧ rows.length = i ∧ Bx H' b (m + 3 + 30 * i) ∧ Off b H H')
      ⟨[], [], none, none, none, none, rfl, ⟨hLx, hLb, rfl, (fun r m => nomatch m), fun j a r z => nomatch z⟩, rfl, b4.mono (by omega), o4⟩ (fun _ _ _ _ => trivial) ?_ ?_
    · rintro i x τ H5 hx ⟨as, rows, o5, o6, o7, o8, rfl, hp, hr, hb5, ho5⟩
      have hi : i < nn := by have := (List.getElem?_eq_some_iff.mp hx).1; simpa [intsL] using this
      simp only [gName, List.set_cons_zero, List.set_cons_succ]
      walk_at "s"
      walk_at "1"
      refine ⟨by decide, fun l hl => ?_⟩
      obtain ⟨hlL, hla⟩ := hp.fresh hl
      have hlb := hb5.ne hl
      walk_at "s"
      refine for_rng1 (n := 6) (fun R r => by
        walk_at "1"
        exact r) (by omega) (fun j σ H' => ∃ r o7 o8, σ = [some (.ref b), some (.int n), some (.int kd), some (.int bars), some (.ref L), some x, some (.ref l), o7, o8] ∧ H' l = some (.lst (r.map pV)) ∧ r.length = j ∧ r.all lowP = true ∧ PI H' L b as rows ∧ Bx H' b (m + 3 + 30 * i + 5 * j) ∧ Off b H H')
        ⟨[], o7, o8, rfl, upd_same, rfl, rfl, hp.put hlL hla, (hb5.upd hlb).mono (by omega), ho5.trans (Same.off (same_new hl))⟩ ?_ ?_
      · rintro j σ H6 hj ⟨r, p7, p8, rfl, g1, g2, g3, g4, g5, g6⟩
        simp only [gName, List.set_cons_zero, List.set_cons_succ]
        walk_at "s"
        refine rows_s0 g5 (by omega) k0 k1 fun p H7 p0 o7 b7 => ?_
        refine rows_s1 b7 (by omega) r0 r1 (o7.lst g1 hlb) (by rw [List.length_map, g2]; omega) hlb fun v H8 hv o8 b8 => ?_
        have o68 := o7.trans o8
        have hv2 : ∃ w, v = pV w ∧ lowP w = true := by
          rcases hv with rfl | rfl
          · exact ⟨none, rfl, rfl⟩
          · exact ⟨some p, rfl, decide_eq_true p0⟩
        obtain ⟨w, rfl, hw⟩ := hv2
        refine ⟨r ++ [w], _, _, rfl, by rw [upd_same]; simp, by simp [g2], by simp [g3, hw], (g4.off o68).put hlL hla, Bx.upd (b8.mono (by omega)) hlb, Off.new (g6.trans o68) ?_⟩
        exact Off.free ho5 hlb hl
      · rintro σ H6 ⟨r, p7, p8, rfl, g1, g2, g3, g4, g5, g6⟩
        walk_at "1"
        refine ⟨tyL g4.1, app_of g4.1 (by rw [List.length_map, g4.2.2.1]; omega) ?_⟩
        exact ⟨as ++ [l], rows ++ [r], _, _, _, _, rfl, g4.push g1 hlL hlb g2 g3, by simp [hr], Bx.upd (g5.mono (by omega)) hLb, Off.new g6 hL0⟩
    · rintro τ H5 ⟨as, rows, o5, o6, o7, o8, rfl, hp, hr, hb5, ho5⟩
      have e : (intsL 0 nn).length = nn := by simp [intsL]
      rw [e] at hr hb5
      walk_at "1"
      exact q rows _ _ (by omega) ⟨by omega, by omega, fun r m => ⟨(hp.2.2.2.1 r m).1, lowL_ok (hp.2.2.2.1 r m).2⟩⟩ hp.rowV ho5 (hb5.mono (by omega)) (fun r m => (hp.2.2.2.1 r m).2) ⟨L, as, rfl, hp⟩
end
end U
namespace U
open PySem PySem.Spec PyProof.Rows L2 TL

/-- the number of a word, nought if it shows none above nought -/
def numW (w : List Nat) : Int := if numOk w = true then numV w else 0
/-- what a text says -/
def readT (t : List Nat) : Option (List (List (Option Int))) := if textOk t = true then some (rowsT t) else none
def sp__law_written (K : PySem.W.Frag) : Sp := sp1 fun x H Q _ => ∃ rows, RowV K H x rows ∧ RowsOk rows ∧ (∀ r ∈ rows, r.all lowQ = true) ∧ ∀ H', Same H H' → Q (.str (gridT rows)) H'
def sp__law_numeral (_K : PySem.W.Frag) : Sp := sp1 fun x H Q _ => ∃ w, x = .str w ∧ w.length ≤ 640 ∧ (∀ c ∈ tl w, c < 0x110000) ∧ ∀ H', Same H H' → Q (.int (numW (tl w))) H'
def sp__law_read (K : PySem.W.Frag) : Sp := sp1 fun x H Q _ => ∃ t, x = .str t ∧ Tb (tl t) ∧ (textOk (tl t) = false → ∀ H', Same H H' → Q .non H') ∧
  (textOk (tl t) = true → ∀ l H', Same H H' → H l = none → GrL K H' l (rowsT (tl t)) → Q (.ref l) H')
def t__law_written (K : PySem.W.Frag) (E : XK) : TS := (tRet (tJoin K (tC (.str "\n")) (tLc (iSeq K (tVar 0)) (gName 1) tYes (tJoin K (tC (.str " ")) (tLc (iSeq K (tVar 1)) (gName 2) tYes (tIf (tTest (tOp uIs (tVar 2) (tC .non))) (tC (.str "-")) (tCB rStrI (tCons (tVar 2) tNil))) [2])) [1])))
def t__law_numeral (K : PySem.W.Frag) (E : XK) : TS := (tSeq (tIfS (tOr (tTest (tOp (uEq K) (tVar 0) (tC (.str "")))) (tOr (tTest (tOp (uNe K) (tLc (iStr (tVar 0)) (gName 1) (tTest (tOp (uIn K true) (tVar 1) (tC (.str "0123456789")))) (tVar 1) [1]) (tLst tNil))) (tTest (tOp (uEq K) (tOp (uIx K) (tVar 0) (tC (.int 0))) (tC (.str "0")))))) (tRet (tC (.int 0))) tNext) (tRet (tCB rIntS (tCons (tVar 0) tNil))))
def t__law_read (K : PySem.W.Frag) (E : XK) : TS := (tSeq (tAsg (tLst tNil) (gName 1)) (tSeq (tFor (iSeq K (tBM K "str" rSplit (tVar 0) (tCons (tC (.str "\n")) tNil))) (gName 2) (tSeq (tAsg (tBM K "str" rSplit (tVar 2) (tCons (tC (.str " ")) tNil)) (gName 3)) (tSeq (tAsg (tLc (iSeq K (tVar 3)) (gName 5) (tAnd (tTest (tOp (uNe K) (tVar 5) (tC (.str "-")))) (tTest (tOp (uEq K) (tFn (sp__law_numeral K) E0 (tCons (tVar 5) tNil)) (tC (.int 0))))) (tVar 5) [5]) (gName 4)) (tSeq (tIfS (tOr (tTest (tOp (uNe K) (tCB (uLen K) (tCons (tVar 3) tNil)) (tC (.int 6)))) (tTest (tOp (uNe K) (tVar 4) (tLst tNil)))) (tRet (tC .non)) tNext) (tDrop (tBM K "list" rAppend (tVar 1) (tCons (tLc (iSeq K (tVar 3)) (gName 5) tYes (tIf (tTest (tOp (uEq K) (tVar 5) (tC (.str "-")))) (tC .non) (tFn (sp__law_numeral K) E0 (tCons (tVar 5) tNil))) [5]) tNil))))))) (tRet (tIf (tTest (tOp uLt (tCB (uLen K) (tCons (tVar 1) tNil)) (tC (.int 61)))) (tVar 1) (tC .non)))))
/-- [x for x in xs if ..] -/
theorem lc_filter {J : It} {G : Hp → Prop} {xs : List V} (P : Plain J xs G) (f : V → Bool) {tt : TT} {j : Nat} {σ : L2.St} {H1 : Hp} {D : Addr} {Qd : Hp → Prop} (hj : j < σ.length) (hD : H1 D = none) (hl : xs.length ≤ 1000000) (hG : ∀ H', Same H1 H' → G H')
    (ht : ∀ x ∈ xs, ∀ (H : Hp) (R : Bool → Hp → Prop), Same H1 H → (∀ H', Same H H' → R (f x) H') → tt (σ.set j (some x)) H R) (hd : ∀ H, Same H1 H → H D = some (.lst (xs.filter f)) → Qd H) : LcB J (gName j) tt (tVar j) [j] σ H1 D Qd := by
  refine lc_plain P (fun i H => Same H1 H ∧ H D = some (.lst ((xs.take i).filter f))) ⟨same_new hD, upd_same⟩ (fun i H z => hG H z.1) ?_ fun H z => hd H z.1 (by rw [List.take_length] at z; exact z.2)
  rintro i x H hx ⟨s, hDl⟩
  have hi : i < xs.length := (List.getElem?_eq_some_iff.mp hx).1
  show wipe _ [j] = wipe σ [j] ∧ _
  refine ⟨by simp only [wipe, List.set_set], ?_⟩
  show tt ((σ.set j none).set j (some x)) H _
  rw [List.set_set]
  refine ht x (List.mem_of_getElem? hx) H _ s fun H2 s2 => ?_
  have st : (xs.take (i + 1)).filter f = (xs.take i).filter f ++ (if f x = true then [x] else []) := by
    rw [List.take_succ, hx, List.filter_append]
    cases e : f x <;> simp [e]
  cases e : f x with
  | true =>
    rw [if_pos rfl]
    rw [e, if_pos rfl] at st
    refine ⟨x, List.getElem?_set_self (by simpa [wipe] using hj), _, s2 _ _ hDl, ?_, (Off.trans (Same.off (s.trans s2)) off_upd).same hD, by rw [upd_same, st]⟩
    have l1 := List.length_filter_le f (xs.take i)
    rw [List.length_take] at l1
    exact Nat.lt_of_lt_of_le (show _ < 1000001 by omega) (by decide)
  | false =>
    rw [if_neg (by decide)]
    rw [e, if_neg (by decide), List.append_nil] at st
    exact ⟨s.trans s2, by rw [s2 _ _ hDl, st]⟩
theorem low_lowQ {o : Option Int} (h : lowP o = true) : lowQ o = true := by cases o <;> exact h
theorem all_lowQ {r : List (Option Int)} (h : r.all lowP = true) : r.all lowQ = true := List.all_eq_true.mpr fun o m => low_lowQ (List.all_eq_true.mp h o m)
section
variable {K : PySem.W.Frag} (F : KF K) {vs : List V} {H : Hp} {Q : VK} {E : XK}
local macro_rules | `(tactic| walk_at "w") => `(tactic| try simp only [turnE, lcT, Snoc, tRet, tRetN, tAndV, tOrV, tNotV, tCB, tCons, tVar, tNil, tC, tOp, tSeq, tAsg, gName, gSub, tIfS, tDrop, tFn, tTup, tLst, tNext, tB, tTest, tNot, tAnd, tOr, tIf, tChain, tUn, rU, tFld, tPart, tNoPart, L2.tSl, tBM, tPar, tPar3, tTruth, tDNewK,
  L2.start, List.map_cons, List.map_nil, List.length_cons, List.length_nil, List.replicate_succ, List.replicate_zero, List.append_nil, List.nil_append, List.cons_append, List.singleton_append, Nat.sub_self, Nat.zero_add, Nat.reduceAdd, Nat.reduceSub,
  List.getElem?_cons_zero, List.getElem?_cons_succ, List.set_cons_zero, List.set_cons_succ, Option.some.injEq, exists_eq_left, exists_eq_left', V.int.injEq, V.bl.injEq, V.str.injEq, V.ref.injEq,
  uAdd_int, uAdd_str, uSub_int, uMul_int, uMul_str, uDiv_int, uMod_int, uPow_int, uLt_int, uLe_int, uGt_int, uGe_int, uIs_non, uNis_non, uIs_bl, uNis_bl, sp1, sp2, sp3, sp4, uEq_int, uEq_str, uNe_int, uNe_str, uSl_str, uLen_str, decide_eq_true_eq])
local macro_rules | `(tactic| walk_at "1") => `(tactic| try simp only [turnE, lcT, Snoc, tRet, tRetN, tAndV, tOrV, tNotV, tCB, tCons, tVar, tNil, tC, tOp, tAsg, gName, gSub, tIfS, tDrop, tFn, tTup, tLst, tNext, tB, tTest, tNot, tAnd, tOr, tIf, tChain, tUn, rU, tFld, tPart, tNoPart, L2.tSl, tBM, tPar, tPar3, tTruth, tDNewK,
  L2.start, List.map_cons, List.map_nil, List.length_cons, List.length_nil, List.replicate_succ, List.replicate_zero, List.append_nil, List.nil_append, List.cons_append, List.singleton_append, Nat.sub_self, Nat.zero_add, Nat.reduceAdd, Nat.reduceSub,
  List.getElem?_cons_zero, List.getElem?_cons_succ, List.set_cons_zero, List.set_cons_succ, Option.some.injEq, exists_eq_left, exists_eq_left', V.int.injEq, V.bl.injEq, V.str.injEq, V.ref.injEq,
  uAdd_int, uAdd_str, uSub_int, uMul_int, uMul_str, uDiv_int, uMod_int, uPow_int, uLt_int, uLe_int, uGt_int, uGe_int, uIs_non, uNis_non, uIs_bl, uNis_bl, sp1, sp2, sp3, sp4, uEq_int, uEq_str, uNe_int, uNe_str, uSl_str, uLen_str, decide_eq_true_eq])
local macro_rules | `(tactic| walk_at "s") => `(tactic| ((try dsimp only [turnE]); with_reducible refine seq_ ?_))

include F in
theorem read__law_written (h : sp__law_written K vs H Q E) : t__law_written K E { nx := fun _ H' => Q .non H', rt := Q } (start ["_law_rows_here", "_law_line", "_law_price"] vs) H := by
  match vs, h with
  | [_], ⟨rows, ⟨p, xs, rfl, hs, hxl, hrow⟩, hok, hlow, q⟩ =>
    unfold t__law_written
    walk_at "1"
    simp only [tJoin, tM1, tC]
    refine ⟨⟨_, rfl⟩, ?_⟩
    refine tLc_seq (p := p) hs (tVar_eq rfl) fun J G P hG D hD => ?_
    refine lc_grow P (fun acc _ => acc = (rows.take acc.length).map fun r => V.str (lineT r)) hD (by rw [hxl]; exact Nat.le_trans hok.2.1 (by decide)) hG (fun _ _ => rfl) (fun _ _ _ _ _ _ h => h) ?_ ?_
    · rintro i x acc H2 Q' hx s2 hl ha k
      have hi : i < rows.length := hxl ▸ (List.getElem?_eq_some_iff.mp hx).1
      have hr : rows[i]? = some rows[i] := List.getElem?_eq_getElem hi
      obtain ⟨a, rfl, hq⟩ := hrow i x _ hx hr
      have hq := hq.same s2
      have hr6 := (hok.2.2 rows[i] (List.getElem_mem hi)).1
      have hrl := hlow rows[i] (List.getElem_mem hi)
      refine ⟨⟨_, rfl⟩, ?_⟩
      simp only [List.set_cons_zero, List.set_cons_succ]
      refine tLc_seq (p := a) hq (tVar_eq rfl) fun J G P hG D2 nD => ?_
      refine lc_grow P (fun acc _ => acc = (rows[i].take acc.length).map fun o => V.str (priceT o)) nD (by rw [List.length_map, hr6]; decide) hG (fun _ _ => rfl) (fun _ _ _ _ _ _ h => h) ?_ ?_
      · rintro n y acc2 H4 Q2 hy s4 hl2 ha2 k2
        rw [List.getElem?_map] at hy
        obtain ⟨o, ho, rfl⟩ := Option.map_eq_some_iff.mp hy
        simp only [List.set_cons_zero, List.set_cons_succ]
        have lo := List.all_eq_true.mp hrl o (List.mem_of_getElem? ho)
        have k2 := k2 (.str (priceT o)) H4 (Same.refl _) (take_snoc (fun o : Option Int => V.str (priceT o)) ha2 hl2 ho)
        walk_at "1"
        cases o with
        | none =>
          simp only [pV, decide_true, if_true]
          exact k2
        | some j =>
          rw [if_neg (fun z => by cases z)]
          exact ⟨j, rfl, low_log lo, k2⟩
      · rintro acc2 H4 hl2 s4 gD2 ha2
        rw [List.length_map] at hl2
        rw [ha2, hl2, List.take_length] at gD2
        refine ⟨" ", D2, rows[i].map priceT, rfl, rfl, .inl (.inl (.inl (by rw [gD2, List.map_map]; rfl))), ?_, ?_⟩
        · have := lineT_sum hrl hr6
          have h3 : (" " : Str).length = 1 := by decide
          rw [h3, List.length_map, hr6]
          omega
        · exact k _ _ s4 (take_snoc (fun r : List (Option Int) => V.str (lineT r)) ha hl hr)
    · rintro acc H2 hl s2 gD ha
      rw [hxl] at hl
      rw [ha, hl, List.take_length] at gD
      refine ⟨"\n", D, rows.map lineT, rfl, rfl, .inl (.inl (.inl (by rw [gD, List.map_map]; rfl))), ?_, q _ s2⟩
      have := gridT_sum hlow hok
      have h3 : ("\n" : Str).length = 1 := by decide
      have := hok.2.1
      rw [h3, List.length_map]
      omega
def oddS : V → Bool
  | .str z => !(tl z).all dig
  | _ => false
def oddL (w : List Nat) : List Str := (w.filter fun c => !dig c).map fun c => (⟨#[c]⟩ : Str)
theorem odd_filter (w : Str) : (strL w).filter oddS = (oddL (tl w)).map V.str := by
  unfold strL oddL
  rw [List.filter_map, List.map_map]
  have e : (oddS ∘ fun c => V.str (⟨#[c]⟩ : Str)) = fun c => !dig c := by
    funext c
    show (!(List.all [c] dig)) = _
    simp
  rw [e]
  rfl
theorem odd_nil {w : List Nat} : oddL w = [] ↔ w.all dig = true := by
  unfold oddL
  rw [List.map_eq_nil_iff, List.filter_eq_nil_iff, List.all_eq_true]
  simp
theorem nin_digits {c : Nat} {Q : VK} (q : Q (.bl (!dig c)) H) : uIn K true (.str ⟨#[c]⟩) (.str "0123456789") H Q := by
  show Q (.bl (!(!(Builtin.Str.occurrences "0123456789" ⟨#[c]⟩ 0 ("0123456789" : Str).length 1).isEmpty))) H
  rw [PySem.StrLaws.found_one]
  have : decide (c ∈ ("0123456789" : Str).cps.toList) = dig c := by
    have : ("0123456789" : Str).cps.toList = [48, 49, 50, 51, 52, 53, 54, 55, 56, 57] := by decide +kernel
    rw [this, Bool.eq_iff_iff, dig_iff, decide_eq_true_iff]
    simp
    omega
  rw [this]
  exact q
include F in
theorem read__law_numeral (h : sp__law_numeral K vs H Q E) : t__law_numeral K E { nx := fun _ H' => Q .non H', rt := Q } (start ["_law_word", "_law_sign"] vs) H := by
  match vs, h with
  | [_], ⟨w, rfl, hl, ok, q⟩ =>
    unfold t__law_numeral
    walk_at "s"
    walk_at "1"
    by_cases e : w = ""
    · rw [if_pos e]
      have : numW (tl w) = 0 := by rw [str_nil.mp e]; rfl
      rw [this] at q
      exact q _ (Same.refl _)
    · rw [if_neg e]
      refine tLc_str (z := w) (tVar_eq rfl) fun D hD => ?_
      refine lc_filter plain_S oddS (show 1 < 2 by decide) hD (by rw [strL_len]; have : w.cps.size ≤ 640 := hl; omega) (fun _ _ => trivial) (fun x m H1 R s1 r => ?_) fun H1 s1 gD => ?_
      · obtain ⟨c, _, rfl⟩ := List.mem_map.mp m
        simp only [List.set_cons_zero, List.set_cons_succ]
        walk_at "1"
        refine nin_digits ?_
        refine ⟨_, rfl, ?_⟩
        have := r H1 (Same.refl _)
        have e2 : oddS (.str ⟨#[c]⟩) = !dig c := by
          show (!(List.all [c] dig)) = _
          simp
        rw [e2] at this
        exact this
      · rw [odd_filter] at gD
        refine ⟨by decide, fun p hp => ?_⟩
        have s2 : Same H1 (upd H1 p (.lst [])) := same_new hp
        have gp : upd H1 p (.lst []) p = some (.lst (([] : List Str).map V.str)) := upd_same
        generalize upd H1 p (.lst []) = H2 at *
        have okL : ∀ x ∈ oddL (tl w), PyData.strOk x = true := fun x m => by
          obtain ⟨c, mc, rfl⟩ := List.mem_map.mp m
          have := ok c (List.mem_filter.mp mc).1
          rw [strOk_iff]
          intro d md
          have : d ∈ [c] := md
          rw [List.mem_singleton.mp this]
          exact ok c (List.mem_filter.mp mc).1
        refine ne_strs (.inl (.inl (s2 _ _ gD))) (.inl (.inl gp)) okL (fun x m => nomatch m) ?_
        have ne : tl w ≠ [] := fun z => e (str_nil.mpr z)
        by_cases ad : (tl w).all dig = true
        · rw [decide_eq_true (odd_nil.mpr ad)]
          refine ⟨_, rfl, ?_⟩
          rw [Bool.not_true, if_neg (by decide)]
          obtain ⟨c, r, hc⟩ : ∃ c r, tl w = c :: r := by
            cases z : tl w with
            | nil => exact absurd z ne
            | cons c r => exact ⟨c, r, rfl⟩
          refine ix_first (by omega) hc ?_
          rw [uEq_str]
          by_cases c0 : c = 48
          · rw [decide_eq_true (sign_zero.mpr c0)]
            refine ⟨_, rfl, ?_⟩
            rw [if_pos rfl]
            have : numW (tl w) = 0 := by
              unfold numW numOk
              rw [hc, c0]
              simp
            rw [this] at q
            exact q _ (s1.trans s2)
          · rw [decide_eq_false (fun z => c0 (sign_zero.mp z))]
            refine ⟨_, rfl, ?_⟩
            rw [if_neg (by decide)]
            have nk : numOk (tl w) = true := by
              unfold numOk
              rw [ad, hc]
              simp [c0]
            have : numW (tl w) = numV (tl w) := by
              unfold numW
              rw [if_pos nk]
            rw [this] at q
            exact int_word nk hl (q _ (s1.trans s2))
        · rw [decide_eq_false (fun z => ad (odd_nil.mp z))]
          refine ⟨_, rfl, ?_⟩
          rw [Bool.not_false, if_pos rfl, if_pos trivial]
          have : numW (tl w) = 0 := by
            unfold numW numOk
            rw [Bool.not_eq_true] at ad
            rw [ad]
            simp
          rw [this] at q
          exact q _ (s1.trans s2)
theorem tFor_sqN {t : TE} {g : TG} {tb : TS} {D : Ends} {σ : L2.St} {H : Hp} (h : t σ H fun x H1 => ∃ a, x = .ref a ∧ (∃ xs, SqL K H1 a xs) ∧ tFor (fun _ H' R => R (Itl K a) H') g tb D σ H1) : tFor (iSeq K t) g tb D σ H := .inl h
theorem lines_len {x : Str} (h : x.length ≤ 100000) : (Txt.split x "\n").length ≤ 100001 := by
  rw [split_len (tl_split x)]
  have := spl_len 10 (tl x) []
  have e := len_tl x
  unfold linesL
  omega
def badW : V → Bool
  | .str w => !decide (w = "-") && decide (numW (tl w) = 0)
  | _ => false
theorem numW_zero {w : List Nat} : numW w = 0 ↔ numOk w = false := by
  unfold numW
  cases e : numOk w with
  | true =>
    rw [if_pos rfl]
    have := numOk_pos e
    unfold numV
    constructor
    · intro z; omega
    · intro z; cases z
  | false => simp
theorem badW_iff {w : Str} : badW (.str w) = !wOk (tl w) := by
  show (!decide (w = "-") && decide (numW (tl w) = 0)) = _
  have e1 : decide (w = "-") = (tl w == [45]) := by rw [Bool.eq_iff_iff, decide_eq_true_iff, str_bar, beq_iff_eq]
  have e2 : decide (numW (tl w) = 0) = !numOk (tl w) := by
    rw [Bool.eq_iff_iff, decide_eq_true_iff, numW_zero]
    cases numOk (tl w) <;> simp
  rw [e1, e2]
  unfold wOk
  rw [Bool.not_or]
include F in
theorem read__law_read (h : sp__law_read K vs H Q E) : t__law_read K E { nx := fun _ H' => Q .non H', rt := Q } (start ["_law_text", "_law_found", "_law_line", "_law_words", "_law_wrong", "_law_word"] vs) H := by
  match vs, h with
  | [_], ⟨t, rfl, tb, q0, q1⟩ =>
    unfold t__law_read
    walk_at "s"
    walk_at "1"
    refine ⟨by decide, fun L hL => ?_⟩
    walk_at "s"
    refine tFor_sqN ?_
    walk_at "1"
    have hl : t.length ≤ 100000 := by have := tb.len; rwa [← len_tl] at this
    refine ⟨rfl, split_of (by decide +kernel) (by omega) fun p hp => ⟨p, rfl, ⟨_, .inl (.inl upd_same)⟩, ?_⟩⟩
    have pL : p ≠ L := by rintro rfl; rw [upd_same] at hp; cases hp
    have s1 : Same H (upd (upd H L (.lst [])) p (.lst ((Txt.split t "\n").map V.str))) := (same_new hL).trans (same_new hp)
    have gp : upd (upd H L (.lst [])) p (.lst ((Txt.split t "\n").map V.str)) p = some (.lst ((Txt.split t "\n").map V.str)) := upd_same
    have gL : upd (upd H L (.lst [])) p (.lst ((Txt.split t "\n").map V.str)) L = some (.lst []) := by rw [upd_ne pL.symm, upd_same]
    generalize upd (upd H L (.lst [])) p (.lst ((Txt.split t "\n").map V.str)) = H1 at *
    have en := split_len (tl_split t)
    have few := lines_len hl
    have at_line : ∀ (i : Nat) (y : Str), (Txt.split t "\n")[i]? = some y → (rowsT (tl t))[i]? = some ((wordsL (tl y)).map wP) ∧ y.length ≤ 100000 ∧ tl y ∈ linesL (tl t) ∧ (linesL (tl t))[i]? = some (tl y) := fun i y hy => by
      have m : tl y ∈ linesL (tl t) := by rw [← tl_split]; exact List.mem_map.mpr ⟨y, List.mem_of_getElem? hy, rfl⟩
      have e : (linesL (tl t))[i]? = some (tl y) := by rw [← tl_split, List.getElem?_map, hy]; rfl
      refine ⟨?_, line_len hl (List.mem_of_getElem? hy), m, e⟩
      unfold rowsT
      rw [List.getElem?_map, e]
      rfl
    refine laps_of (plain_L (xs := (Txt.split t "\n").map V.str)) (fun i τ H' => (∃ x2 x3 x4 x5, τ = [some (.str t), some (.ref L), x2, x3, x4, x5]) ∧ Same H H' ∧ H' p = some (.lst ((Txt.split t "\n").map V.str)) ∧
        (∀ l ∈ (linesL (tl t)).take i, lineOk l = true) ∧ ∃ as : List Addr, H' L = some (.lst (as.map V.ref)) ∧ as.length = i ∧ L ∉ as ∧ ∀ (j : Nat) (a : Addr) (r : List (Option Int)), as[j]? = some a → (rowsT (tl t))[j]? = some r → H' a = some (.lst (r.map pV)))
      ⟨⟨_, _, _, _, rfl⟩, s1, gp, (fun l m => nomatch m), [], gL, rfl, (fun m => nomatch m), fun j a r z => nomatch z⟩ (fun i τ H' z => .inl (.inl z.2.2.1)) ?_ ?_
    · rintro i x τ H2 hx ⟨⟨x2, x3, x4, x5, rfl⟩, s2, gp2, okl, as, gL2, hal, nL, at_⟩
      rw [List.getElem?_map] at hx
      obtain ⟨y, hy, rfl⟩ := Option.map_eq_some_iff.mp hx
      obtain ⟨r1, r3, r4, r5⟩ := at_line i y hy
      have hi : i < (linesL (tl t)).length := (List.getElem?_eq_some_iff.mp r5).1
      simp only [gName, List.set_cons_zero, List.set_cons_succ]
      walk_at "s"
      walk_at "1"
      refine ⟨rfl, split_of (by decide +kernel) (by omega) fun pw hpw => ?_⟩
      have s3 : Same H2 (upd H2 pw (.lst ((Txt.split y " ").map V.str))) := same_new hpw
      have gw : upd H2 pw (.lst ((Txt.split y " ").map V.str)) pw = some (.lst ((Txt.split y " ").map V.str)) := upd_same
      generalize upd H2 pw (.lst ((Txt.split y " ").map V.str)) = H3 at *
      have ew := split_len (tl_splitW y)
      have wl : ∀ w ∈ Txt.split y " ", w.length ≤ 640 ∧ (∀ c ∈ tl w, c < 0x110000) ∧ tl w ∈ wordsL (tl y) := fun w m => by
        have mw : tl w ∈ wordsL (tl y) := by rw [← tl_splitW]; exact List.mem_map.mpr ⟨w, m, rfl⟩
        refine ⟨by have := tb.word r4 mw; rwa [← len_tl] at this, fun c mc => ?_, mw⟩
        obtain ⟨p1, q1, e1⟩ := line_part r4
        obtain ⟨p2, q2, e2⟩ := word_part mw
        exact tb.ok c (by rw [e1, e2]; simp [mc])
      walk_at "s"
      simp only [tAsg, gName]
      refine tLc_seq (p := pw) (.inl (.inl (.inl gw))) (tVar_eq rfl) fun J G P hG D hD => ?_
      refine lc_filter P badW (show 5 < 6 by decide) hD (by rw [List.length_map]; exact words_few r3) hG (fun x m H4 R s4 r => ?_) fun H4 s4 gD => ?_
      · obtain ⟨w, mw, rfl⟩ := List.mem_map.mp m
        obtain ⟨w1, w2, w3⟩ := wl w mw
        simp only [List.set_cons_zero, List.set_cons_succ]
        walk_at "1"
        by_cases e : w = "-"
        · have := r H4 (Same.refl _)
          have b : badW (.str w) = false := by
            show (!decide (w = "-") && decide (numW (tl w) = 0)) = false
            rw [decide_eq_true e]
            rfl
          rw [b] at this
          simpa [e] using this
        · rw [decide_eq_false e, if_pos (by decide)]
          refine ⟨w, rfl, w1, w2, fun H5 s5 => ?_⟩
          walk_at "1"
          have := r H5 s5
          have b : badW (.str w) = decide (numW (tl w) = 0) := by
            show (!decide (w = "-") && decide (numW (tl w) = 0)) = _
            rw [decide_eq_false e]
            rfl
          rw [b] at this
          exact this
      · have fb : ((Txt.split y " ").map V.str).filter badW = ((Txt.split y " ").filter fun w => badW (.str w)).map V.str := by
          rw [List.filter_map]
          rfl
        rw [fb] at gD
        have gw4 := s4 _ _ gw
        simp only [List.set_cons_zero, List.set_cons_succ]
        walk_at "s"
        walk_at "1"
        have tf : lineOk (tl y) = false → textOk (tl t) = false := fun e => by
          cases z : textOk (tl t) with
          | false => rfl
          | true =>
            unfold textOk at z
            rw [Bool.and_eq_true] at z
            have := List.all_eq_true.mp z.2 _ r4
            rw [e] at this
            cases this
        refine uLen_seq (.inl (.inl (.inl gw4))) ?_
        rw [List.length_map, ew, uNe_int]
        by_cases e6 : (wordsL (tl y)).length = 6
        · rw [decide_eq_true (show ((wordsL (tl y)).length : Int) = 6 by omega)]
          refine ⟨_, rfl, ?_⟩
          rw [Bool.not_true, if_neg (by decide)]
          refine ⟨by decide, fun p2 hp2 => ?_⟩
          have s5 : Same H4 (upd H4 p2 (.lst [])) := same_new hp2
          have gp5 : upd H4 p2 (.lst []) p2 = some (.lst (([] : List Str).map V.str)) := upd_same
          generalize upd H4 p2 (.lst []) = H5 at *
          refine ne_strs (.inl (.inl (s5 _ _ gD))) (.inl (.inl gp5)) (fun x m => strOk_iff.mpr (wl x (List.mem_filter.mp m).1).2.1) (fun x m => nomatch m) ?_
          have allw : ((Txt.split y " ").filter fun w => badW (.str w)) = [] ↔ (wordsL (tl y)).all wOk = true := by
            rw [List.filter_eq_nil_iff, ← split_all (tl_splitW y) wOk, List.all_eq_true]
            refine forall₂_congr fun w m => ?_
            rw [badW_iff]
            cases wOk (tl w) <;> simp
          have lo : lineOk (tl y) = (wordsL (tl y)).all wOk := by
            unfold lineOk
            rw [decide_eq_true e6, Bool.true_and]
          cases ea : (wordsL (tl y)).all wOk with
          | false =>
            rw [decide_eq_false (fun z => by rw [allw.mp z] at ea; cases ea)]
            refine ⟨_, rfl, ?_⟩
            rw [Bool.not_false, if_pos rfl]
            exact q0 (tf (lo.trans ea)) _ ((s2.trans s3).trans (s4.trans s5))
          | true =>
            rw [decide_eq_true (allw.mpr ea)]
            refine ⟨_, rfl, ?_⟩
            rw [Bool.not_true, if_neg (by decide)]
            have s25 := s3.trans (s4.trans s5)
            have gL5 := s25 _ _ gL2
            refine ⟨tyL gL5, ?_⟩
            have gw5 := s5 _ _ gw4
            refine tLc_seq (p := pw) (.inl (.inl (.inl gw5))) (tVar_eq rfl) fun J G P hG D2 hD2 => ?_
            refine lc_grow P (fun acc _ => acc = (((wordsL (tl y)).map wP).take acc.length).map pV) hD2 (by rw [List.length_map, ew, e6]; decide) hG (fun _ _ => rfl) (fun _ _ _ _ _ _ h => h) ?_ ?_
            · rintro n z acc H6 Q2 hz s6 hl6 ha k2
              rw [List.getElem?_map] at hz
              obtain ⟨w, hw, rfl⟩ := Option.map_eq_some_iff.mp hz
              obtain ⟨w1, w2, w3⟩ := wl w (List.mem_of_getElem? hw)
              have okw := List.all_eq_true.mp ea _ w3
              have at_w : ((wordsL (tl y)).map wP)[n]? = some (wP (tl w)) := by
                rw [← tl_splitW, List.map_map, List.getElem?_map, hw]
                rfl
              simp only [List.set_cons_zero, List.set_cons_succ]
              walk_at "1"
              by_cases e : w = "-"
              · rw [if_pos e]
                refine k2 _ _ (Same.refl _) (take_snoc pV (c := none) ha hl6 ?_)
                rw [at_w]
                unfold wP
                rw [if_pos (str_bar.mp e)]
              · rw [if_neg e]
                refine ⟨w, rfl, w1, w2, fun H7 s7 => ?_⟩
                have n45 : ¬ tl w = [45] := fun z => e (str_bar.mpr z)
                have nk : numOk (tl w) = true := by
                  unfold wOk at okw
                  rw [Bool.or_eq_true] at okw
                  exact okw.resolve_left fun z => n45 (eq_of_beq z)
                have ev : V.int (numW (tl w)) = pV (wP (tl w)) := by
                  unfold numW wP
                  rw [if_pos nk, if_neg n45]
                  rfl
                rw [ev]
                exact k2 _ _ s7 (take_snoc pV ha hl6 at_w)
            · rintro acc H6 hl6 s6 gD2 ha
              rw [List.length_map, ew] at hl6
              have gL6 := s6 _ _ gL5
              have row : acc = ((wordsL (tl y)).map wP).map pV := by
                rw [ha, List.take_of_length_le (by rw [hl6, List.length_map]; exact Nat.le_refl _)]
              have nD : D2 ≠ L := by rintro rfl; rw [gL5] at hD2; cases hD2
              refine ⟨L, _, _, rfl, rfl, gL6, Nat.lt_of_lt_of_le (show _ < 200000 by rw [List.length_map, hal]; omega) (by decide), ?_⟩
              have s26 := s25.trans s6
              refine ⟨⟨_, _, _, _, rfl⟩, (Off.trans (Same.off (s2.trans s26)) off_upd).same hL, by rw [upd_ne pL]; exact s26 _ _ gp2, fun l m => ?_, as ++ [D2], by rw [upd_same]; simp, by simp [hal], ?_, ?_⟩
              · rw [List.take_succ, r5] at m
                rcases List.mem_append.mp m with m | m
                · exact okl l m
                · have : l = tl y := by simpa using m
                  rw [this, lo, ea]
              · intro m
                rcases List.mem_append.mp m with m | m
                · exact nL m
                · exact nD (List.mem_singleton.mp m).symm
              · rintro j a r z1 z2
                have aL : a ≠ L := by
                  rintro rfl
                  rcases List.mem_append.mp (List.mem_of_getElem? z1) with m | m
                  · exact nL m
                  · exact nD (List.mem_singleton.mp m).symm
                rw [upd_ne aL]
                by_cases e : j < as.length
                · rw [List.getElem?_append_left e] at z1
                  exact s26 _ _ (at_ j a r z1 z2)
                · have e2 : j = as.length := by
                    have := (List.getElem?_eq_some_iff.mp z1).1
                    simp at this
                    omega
                  subst e2
                  rw [List.getElem?_append_right (Nat.le_refl _), Nat.sub_self] at z1
                  cases z1
                  rw [hal, r1] at z2
                  cases z2
                  rw [gD2, row]
        · rw [decide_eq_false (show ¬ ((wordsL (tl y)).length : Int) = 6 by omega)]
          refine ⟨_, rfl, ?_⟩
          rw [Bool.not_false, if_pos rfl, if_pos trivial]
          refine q0 (tf ?_) _ ((s2.trans s3).trans s4)
          unfold lineOk
          rw [decide_eq_false e6, Bool.false_and]
    · rintro τ H2 ⟨⟨x2, x3, x4, x5, rfl⟩, s2, gp2, okl, as, gL2, hal, nL, at_⟩
      rw [List.length_map, en] at okl hal
      rw [List.take_length] at okl
      walk_at "1"
      refine uLen_seq (.inl (.inl (.inl gL2))) ?_
      rw [List.length_map, hal, uLt_int]
      refine ⟨_, rfl, ?_⟩
      have allL : (linesL (tl t)).all lineOk = true := List.all_eq_true.mpr okl
      by_cases e : (linesL (tl t)).length ≤ 60
      · rw [if_pos (decide_eq_true (by omega))]
        refine q1 ?_ L H2 s2 hL ⟨as, .inl (.inl gL2), by unfold rowsT; rw [List.length_map, hal], fun i a r z1 z2 => .inl (.inl (at_ i a r z1 z2))⟩
        unfold textOk
        rw [allL, decide_eq_true e]
        rfl
      · rw [if_neg (by rw [decide_eq_true_iff]; omega)]
        refine q0 ?_ H2 s2
        unfold textOk
        rw [decide_eq_false e]
        rfl
end
end U
namespace U
open PySem PySem.Spec PyProof.Rows L2 TL

/-- a text whose length, words and signs are bounded -/
structure Pt (N M : Nat) (t : List Nat) : Prop where
  len : t.length ≤ N
  mx : mx 0 t ≤ M
  ok : ∀ c ∈ t, c < 0x110000
theorem Pt.cut {N M : Nat} {z : Str} (h : Pt N M (tl z)) (lo hi : Option Int) : Pt N M (tl (cutS z lo hi)) := by
  obtain ⟨p, q, e⟩ : ∃ p q, tl z = p ++ (tl (cutS z lo hi) ++ q) := by
    unfold cutS
    rw [tl_mk]
    generalize HT.sIx z.length 0 lo = a
    generalize HT.sIx z.length z.length hi - a = n
    exact ⟨(tl z).take a, ((tl z).drop a).drop n, by rw [List.take_append_drop, List.take_append_drop]⟩
  obtain ⟨h1, h2, h3⟩ := h
  rw [e] at h1 h2 h3
  refine ⟨?_, ?_, fun c m => h3 c (by simp [m])⟩
  · simp only [List.length_append] at h1
    omega
  · have a1 := mx_suf p (tl (cutS z lo hi) ++ q) 0
    have a2 := mx_pre (tl (cutS z lo hi)) q 0
    omega
theorem Pt.app {N1 M1 N2 M2 : Nat} {a b : Str} (h : Pt N1 M1 (tl a)) (g : Pt N2 M2 (tl b)) : Pt (N1 + N2) (M1 + M2) (tl (a ++ b)) := by
  rw [tl_append]
  refine ⟨?_, ?_, fun c m => ?_⟩
  · have := h.len
    have := g.len
    rw [List.length_append]
    omega
  · have := mx_app (tl a) (tl b) 0
    have := h.mx
    have := g.mx
    omega
  · rcases List.mem_append.mp m with m | m
    · exact h.ok c m
    · exact g.ok c m
theorem Pt.tb {N M : Nat} {t : List Nat} (h : Pt N M t) (hN : N ≤ 100000) (hM : M ≤ 600) : Tb t := ⟨Nat.le_trans h.len hN, Nat.le_trans h.mx hM, h.ok⟩
theorem pt_sign {c : Nat} (h : c < 0x110000) : Pt 1 1 (tl (⟨#[c]⟩ : Str)) := ⟨Nat.le_refl 1, mx_len [c] 0, fun d m => by
  have : d ∈ [c] := m
  rw [List.mem_singleton.mp this]
  exact h⟩
theorem line_ok {r : List (Option Int)} (h : r.all lowQ = true) : ∀ c ∈ lineL r, c < 0x110000 := by
  have key : ∀ (ps : List (List Nat)), (∀ p ∈ ps, ∀ c ∈ p, c < 0x110000) → ∀ c ∈ joinL [32] ps, c < 0x110000 := by
    intro ps
    induction ps with
    | nil => intro _ c m; cases m
    | cons p r ih =>
      intro hp c m
      cases r with
      | nil => exact hp p List.mem_cons_self c m
      | cons q r =>
        have m : c ∈ p ++ 32 :: joinL [32] (q :: r) := m
        rcases List.mem_append.mp m with m | m
        · exact hp p List.mem_cons_self c m
        · rcases List.mem_cons.mp m with rfl | m
          · decide
          · exact ih (fun x mx => hp x (List.mem_cons_of_mem _ mx)) c m
  refine key _ fun p m c mc => ?_
  obtain ⟨o, mo, rfl⟩ := List.mem_map.mp m
  cases o with
  | none =>
    have : c ∈ [45] := mc
    rw [List.mem_singleton.mp this]
    decide
  | some i =>
    have := numL_digits i.toNat c mc
    omega
theorem pt_line {r : List (Option Int)} (h : r.all lowQ = true) (h6 : r.length = 6) : Pt 250 40 (tl (lineT r)) := by
  have ho : r.all okP = true := List.all_eq_true.mpr fun o m => low_okQ (List.all_eq_true.mp h o m)
  have hl := lineT_len h h6
  rw [len_tl] at hl
  refine ⟨hl, ?_, ?_⟩
  · rw [tl_line ho]; exact line_mx h
  · rw [tl_line ho]; exact line_ok h
theorem pt_lines {ys : List Str} {n : Nat} (h : ∀ y ∈ ys, Pt 250 40 (tl y)) (hn : ys.length ≤ n) : Pt (251 * n) 40 (tl (Txt.join "\n" ys)) := by
  have e : tl ("\n" : Str) = [10] := by decide +kernel
  rw [join_eq, tl_join, e]
  have key : ∀ (ps : List (List Nat)), (∀ p ∈ ps, Pt 250 40 p) → (joinL [10] ps).length ≤ 251 * ps.length ∧ ∀ c ∈ joinL [10] ps, c < 0x110000 := by
    intro ps
    induction ps with
    | nil => exact fun _ => ⟨Nat.le_refl _, fun c m => nomatch m⟩
    | cons p r ih =>
      intro hp
      have hp0 := hp p List.mem_cons_self
      cases r with
      | nil => exact ⟨by have := hp0.len; show p.length ≤ _; simp; omega, hp0.ok⟩
      | cons q r =>
        obtain ⟨i1, i2⟩ := ih fun x m => hp x (List.mem_cons_of_mem _ m)
        have e2 : joinL [10] (p :: q :: r) = p ++ 10 :: joinL [10] (q :: r) := rfl
        rw [e2]
        refine ⟨?_, fun c m => ?_⟩
        · have := hp0.len
          rw [List.length_append, List.length_cons]
          simp only [List.length_cons] at i1 ⊢
          omega
        · rcases List.mem_append.mp m with m | m
          · exact hp0.ok c m
          · rcases List.mem_cons.mp m with rfl | m
            · decide
            · exact i2 c m
  have hp : ∀ p ∈ ys.map tl, Pt 250 40 p := fun p m => by
    obtain ⟨y, my, rfl⟩ := List.mem_map.mp m
    exact h y my
  obtain ⟨k1, k2⟩ := key _ hp
  rw [List.length_map] at k1
  exact ⟨Nat.le_trans k1 (Nat.mul_le_mul_left _ hn), mx_join rfl fun p m => (hp p m).mx, k2⟩
theorem grid_split {rows : List (List (Option Int))} (h : RowsOk rows) : Txt.split (gridT rows) "\n" = rows.map lineT := by
  refine map_tl_inj ?_
  rw [tl_split, lines_grid h, List.map_map]
  exact List.map_congr_left fun r m => (tl_line (h.2.2 r m).2).symm
theorem cut_strs (ys : List Str) (lo hi : Option Int) : ∃ zs : List Str, cutV (ys.map V.str) lo hi = zs.map V.str ∧ (∀ z ∈ zs, z ∈ ys) ∧ zs.length ≤ ys.length := by
  unfold cutV
  generalize HT.sIx _ 0 lo = a
  generalize HT.sIx _ _ hi - a = n
  refine ⟨(ys.drop a).take n, by rw [← List.map_drop, ← List.map_take], fun z m => List.mem_of_mem_drop (List.mem_of_mem_take m), ?_⟩
  rw [List.length_take]
  rw [List.length_drop]
  omega
section
variable {K : PySem.W.Frag} {H : Hp} {Q : VK}
theorem slice_strs {p0 : Addr} {ys : List Str} {lo hi : Option Int} (h : H p0 = some (.lst (ys.map V.str))) (q : ∀ p (zs : List Str), H p = none → (∀ z ∈ zs, z ∈ ys) → zs.length ≤ ys.length → Q (.ref p) (upd H p (.lst (zs.map V.str)))) : uSl K (.ref p0) lo hi H Q := by
  obtain ⟨zs, e, h1, h2⟩ := cut_strs ys lo hi
  exact .inl ⟨p0, _, rfl, .inl (.inl h), fun p hp => by rw [e]; exact q p zs hp h1 h2⟩
theorem cat_strs {p1 p2 : Addr} {ys zs : List Str} (h1 : H p1 = some (.lst (ys.map V.str))) (h2 : H p2 = some (.lst (zs.map V.str))) (hl : ys.length + zs.length ≤ 1000) (q : ∀ p, H p = none → Q (.ref p) (upd H p (.lst ((ys ++ zs).map V.str)))) : uAdd (.ref p1) (.ref p2) H Q :=
  ⟨p1, p2, _, _, rfl, rfl, h1, h2, by rw [List.length_map, List.length_map]; exact Nat.le_trans hl (by decide), fun p hp => by rw [← List.map_append]; exact q p hp⟩
theorem sum_max {f : Str → Nat} {n : Nat} : ∀ {l : List Str}, (∀ x ∈ l, f x ≤ n) → (l.map f).sum ≤ n * l.length
  | [], _ => by simp
  | a :: r, h => by
    have := sum_max (f := f) (n := n) (l := r) fun x m => h x (List.mem_cons_of_mem _ m)
    have := h a List.mem_cons_self
    rw [List.map_cons, List.sum_cons, List.length_cons, Nat.mul_succ]
    omega
theorem join_lines {p : Addr} {ys : List Str} (h : H p = some (.lst (ys.map V.str))) (hy : ∀ y ∈ ys, Pt 250 40 (tl y)) (hn : ys.length ≤ 200) (q : Q (.str (Txt.join "\n" ys)) H) : rJoin K (.str "\n") [.ref p] H Q := by
  refine ⟨"\n", p, ys, rfl, rfl, .inl (.inl (.inl h)), ?_, q⟩
  have h1 := sum_max (f := (·.length)) (n := 250) (l := ys) fun y m => by have := (hy y m).len; rwa [← len_tl] at this
  have h3 : ("\n" : Str).length = 1 := by decide
  rw [h3]
  have := Nat.mul_le_mul_left 250 hn
  omega
end
def sp__law_bent (_K : PySem.W.Frag) : Sp := sp2 fun x y H Q _ => ∃ b m rows, x = .ref b ∧ y = .str (gridT rows) ∧ RowsOk rows ∧ (∀ r ∈ rows, r.all lowQ = true) ∧ Bx H b m ∧ m ≤ 100000000 ∧
  ∀ t H', Tb (tl t) → Off b H H' → Bx H' b (m + 4) → Q (.str t) H'
def t__law_bent (K : PySem.W.Frag) (E : XK) : TS := (tSeq (tPar 2 3 (tCons (tFn (sp__law_take K) E (tCons (tVar 0) (tCons (tOp uAdd (tCB (uLen K) (tCons (tVar 1) tNil)) (tC (.int 1))) tNil))) (tCons (tOp (uIx K) (tC (.str "0123456789- \n+_")) (tFn (sp__law_take K) E (tCons (tVar 0) (tCons (tC (.int 15)) tNil)))) tNil))) (tSeq (tAsg (tFn (sp__law_take K) E (tCons (tVar 0) (tCons (tC (.int 5)) tNil))) (gName 4)) (tSeq (tIfS (tTest (tOp (uEq K) (tVar 4) (tC (.int 0)))) (tRet (tOp uAdd (tOp uAdd (tSl (uSl K) (tVar 1) tNoPart (tPart (tVar 2))) (tVar 3)) (tSl (uSl K) (tVar 1) (tPart (tVar 2)) tNoPart))) tNext) (tSeq (tIfS (tTest (tOp (uEq K) (tVar 4) (tC (.int 1)))) (tRet (tOp uAdd (tSl (uSl K) (tVar 1) tNoPart (tPart (tVar 2))) (tSl (uSl K) (tVar 1) (tPart (tOp uAdd (tVar 2) (tC (.int 1)))) tNoPart))) tNext) (tSeq (tIfS (tTest (tOp (uEq K) (tVar 4) (tC (.int 2)))) (tRet (tOp uAdd (tOp uAdd (tSl (uSl K) (tVar 1) tNoPart (tPart (tVar 2))) (tVar 3)) (tSl (uSl K) (tVar 1) (tPart (tOp uAdd (tVar 2) (tC (.int 1)))) tNoPart))) tNext) (tSeq (tAsg (tBM K "str" rSplit (tVar 1) (tCons (tC (.str "\n")) tNil)) (gName 5)) (tSeq (tAsg (tFn (sp__law_take K) E (tCons (tVar 0) (tCons (tCB (uLen K) (tCons (tVar 5) tNil)) tNil))) (gName 6)) (tSeq (tIfS (tTest (tOp (uEq K) (tVar 4) (tC (.int 3)))) (tRet (tJoin K (tC (.str "\n")) (tOp uAdd (tSl (uSl K) (tVar 5) tNoPart (tPart (tVar 6))) (tSl (uSl K) (tVar 5) (tPart (tOp uAdd (tVar 6) (tC (.int 1)))) tNoPart)))) tNext) (tRet (tJoin K (tC (.str "\n")) (tOp uAdd (tOp uAdd (tSl (uSl K) (tVar 5) tNoPart (tPart (tVar 6))) (tOp uMul (tLst (tCons (tOp (uIx K) (tVar 5) (tVar 6)) tNil)) (tC (.int 2)))) (tSl (uSl K) (tVar 5) (tPart (tVar 6)) tNoPart))))))))))))
theorem bent_sign {K : PySem.W.Frag} {d : Int} {H : Hp} {Q : VK} (h0 : 0 ≤ d) (h1 : d < 15) (q : ∀ c, c < 0x110000 → Q (.str ⟨#[c]⟩) H) : uIx K (.str "0123456789- \n+_") (.int d) H Q := by
  have e : ("0123456789- \n+_" : Str).cps.toList = [48, 49, 50, 51, 52, 53, 54, 55, 56, 57, 45, 32, 10, 43, 95] := by decide +kernel
  obtain ⟨n, eq⟩ := Int.eq_ofNat_of_zero_le h0
  subst eq
  have hn : n < 15 := by omega
  obtain ⟨c, hc, ok⟩ : ∃ c, ([48, 49, 50, 51, 52, 53, 54, 55, 56, 57, 45, 32, 10, 43, 95] : List Nat)[n]? = some c ∧ c < 0x110000 := by
    have all : ∀ c ∈ ([48, 49, 50, 51, 52, 53, 54, 55, 56, 57, 45, 32, 10, 43, 95] : List Nat), c < 0x110000 := by decide
    have hl : n < ([48, 49, 50, 51, 52, 53, 54, 55, 56, 57, 45, 32, 10, 43, 95] : List Nat).length := hn
    exact ⟨_, List.getElem?_eq_getElem hl, all _ (List.getElem_mem hl)⟩
  refine uIx_str (c := c) (by decide +kernel) ?_ (q c ok)
  rw [e]
  unfold atI ixN
  rw [if_pos (by omega), if_pos (by simp; omega)]
  exact hc
section
variable {K : PySem.W.Frag} (F : KF K) {vs : List V} {H : Hp} {Q : VK} {E : XK}
local macro_rules | `(tactic| walk_at "w") => `(tactic| try simp only [turnE, lcT, Snoc, tRet, tRetN, tAndV, tOrV, tNotV, tCB, tCons, tVar, tNil, tC, tOp, tSeq, tAsg, gName, gSub, tIfS, tDrop, tFn, tTup, tLst, tNext, tB, tTest, tNot, tAnd, tOr, tIf, tChain, tUn, rU, tFld, tPart, tNoPart, L2.tSl, tBM, tPar, tPar3, tTruth, tDNewK,
  L2.start, List.map_cons, List.map_nil, List.length_cons, List.length_nil, List.replicate_succ, List.replicate_zero, List.append_nil, List.nil_append, List.cons_append, List.singleton_append, Nat.sub_self, Nat.zero_add, Nat.reduceAdd, Nat.reduceSub,
  List.getElem?_cons_zero, List.getElem?_cons_succ, List.set_cons_zero, List.set_cons_succ, Option.some.injEq, exists_eq_left, exists_eq_left', V.int.injEq, V.bl.injEq, V.str.injEq, V.ref.injEq,
  uAdd_int, uAdd_str, uSub_int, uMul_int, uMul_str, uDiv_int, uMod_int, uPow_int, uLt_int, uLe_int, uGt_int, uGe_int, uIs_non, uNis_non, uIs_bl, uNis_bl, sp1, sp2, sp3, sp4, uEq_int, uEq_str, uNe_int, uNe_str, uSl_str, uLen_str, decide_eq_true_eq])
local macro_rules | `(tactic| walk_at "1") => `(tactic| try simp only [turnE, lcT, Snoc, tRet, tRetN, tAndV, tOrV, tNotV, tCB, tCons, tVar, tNil, tC, tOp, tAsg, gName, gSub, tIfS, tDrop, tFn, tTup, tLst, tNext, tB, tTest, tNot, tAnd, tOr, tIf, tChain, tUn, rU, tFld, tPart, tNoPart, L2.tSl, tBM, tPar, tPar3, tTruth, tDNewK,
  L2.start, List.map_cons, List.map_nil, List.length_cons, List.length_nil, List.replicate_succ, List.replicate_zero, List.append_nil, List.nil_append, List.cons_append, List.singleton_append, Nat.sub_self, Nat.zero_add, Nat.reduceAdd, Nat.reduceSub,
  List.getElem?_cons_zero, List.getElem?_cons_succ, List.set_cons_zero, List.set_cons_succ, Option.some.injEq, exists_eq_left, exists_eq_left', V.int.injEq, V.bl.injEq, V.str.injEq, V.ref.injEq,
  uAdd_int, uAdd_str, uSub_int, uMul_int, uMul_str, uDiv_int, uMod_int, uPow_int, uLt_int, uLe_int, uGt_int, uGe_int, uIs_non, uNis_non, uIs_bl, uNis_bl, sp1, sp2, sp3, sp4, uEq_int, uEq_str, uNe_int, uNe_str, uSl_str, uLen_str, decide_eq_true_eq])
local macro_rules | `(tactic| walk_at "s") => `(tactic| ((try dsimp only [turnE]); with_reducible refine seq_ ?_))

include F in
theorem read__law_bent (h : sp__law_bent K vs H Q E) : t__law_bent K E { nx := fun _ H' => Q .non H', rt := Q } (start ["_law_bag_here", "_law_text", "_law_at", "_law_sign", "_law_way", "_law_lines", "_law_spot"] vs) H := by
  match vs, h with
  | [_, _], ⟨b, m, rows, rfl, rfl, hok, hlow, hb, hm, q⟩ =>
    unfold t__law_bent
    have pl : ∀ y ∈ rows.map lineT, Pt 250 40 (tl y) := fun y my => by
      obtain ⟨r, mr, rfl⟩ := List.mem_map.mp my
      exact pt_line (hlow r mr) (hok.2.2 r mr).1
    have pg : Pt (251 * 60) 40 (tl (gridT rows)) := pt_lines pl (by rw [List.length_map]; exact hok.2.1)
    have hl : (gridT rows).length ≤ 15060 := by rw [len_tl]; exact pg.len
    have hlz : (gridT rows).length ≤ sizeLine := Nat.le_trans hl (by decide)
    walk_at "s"
    simp only [tPar]
    walk_at "1"
    refine ⟨hlz, ?_⟩
    walk_at "1"
    refine take_of hb (by omega) (by omega) (by omega) fun a H1 a0 a1 o1 b1 => ?_
    walk_at "1"
    refine take_of b1 (by omega) (by omega) (by omega) fun d H2 d0 d1 o2 b2 => ?_
    refine bent_sign d0 d1 fun c hc => ?_
    refine ⟨_, _, rfl, ?_⟩
    walk_at "s"
    walk_at "1"
    refine take_of b2 (by omega) (by omega) (by omega) fun w H3 w0 w1 o3 b3 => ?_
    have o := (o1.trans o2).trans o3
    walk_at "s"
    walk_at "1"
    have c1 := pg.cut none (some a)
    have c2 := pg.cut (some a) none
    have c3 := pg.cut (some (a + 1)) none
    have cl : ∀ {N M : Nat} {z : Str}, Pt N M (tl z) → z.length ≤ N := fun h => by rw [len_tl]; exact h.len
    by_cases e0 : w = 0
    · rw [if_pos e0]
      have p1 := c1.app (pt_sign hc)
      have p2 := p1.app c2
      exact ⟨hlz, Nat.le_trans (Nat.add_le_add (cl c1) (cl (pt_sign hc))) (by decide), hlz, Nat.le_trans (Nat.add_le_add (cl p1) (cl c2)) (by decide), q _ _ (p2.tb (by decide) (by decide)) o (b3.mono (by omega))⟩
    rw [if_neg e0]
    walk_at "s"
    walk_at "1"
    by_cases e1 : w = 1
    · rw [if_pos e1]
      have p2 := c1.app c3
      exact ⟨hlz, hlz, Nat.le_trans (Nat.add_le_add (cl c1) (cl c3)) (by decide), q _ _ (p2.tb (by decide) (by decide)) o (b3.mono (by omega))⟩
    rw [if_neg e1]
    walk_at "s"
    walk_at "1"
    by_cases e2 : w = 2
    · rw [if_pos e2]
      have p1 := c1.app (pt_sign hc)
      have p2 := p1.app c3
      exact ⟨hlz, Nat.le_trans (Nat.add_le_add (cl c1) (cl (pt_sign hc))) (by decide), hlz, Nat.le_trans (Nat.add_le_add (cl p1) (cl c3)) (by decide), q _ _ (p2.tb (by decide) (by decide)) o (b3.mono (by omega))⟩
    rw [if_neg e2]
    walk_at "s"
    walk_at "1"
    refine ⟨rfl, split_of (by decide +kernel) (by omega) fun L hL => ?_⟩
    rw [grid_split hok]
    have nLb := b3.ne hL
    have s4 : Same H3 (upd H3 L (.lst ((rows.map lineT).map V.str))) := same_new hL
    have gL : upd H3 L (.lst ((rows.map lineT).map V.str)) L = some (.lst ((rows.map lineT).map V.str)) := upd_same
    have b4 : Bx (upd H3 L (.lst ((rows.map lineT).map V.str))) b (m + 1 + 1 + 1) := b3.same s4
    have o4 := Off.trans o (Same.off s4)
    generalize upd H3 L (.lst ((rows.map lineT).map V.str)) = H4 at *
    walk_at "s"
    walk_at "1"
    refine uLen_seq (.inl (.inl (.inl gL))) ?_
    rw [List.length_map, List.length_map]
    have h1 := hok.1
    have h2 := hok.2.1
    refine take_of b4 (by omega) (by omega) (by omega) fun sp H5 sp0 sp1 o5 b5 => ?_
    have o5' := Off.trans o4 o5
    have gL5 := o5 _ _ nLb gL
    walk_at "s"
    walk_at "1"
    have few : (rows.map lineT).length ≤ 60 := by rw [List.length_map]; exact h2
    by_cases e3 : w = 3
    · rw [if_pos e3]
      simp only [tJoin, tM1, tC]
      refine ⟨⟨_, rfl⟩, ?_⟩
      walk_at "1"
      refine slice_strs gL5 fun p1 zs hp1 hz hzl => ?_
      have s6 : Same H5 (upd H5 p1 (.lst (zs.map V.str))) := same_new hp1
      have g1 : upd H5 p1 (.lst (zs.map V.str)) p1 = some (.lst (zs.map V.str)) := upd_same
      generalize upd H5 p1 (.lst (zs.map V.str)) = H6 at *
      refine slice_strs (s6 _ _ gL5) fun p2 us hp2 hu hul => ?_
      have s7 : Same H6 (upd H6 p2 (.lst (us.map V.str))) := same_new hp2
      have g2 : upd H6 p2 (.lst (us.map V.str)) p2 = some (.lst (us.map V.str)) := upd_same
      generalize upd H6 p2 (.lst (us.map V.str)) = H7 at *
      refine cat_strs (s7 _ _ g1) g2 (by omega) fun p3 hp3 => ?_
      have s8 : Same H7 (upd H7 p3 (.lst ((zs ++ us).map V.str))) := same_new hp3
      have g3 : upd H7 p3 (.lst ((zs ++ us).map V.str)) p3 = some (.lst ((zs ++ us).map V.str)) := upd_same
      generalize upd H7 p3 (.lst ((zs ++ us).map V.str)) = H8 at *
      have hy : ∀ y ∈ zs ++ us, Pt 250 40 (tl y) := fun y m => pl y ((List.mem_append.mp m).elim (hz y) (hu y))
      have s58 := s6.trans (s7.trans s8)
      refine join_lines g3 hy (by rw [List.length_append]; omega) (q _ _ ((pt_lines hy (n := 120) (by rw [List.length_append]; omega)).tb (by decide) (by decide)) (Off.trans o5' (Same.off s58)) ?_)
      exact (b5.same s58).mono (by omega)
    · rw [if_neg e3]
      simp only [tJoin, tM1, tC]
      refine ⟨⟨_, rfl⟩, ?_⟩
      walk_at "1"
      refine slice_strs gL5 fun p1 zs hp1 hz hzl => ?_
      have s6 : Same H5 (upd H5 p1 (.lst (zs.map V.str))) := same_new hp1
      have g1 : upd H5 p1 (.lst (zs.map V.str)) p1 = some (.lst (zs.map V.str)) := upd_same
      generalize upd H5 p1 (.lst (zs.map V.str)) = H6 at *
      obtain ⟨k, rfl⟩ := Int.eq_ofNat_of_zero_le sp0
      have hk : k < (rows.map lineT).length := by rw [List.length_map]; omega
      refine ⟨_, .str (rows.map lineT)[k], .inl (.inl (.inl (s6 _ _ gL5))), at_nat (by rw [List.getElem?_map, List.getElem?_eq_getElem hk]; rfl), ?_⟩
      refine ⟨by decide, fun p0 hp0 => ?_⟩
      have s7 : Same H6 (upd H6 p0 (.lst [.str (rows.map lineT)[k]])) := same_new hp0
      have g0 : upd H6 p0 (.lst [.str (rows.map lineT)[k]]) p0 = some (.lst [.str (rows.map lineT)[k]]) := upd_same
      generalize upd H6 p0 (.lst [.str (rows.map lineT)[k]]) = H7 at *
      refine ⟨p0, 2, _, rfl, rfl, g0, by decide, by decide, (show 1 * 2 ≤ sizeLine by decide), fun p2 hp2 => ?_⟩
      have e7 : (List.replicate (2 : Int).toNat [V.str (rows.map lineT)[k]]).flatten = ([(rows.map lineT)[k], (rows.map lineT)[k]] : List Str).map V.str := rfl
      rw [e7]
      have s8 : Same H7 (upd H7 p2 (.lst (([(rows.map lineT)[k], (rows.map lineT)[k]] : List Str).map V.str))) := same_new hp2
      have g2 : upd H7 p2 (.lst (([(rows.map lineT)[k], (rows.map lineT)[k]] : List Str).map V.str)) p2 = some (.lst (([(rows.map lineT)[k], (rows.map lineT)[k]] : List Str).map V.str)) := upd_same
      generalize upd H7 p2 (.lst (([(rows.map lineT)[k], (rows.map lineT)[k]] : List Str).map V.str)) = H8 at *
      refine cat_strs (s8 _ _ (s7 _ _ g1)) g2 (by simp; omega) fun p3 hp3 => ?_
      have s9 : Same H8 (upd H8 p3 (.lst ((zs ++ [(rows.map lineT)[k], (rows.map lineT)[k]]).map V.str))) := same_new hp3
      have g3 : upd H8 p3 (.lst ((zs ++ [(rows.map lineT)[k], (rows.map lineT)[k]]).map V.str)) p3 = some (.lst ((zs ++ [(rows.map lineT)[k], (rows.map lineT)[k]]).map V.str)) := upd_same
      generalize upd H8 p3 (.lst ((zs ++ [(rows.map lineT)[k], (rows.map lineT)[k]]).map V.str)) = H9 at *
      have s59 := (s6.trans s7).trans (s8.trans s9)
      refine slice_strs (s59 _ _ gL5) fun p4 us hp4 hu hul => ?_
      have sA : Same H9 (upd H9 p4 (.lst (us.map V.str))) := same_new hp4
      have g4 : upd H9 p4 (.lst (us.map V.str)) p4 = some (.lst (us.map V.str)) := upd_same
      generalize upd H9 p4 (.lst (us.map V.str)) = HA at *
      refine cat_strs (sA _ _ g3) g4 (by simp; omega) fun p5 hp5 => ?_
      have sB : Same HA (upd HA p5 (.lst ((zs ++ [(rows.map lineT)[k], (rows.map lineT)[k]] ++ us).map V.str))) := same_new hp5
      have g5 : upd HA p5 (.lst ((zs ++ [(rows.map lineT)[k], (rows.map lineT)[k]] ++ us).map V.str)) p5 = some (.lst ((zs ++ [(rows.map lineT)[k], (rows.map lineT)[k]] ++ us).map V.str)) := upd_same
      generalize upd HA p5 (.lst ((zs ++ [(rows.map lineT)[k], (rows.map lineT)[k]] ++ us).map V.str)) = HB at *
      have hy : ∀ y ∈ zs ++ [(rows.map lineT)[k], (rows.map lineT)[k]] ++ us, Pt 250 40 (tl y) := fun y m => by
        have mk : (rows.map lineT)[k] ∈ rows.map lineT := List.getElem_mem hk
        rcases List.mem_append.mp m with m | m
        · rcases List.mem_append.mp m with m | m
          · exact pl y (hz y m)
          · have : y = (rows.map lineT)[k] := by simpa using m
            rw [this]
            exact pl _ mk
        · exact pl y (hu y m)
      have s5B := s59.trans (sA.trans sB)
      refine join_lines g5 hy (by simp; omega) (q _ _ ((pt_lines hy (n := 130) (by simp; omega)).tb (by decide) (by decide)) (Off.trans o5' (Same.off s5B)) ?_)
      exact (b5.same s5B).mono (by omega)
end
end U
namespace U
open PySem PySem.Spec PyProof.Rows L2 TL

def excN : List Str := ["InvalidText"]
def Told (K : PySem.W.Frag) (H : Hp) (v : V) (d : PyData) : Prop := Dq K H v d ∧ d.showable = true ∧ d.depth ≤ 60 ∧ d.shown.length ≤ sizeLine
theorem Told.same {K : PySem.W.Frag} {H H' : Hp} {v : V} {d : PyData} (e : Same H H') (h : Told K H v d) : Told K H' v d := ⟨h.1.same e, h.2⟩
def sp__law_caught (K : PySem.W.Frag) : Sp := sp1 fun x H Q _ => ∃ a d, Is K H x a ∧ (∀ t, x = .str t → Tb (tl t)) ∧ Told K H x d ∧
  (∀ t, x = .str t → textOk (tl t) = true → ∀ l H', Same H H' → H l = none → GrL K H' l (rowsT (tl t)) → Q (.ref l) H') ∧ (isYT x = false → ∀ l H', Same H H' → H' l = some (.lst [.str "text", .str d.shown]) → Q (.ref l) H')
def t__law_caught (K : PySem.W.Frag) (E : XK) : TS := (tTry (fun cls d _ H => E cls d H) (fun W => (tRet (tMeth (He.ga K "Yard") "rows" (sp_Yard_rows K) [] E0 (tCmS (He.ga K "Yard") (sp_Yard_read K) W (tC (.ref (He.ga K "Yard"))) (tCons (tVar 0) tNil)) tNil))) [⟨(fun cls => PySem.W.exmOne K cls (.ref (He.ga K "InvalidText"))), some 1, fun a cls d => (tRet (tLst (tCons (tC (.str "text")) (tCons (tCB (uReprQ K) (tCons (tXv K a cls d "value" (tVar 1)) tNil)) tNil))))⟩])
section
variable {K : PySem.W.Frag} (F : KF K) (C : XF K "CratesError" excN) {vs : List V} {H : Hp} {Q : VK} {E : XK}
local macro_rules | `(tactic| walk_at "w") => `(tactic| try simp only [turnE, lcT, Snoc, tRet, tRetN, tAndV, tOrV, tNotV, tCB, tCons, tVar, tNil, tC, tOp, tSeq, tAsg, gName, gSub, tIfS, tDrop, tFn, tTup, tLst, tNext, tB, tTest, tNot, tAnd, tOr, tIf, tChain, tUn, rU, tFld, tPart, tNoPart, L2.tSl, tBM, tPar, tPar3, tTruth, tDNewK,
  L2.start, List.map_cons, List.map_nil, List.length_cons, List.length_nil, List.replicate_succ, List.replicate_zero, List.append_nil, List.nil_append, List.cons_append, List.singleton_append, Nat.sub_self, Nat.zero_add, Nat.reduceAdd, Nat.reduceSub,
  List.getElem?_cons_zero, List.getElem?_cons_succ, List.set_cons_zero, List.set_cons_succ, Option.some.injEq, exists_eq_left, exists_eq_left', V.int.injEq, V.bl.injEq, V.str.injEq, V.ref.injEq,
  uAdd_int, uAdd_str, uSub_int, uMul_int, uMul_str, uDiv_int, uMod_int, uPow_int, uLt_int, uLe_int, uGt_int, uGe_int, uIs_non, uNis_non, uIs_bl, uNis_bl, sp1, sp2, sp3, sp4, uEq_int, uEq_str, uNe_int, uNe_str, uSl_str, uLen_str, decide_eq_true_eq])
local macro_rules | `(tactic| walk_at "1") => `(tactic| try simp only [turnE, lcT, Snoc, tRet, tRetN, tAndV, tOrV, tNotV, tCB, tCons, tVar, tNil, tC, tOp, tAsg, gName, gSub, tIfS, tDrop, tFn, tTup, tLst, tNext, tB, tTest, tNot, tAnd, tOr, tIf, tChain, tUn, rU, tFld, tPart, tNoPart, L2.tSl, tBM, tPar, tPar3, tTruth, tDNewK,
  L2.start, List.map_cons, List.map_nil, List.length_cons, List.length_nil, List.replicate_succ, List.replicate_zero, List.append_nil, List.nil_append, List.cons_append, List.singleton_append, Nat.sub_self, Nat.zero_add, Nat.reduceAdd, Nat.reduceSub,
  List.getElem?_cons_zero, List.getElem?_cons_succ, List.set_cons_zero, List.set_cons_succ, Option.some.injEq, exists_eq_left, exists_eq_left', V.int.injEq, V.bl.injEq, V.str.injEq, V.ref.injEq,
  uAdd_int, uAdd_str, uSub_int, uMul_int, uMul_str, uDiv_int, uMod_int, uPow_int, uLt_int, uLe_int, uGt_int, uGe_int, uIs_non, uNis_non, uIs_bl, uNis_bl, sp1, sp2, sp3, sp4, uEq_int, uEq_str, uNe_int, uNe_str, uSl_str, uLen_str, decide_eq_true_eq])
local macro_rules | `(tactic| walk_at "s") => `(tactic| ((try dsimp only [turnE]); with_reducible refine seq_ ?_))

include F C in
theorem read__law_caught (h : sp__law_caught K vs H Q E) : t__law_caught K E { nx := fun _ H' => Q .non H', rt := Q } (start ["_law_thing", "e"] vs) H := by
  match vs, h with
  | [x], ⟨a, d, ha, tb, td, q1, q2⟩ =>
    unfold t__law_caught sp_Yard_read sp_Yard_rows
    simp only [tTry, wCl, undone, named, unnamed, WE]
    walk_at "1"
    simp only [tMeth, tCmS]
    walk_at "1"
    refine ⟨trivial, a, trivial, ha, tb, fun t e ok z H1 s1 nz hz => ?_, fun e d2 H1 s1 hd2 => ?_⟩
    · obtain ⟨dx, tt, as, y1, _⟩ := id hz
      refine ⟨z, dx, _, rfl, y1, by rfl, z, _, rfl, hz, fun l ls H2 s2 nl gl hR nd nls fr => ?_⟩
      refine q1 t e ok l H2 (s1.trans s2) (s1.free nl) ⟨ls, .inl (.inl gl), hR.1, fun i b r z1 z2 => .inl (.inl (hR.2 i b r z1 z2))⟩
    · refine ⟨true, ?_, fun _ b hb => ?_, fun w => nomatch w⟩
      · have := C.m "InvalidText" (by decide) "InvalidText" (by decide)
        rw [this]
        rfl
      · have s2 : Same H1 (upd H1 d2 (.xd [("value", x)])) := same_new hd2
        have gx : upd H1 d2 (.xd [("value", x)]) d2 = some (.xd [("value", x)]) := upd_same
        generalize upd H1 d2 (.xd [("value", x)]) = H2 at *
        walk_at "1"
        have td2 := td.same (s1.trans s2)
        refine ⟨_, rfl, rfl, _, d2, _, x, rfl, rfl, C.f _ (by decide), C.v _ (by decide), gx, rfl, x, d, rfl, td2.1, td2.2.1, td2.2.2.1, td2.2.2.2, by decide, fun l hl => ?_⟩
        exact q2 e l _ ((s1.trans s2).trans (same_new hl)) upd_same
end
end U
namespace U
open PySem PySem.Spec PyProof.Rows L2 TL

/-- shown in at most B signs, at most D deep -/
def Slim (B D : Nat) (d : PyData) : Prop := d.showable = true ∧ d.depth ≤ D ∧ d.shown.length ≤ B ∧ fine d = true
theorem Slim.mono {B D B' D' : Nat} {d : PyData} (h : Slim B D d) (hb : B ≤ B') (hd : D ≤ D') : Slim B' D' d := ⟨h.1, Nat.le_trans h.2.1 hd, Nat.le_trans h.2.2.1 hb, h.2.2.2⟩
theorem slim_list {ds : List PyData} {B D n : Nat} (h : ∀ d ∈ ds, Slim B D d) (hn : ds.length ≤ n) : Slim ((B + 2) * n + 3) (D + 1) (.list ds) := by
  have key : ∀ l : List PyData, (∀ d ∈ l, Slim B D d) → PyData.showableAll l = true ∧ PyData.depthAll l ≤ D ∧ ((PyData.shownAll l).map (·.length)).sum ≤ B * l.length ∧ fineAll l = true := by
    intro l
    induction l with
    | nil => intro _; exact ⟨by simp [PyData.showableAll], by simp [PyData.depthAll], by simp [PyData.shownAll], by simp [fineAll]⟩
    | cons x r ih =>
      intro h
      obtain ⟨a1, a2, a3, a4⟩ := h x List.mem_cons_self
      obtain ⟨b1, b2, b3, b4⟩ := ih fun d m => h d (List.mem_cons_of_mem _ m)
      refine ⟨?_, ?_, ?_, ?_⟩
      · rw [PyData.showableAll, a1, b1]; rfl
      · rw [PyData.depthAll]; exact Nat.max_le.mpr ⟨a2, b2⟩
      · rw [PyData.shownAll, List.map_cons, List.sum_cons, List.length_cons, Nat.mul_succ]; omega
      · rw [fineAll, a4, b4]; rfl
  obtain ⟨k1, k2, k3, k4⟩ := key ds h
  refine ⟨?_, ?_, ?_, ?_⟩
  · rw [PyData.showable]; exact k1
  · rw [PyData.depth]; omega
  · have a := listText_len_le (PyData.shownAll ds)
    have c := PyData.shownAll_length ds
    have e : (PyData.list ds).shown = listText (PyData.shownAll ds) := by simp only [PyData.shown]
    have m1 : (B + 2) * ds.length ≤ (B + 2) * n := Nat.mul_le_mul_left _ hn
    rw [e]
    rw [Nat.add_mul] at m1
    rw [Nat.add_mul]
    rw [Nat.add_mul] at m1
    omega
  · rw [fine]; exact k4
section
variable {K : PySem.W.Frag} {H : Hp} {Q : VK} {E : XK}
theorem two_shaped {a b : Str} (ha : PyData.strOk a = true) (hb : PyData.strOk b = true) : SeqAt.shaped (.list [.str a, .str b]) = true := by
  simp [SeqAt.shaped, PyData.canLay0, PyData.canLayAll0, PyData.depth, PyData.depthAll, ha, hb]
theorem dp_two {l : Addr} {a b : Str} (h : H l = some (.lst [.str a, .str b])) : Dp K H (.ref l) (.list [.str a, .str b]) := .lst (.inl (.inl h)) (.cons (.str a) (.cons (.str b) .nil))
theorem ne_two {l p : Addr} {a b : Str} (ha : PyData.strOk a = true) (hb : PyData.strOk b = true) (hl : H l = some (.lst [.str a, .str b])) (hp : H p = some (.lst [.str a, .str b])) (q : Q (.bl false) H) : uNe K (.ref l) (.ref p) H Q := by
  refine ⟨_, _, dp_two hl, dp_two hp, two_shaped ha hb, two_shaped ha hb, ?_⟩
  rw [SeqAt.eqv_refl _ (SeqAt.canLay_of_shaped (two_shaped ha hb))]
  exact q
theorem eq_two {l p : Addr} {a b : Str} (ha : PyData.strOk a = true) (hb : PyData.strOk b = true) (hl : H l = some (.lst [.str a, .str b])) (hp : H p = some (.lst [.str a, .str b])) (q : Q (.bl true) H) : uEq K (.ref l) (.ref p) H Q := by
  refine ⟨_, _, dp_two hl, dp_two hp, two_shaped ha hb, two_shaped ha hb, ?_⟩
  rw [SeqAt.eqv_refl _ (SeqAt.canLay_of_shaped (two_shaped ha hb))]
  exact q
theorem eq_yd (F : KF K) {z p : Addr} {r1 r2 : List (List (Option Int))} (hz : Yd K H z r1) (hp : Yd K H p r2) (q : Q (.bl (decide (r1 = r2))) H) : rEqO K (He.ga K "Yard") (sp_Yard_eq K) E (.ref z) (.ref p) H Q := by
  obtain ⟨dw, tw, aw, v1, _⟩ := id hz
  obtain ⟨dp, tp, ap, u1, _⟩ := id hp
  exact ⟨z, dw, _, rfl, v1, ⟨_, is_yard F u1, F.nf .yard⟩, z, r1, rfl, hz, .inl ⟨p, r2, rfl, hp, _, rfl, q⟩⟩
theorem str_yd {z : Addr} {r : List (List (Option Int))} (hz : Yd K H z r) (lo : RowsLo r) (q : ∀ H', Same H H' → Q (.str (gridT r)) H') : rStrO (He.ga K "Yard") (sp_Yard_str K) E [.ref z] H Q := by
  obtain ⟨dx, t, as, y1, _⟩ := id hz
  exact ⟨z, dx, _, rfl, y1, z, r, rfl, hz, lo, fun H' s => ⟨_, rfl, q H' s⟩⟩
theorem fresh_in {X : Hp} {p q : Addr} {o : HO} (h : upd X p o q = none) : q ≠ p ∧ X q = none := by
  have n : q ≠ p := by rintro rfl; rw [upd_same] at h; cases h
  exact ⟨n, by rw [upd_ne n] at h; exact h⟩
theorem same_put {X : Hp} {p : Addr} {o : HO} (s : Same H X) (h : H p = none) : Same H (upd X p o) := fun c u e => by
  rw [upd_ne (by rintro rfl; rw [h] at e; cases e)]
  exact s c u e
theorem slim_i (i : Int) (h : i.natAbs < 1000) : Slim 40 1 (.int i) := by
  refine ⟨?_, by simp [PyData.depth], ?_, by simp [fine]⟩
  · rw [PyData.showable]
    have : i.natAbs.log2 < 10 := by
      by_cases z : i.natAbs = 0
      · rw [z]; decide
      · exact (Nat.log2_lt z).mpr (Nat.lt_of_lt_of_le h (by decide))
    refine decide_eq_true (by omega)
  · rw [PyData.shown_int, PySem.ofString_length]
    have e := int_text_length_le10 (k := 3) (by decide) h
    omega
end
theorem slim_p {o : Option Int} (h : lowQ o = true) : Slim 40 1 (pD o) := by
  cases o with
  | none => exact ⟨by show PyData.showable .none = true; simp [PyData.showable], by show PyData.depth .none ≤ 1; simp [PyData.depth], by show (PyData.shown .none).length ≤ 40; rw [PyData.shown]; decide, rfl⟩
  | some i =>
    have big := low_abs h
    refine ⟨?_, by show PyData.depth (.int i) ≤ 1; simp [PyData.depth], ?_, by show fine (.int i) = true; simp [fine]⟩
    · show PyData.showable (.int i) = true
      rw [PyData.showable]
      exact decide_eq_true (low_log h)
    · show (PyData.shown (.int i)).length ≤ 40
      rw [PyData.shown_int]
      exact priceT_len h
theorem slim_grid {rows : List (List (Option Int))} (h : RowsOk rows) (hq : ∀ r ∈ rows, r.all lowQ = true) : Slim 20000 3 (gridL rows) := by
  have one : ∀ d ∈ rows.map fun r => PyData.list (r.map pD), Slim 255 2 d := fun d m => by
    obtain ⟨r, mr, rfl⟩ := List.mem_map.mp m
    refine slim_list (B := 40) (D := 1) (n := 6) (fun d m => ?_) (by rw [List.length_map, (h.2.2 r mr).1]; exact Nat.le_refl _)
    obtain ⟨o, mo, rfl⟩ := List.mem_map.mp m
    exact slim_p (List.all_eq_true.mp (hq r mr) o mo)
  exact (slim_list one (n := 60) (by rw [List.length_map]; exact h.2.1)).mono (by decide) (by decide)
theorem dq_grid {K : PySem.W.Frag} {H : Hp} {p : Addr} {rows : List (List (Option Int))} (h : GrL K H p rows) : Dq K H (.ref p) (gridL rows) := by
  obtain ⟨as, h1, h2, h3⟩ := h
  refine .qlst h1 ?_
  clear h1
  induction as generalizing rows with
  | nil =>
    cases rows with
    | nil => exact .qnil
    | cons r t => cases h2
  | cons a as ih =>
    cases rows with
    | nil => cases h2
    | cons r t =>
      refine .qcons (.qlst (h3 0 a r rfl rfl) ?_) (ih (Nat.succ.inj h2) fun j x y z1 z2 => h3 (j + 1) x y z1 z2)
      clear ih h2 h3
      induction r with
      | nil => exact .qnil
      | cons o t ih =>
        refine .qcons ?_ ih
        cases o with
        | none => exact .qnon
        | some i => exact .qint i
theorem Slim.told {K : PySem.W.Frag} {H : Hp} {v : V} {d : PyData} {B D : Nat} (h : Slim B D d) (q : Dq K H v d) (hB : B ≤ 1100000) (hD : D ≤ 60) : Told K H v d := ⟨q, h.1, Nat.le_trans h.2.1 hD, Nat.le_trans h.2.2.1 (Nat.le_trans hB (by decide))⟩
theorem slim_tx {t : Str} (h : Tb (tl t)) : Slim 1000002 1 (.str t) := by
  refine ⟨by simp [PyData.showable], by simp [PyData.depth], ?_, ?_⟩
  · rw [PyData.shown_str]
    have := StrLaws.reprText_len t fun c m => Nat.lt_trans (h.ok c m) (by decide)
    have := h.len
    rw [← len_tl] at this
    omega
  · rw [fine]
    exact repr_ok h.ok
def sp__law_right (K : PySem.W.Frag) : Sp := sp1 fun x H Q _ => ∃ (b : Addr) (m : Int), x = .ref b ∧ Bx H b m ∧ m ≤ 1000 ∧ ∀ H', Off b H H' → Q (.bl true) H'
def t__law_right (K : PySem.W.Frag) (E : XK) : TS := (tSeq (tAsg (tFn (sp__law_rows K) E (tCons (tVar 0) (tCons (tOp (uIx K) (tLst (tCons (tC (.int 2)) (tCons (tC (.int 5)) (tCons (tC (.int 60)) tNil)))) (tFn (sp__law_take K) E (tCons (tVar 0) (tCons (tC (.int 3)) tNil)))) tNil))) (gName 1)) (tSeq (tAsg (tFn (sp__law_written K) E (tCons (tVar 1) tNil)) (gName 2)) (tSeq (tIfS (tOr (tTest (tOp (uNe K) (tCB (rStrO (He.ga K "Yard") (sp_Yard_str K) E) (tCons (tMake (He.ga K "Yard") (sp_Yard_init K) [] E (tCons (tVar 1) tNil)) tNil)) (tVar 2))) (tNot (tTest (tOp (rEqO K (He.ga K "Yard") (sp_Yard_eq K) E) (tCm (He.ga K "Yard") (sp_Yard_read K) E (tC (.ref (He.ga K "Yard"))) (tCons (tVar 2) tNil)) (tMake (He.ga K "Yard") (sp_Yard_init K) [] E (tCons (tVar 1) tNil)))))) (tRet (tC (.bl false))) tNext) (tSeq (tFor (iRng1 (tCons (tC (.int 6)) tNil)) (gName 3) (tSeq (tAsg (tFn (sp__law_bent K) E (tCons (tVar 0) (tCons (tVar 2) tNil))) (gName 4)) (tSeq (tAsg (tFn (sp__law_read K) E (tCons (tVar 4) tNil)) (gName 5)) (tIfS (tTest (tOp (uNe K) (tFn (sp__law_caught K) E (tCons (tVar 4) tNil)) (tIf (tTest (tOp uIs (tVar 5) (tC .non))) (tLst (tCons (tC (.str "text")) (tCons (tCB (uReprQ K) (tCons (tVar 4) tNil)) tNil))) (tVar 5)))) (tRet (tC (.bl false))) tNext)))) (tSeq (tAsg (tOp (uIx K) (tLst (tCons (tC .non) (tCons (tC (.int 5)) (tCons (tLst (tCons (tVar 2) tNil)) (tCons tDNewK (tCons (tC (.bl true)) (tCons (tMeth (He.ga K "Yard") "rows" (sp_Yard_rows K) [] E (tMake (He.ga K "Yard") (sp_Yard_init K) [] E (tCons (tVar 1) tNil)) tNil) tNil))))))) (tFn (sp__law_take K) E (tCons (tVar 0) (tCons (tC (.int 6)) tNil)))) (gName 6)) (tRet (tOp (uEq K) (tFn (sp__law_caught K) E (tCons (tVar 6) tNil)) (tLst (tCons (tC (.str "text")) (tCons (tCB (uReprQ K) (tCons (tVar 6) tNil)) tNil))))))))))
section
variable {K : PySem.W.Frag} (F : KF K) {vs : List V} {H : Hp} {Q : VK} {E : XK}
local macro_rules | `(tactic| walk_at "w") => `(tactic| try simp only [turnE, lcT, Snoc, tRet, tRetN, tAndV, tOrV, tNotV, tCB, tCons, tVar, tNil, tC, tOp, tSeq, tAsg, gName, gSub, tIfS, tDrop, tFn, tTup, tLst, tNext, tB, tTest, tNot, tAnd, tOr, tIf, tChain, tUn, rU, tFld, tPart, tNoPart, L2.tSl, tBM, tPar, tPar3, tTruth, tDNewK,
  L2.start, List.map_cons, List.map_nil, List.length_cons, List.length_nil, List.replicate_succ, List.replicate_zero, List.append_nil, List.nil_append, List.cons_append, List.singleton_append, Nat.sub_self, Nat.zero_add, Nat.reduceAdd, Nat.reduceSub,
  List.getElem?_cons_zero, List.getElem?_cons_succ, List.set_cons_zero, List.set_cons_succ, Option.some.injEq, exists_eq_left, exists_eq_left', V.int.injEq, V.bl.injEq, V.str.injEq, V.ref.injEq,
  uAdd_int, uAdd_str, uSub_int, uMul_int, uMul_str, uDiv_int, uMod_int, uPow_int, uLt_int, uLe_int, uGt_int, uGe_int, uIs_non, uNis_non, uIs_bl, uNis_bl, sp1, sp2, sp3, sp4, uEq_int, uEq_str, uNe_int, uNe_str, uSl_str, uLen_str, decide_eq_true_eq])
local macro_rules | `(tactic| walk_at "1") => `(tactic| try simp only [turnE, lcT, Snoc, tRet, tRetN, tAndV, tOrV, tNotV, tCB, tCons, tVar, tNil, tC, tOp, tAsg, gName, gSub, tIfS, tDrop, tFn, tTup, tLst, tNext, tB, tTest, tNot, tAnd, tOr, tIf, tChain, tUn, rU, tFld, tPart, tNoPart, L2.tSl, tBM, tPar, tPar3, tTruth, tDNewK,
  L2.start, List.map_cons, List.map_nil, List.length_cons, List.length_nil, List.replicate_succ, List.replicate_zero, List.append_nil, List.nil_append, List.cons_append, List.singleton_append, Nat.sub_self, Nat.zero_add, Nat.reduceAdd, Nat.reduceSub,
  List.getElem?_cons_zero, List.getElem?_cons_succ, List.set_cons_zero, List.set_cons_succ, Option.some.injEq, exists_eq_left, exists_eq_left', V.int.injEq, V.bl.injEq, V.str.injEq, V.ref.injEq,
  uAdd_int, uAdd_str, uSub_int, uMul_int, uMul_str, uDiv_int, uMod_int, uPow_int, uLt_int, uLe_int, uGt_int, uGe_int, uIs_non, uNis_non, uIs_bl, uNis_bl, sp1, sp2, sp3, sp4, uEq_int, uEq_str, uNe_int, uNe_str, uSl_str, uLen_str, decide_eq_true_eq])
local macro_rules | `(tactic| walk_at "s") => `(tactic| ((try dsimp only [turnE]); with_reducible refine seq_ ?_))

include F in
theorem read__law_right (h : sp__law_right K vs H Q E) : t__law_right K E { nx := fun _ H' => Q .non H', rt := Q } (start ["_law_bag_here", "_law_rows_here", "_law_text", "_law_lap", "_law_near", "_law_due", "_law_odd"] vs) H := by
  match vs, h with
  | [_], ⟨b, m, rfl, hb, hm, q⟩ =>
    unfold t__law_right
    walk_at "s"
    walk_at "1"
    refine ⟨by decide, fun q1 n1 => ?_⟩
    have s1 := same_new (o := .lst [V.int 2, .int 5, .int 60]) n1
    have g1 : upd H q1 (.lst [V.int 2, .int 5, .int 60]) q1 = some (.lst [V.int 2, .int 5, .int 60]) := upd_same
    have nb1 := hb.ne n1
    have b1 := hb.same s1
    generalize upd H q1 (.lst [V.int 2, .int 5, .int 60]) = H1 at *
    refine take_of b1 (by omega) (by omega) (by omega) fun e H2 e0 e1 o2 b2 => ?_
    have o02 := Off.trans (Same.off s1) o2
    obtain ⟨n, hn, n1', n60⟩ : ∃ n : Nat, atI [V.int 2, .int 5, .int 60] e = some (.int (n : Nat)) ∧ 1 ≤ n ∧ n ≤ 60 := by
      obtain rfl | rfl | rfl : e = 0 ∨ e = 1 ∨ e = 2 := by omega
      · exact ⟨2, rfl, by decide, by decide⟩
      · exact ⟨5, rfl, by decide, by decide⟩
      · exact ⟨60, rfl, by decide, by decide⟩
    refine uIx_lst (o2.lst g1 nb1) hn ?_
    refine ⟨b, m + 1, n, rfl, rfl, n1', n60, b2, by omega, fun rows v H3 hrl ok hv o3 b3 lo hpi => ?_⟩
    obtain ⟨L, as, rfl, pi⟩ := hpi
    have o03 := Off.trans o02 o3
    have loq : ∀ r ∈ rows, r.all lowQ = true := fun r mr => all_lowQ (lo r mr)
    walk_at "s"
    walk_at "1"
    refine ⟨rows, hv, ok, loq, fun H4 s4 => ?_⟩
    have o04 := Off.trans o03 (Same.off s4)
    have pi4 := pi.off (Same.off s4)
    have b4 := b3.same s4
    have pl : ∀ y ∈ rows.map lineT, Pt 250 40 (tl y) := fun y my => by
      obtain ⟨r, mr, rfl⟩ := List.mem_map.mp my
      exact pt_line (loq r mr) (ok.2.2 r mr).1
    have pg : Pt (251 * 60) 40 (tl (gridT rows)) := pt_lines pl (by rw [List.length_map]; exact ok.2.1)
    have tbg : Tb (tl (gridT rows)) := pg.tb (by decide) (by decide)
    walk_at "s"
    walk_at "1"
    simp only [tMake]
    walk_at "1"
    refine make_yd (Q := fun x H' => rStrO (He.ga K "Yard") (sp_Yard_str K) E [.ref x] H' _) (pi4.rowV) ok fun y H5 s5 ny hy => str_yd hy loq fun H6 s6 => ?_
    rw [uNe_str, decide_eq_true rfl]
    refine ⟨_, rfl, ?_⟩
    rw [Bool.not_true, if_neg (by decide)]
    have s46 := s5.trans s6
    have pi6 := pi4.off (Same.off s46)
    simp only [tCm]
    walk_at "1"
    refine ⟨trivial, .str, rfl, is_str _, (fun t e => by cases e; exact tbg), (fun t e okt z H7 s7 nz hz => ?_), fun e => ?_⟩
    rotate_left
    · have := grid_ok ok
      have e : textOk (tl (gridT rows)) = false := e
      rw [this] at e
      cases e
    cases e
    rw [grid_rows ok] at hz
    have pi7 := pi6.off (Same.off s7)
    refine make_yd (Q := fun x H' => rEqO K (He.ga K "Yard") (sp_Yard_eq K) E (.ref z) (.ref x) H' _) (pi7.rowV) ok fun y2 H8 s8 ny2 hy2 => eq_yd F (hz.same s8) hy2 ?_
    refine ⟨_, rfl, ?_⟩
    rw [decide_eq_true rfl, if_neg (by decide)]
    have s48 := s46.trans (s7.trans s8)
    have o08 := Off.trans o04 (Same.off s48)
    have b8 := b4.same s48
    have pi8 := pi4.off (Same.off s48)
    walk_at "s"
    refine for_rng1 (n := 6) (fun R r => by walk_at "1"; exact r) (by decide) (fun i σ H' => (∃ x3 x4 x5 x6, σ = [some (.ref b), some (.ref L), some (.str (gridT rows)), x3, x4, x5, x6]) ∧ Off b H H' ∧ Bx H' b (m + 1 + 2000 + 4 * i) ∧ PI H' L b as rows)
      ⟨⟨_, _, _, _, rfl⟩, o08, b8.mono (by omega), pi8⟩ ?_ ?_
    · rintro i σ H9 hi ⟨⟨x3, x4, x5, x6, rfl⟩, o9, b9, pi9⟩
      simp only [gName, List.set_cons_zero, List.set_cons_succ]
      walk_at "s"
      walk_at "1"
      refine ⟨b, _, rows, rfl, rfl, ok, loq, b9, by omega, fun t HA tbt oA bA => ?_⟩
      walk_at "s"
      walk_at "1"
      have o0A := Off.trans o9 oA
      have piA := pi9.off oA
      have last : ∀ HB HC, Same HA HB → Same HB HC → (∃ x3 x4 x5 x6, [some (V.ref b), some (.ref L), some (.str (gridT rows)), x3, x4, x5, x6] = [some (.ref b), some (.ref L), some (.str (gridT rows)), some (V.int (i : Nat)), some (V.str t), x5, x6]) → True := fun _ _ _ _ _ => trivial
      refine ⟨t, rfl, tbt, fun bad HB sB => ?_, fun good l HB sB nl hl => ?_⟩
      · walk_at "1"
        refine ⟨.str, .str t, is_str t, fun t' e => by cases e; exact tbt, (slim_tx tbt).told (.qstr t) (by decide) (by decide), fun t' e okt => ?_, fun _ l HC sC hl => ?_⟩
        · cases e
          rw [bad] at okt
          cases okt
        · simp only [decide_true, if_true]
          have td := (slim_tx tbt).told (K := K) (H := HC) (.qstr t) (by decide) (by decide)
          refine ⟨.str t, .str t, rfl, td.1, td.2.1, td.2.2.1, td.2.2.2, by decide, fun p hp => ?_⟩
          have sD : Same HC (upd HC p (.lst [.str "text", .str (PyData.str t).shown])) := same_new hp
          refine ne_two (by decide +kernel) (ok_shown _ (slim_tx tbt).2.2.2) (sD _ _ hl) upd_same ⟨false, rfl, ?_⟩
          rw [if_neg (by decide)]
          have sAD := sB.trans (sC.trans sD)
          exact ⟨⟨_, _, _, _, rfl⟩, Off.trans o0A (Same.off sAD), (bA.same sAD).mono (by omega), piA.off (Same.off sAD)⟩
      · walk_at "1"
        refine ⟨.str, .str t, is_str t, fun t' e => by cases e; exact tbt, (slim_tx tbt).told (.qstr t) (by decide) (by decide), fun t' e okt l2 HC sC nl2 hl2 => ?_, fun e => ?_⟩
        · cases e
          rw [if_neg (fun z => by cases z)]
          refine ne_gr hl2 (hl.same sC) ?_
          rw [decide_eq_true rfl]
          refine ⟨_, rfl, ?_⟩
          rw [Bool.not_true, if_neg (by decide)]
          have sAD := sB.trans sC
          exact ⟨⟨_, _, _, _, rfl⟩, Off.trans o0A (Same.off sAD), (bA.same sAD).mono (by omega), piA.off (Same.off sAD)⟩
        · have e : textOk (tl t) = false := e
          rw [good] at e
          cases e
    · rintro σ H9 ⟨⟨x3, x4, x5, x6, rfl⟩, o9, b9, pi9⟩
      walk_at "s"
      walk_at "1"
      simp only [tMeth, tMake]
      walk_at "1"
      refine ⟨by decide, fun pT hpT pD hpD => ?_⟩
      obtain ⟨nDT, hpD0⟩ := fresh_in hpD
      have nTb := b9.ne hpT
      have nDb := b9.ne hpD0
      have sA : Same H9 (upd (upd H9 pT (.lst [.str (gridT rows)])) pD (.dK [])) := (same_new hpT).trans (same_new hpD)
      have gT : upd (upd H9 pT (.lst [.str (gridT rows)])) pD (.dK []) pT = some (.lst [.str (gridT rows)]) := by rw [upd_ne nDT.symm, upd_same]
      have gD : upd (upd H9 pT (.lst [.str (gridT rows)])) pD (.dK []) pD = some (.dK []) := upd_same
      have piA := pi9.off (Same.off sA)
      have bA := b9.same sA
      generalize upd (upd H9 pT (.lst [.str (gridT rows)])) pD (.dK []) = HA at *
      refine make_yd (Q := fun x H' => ∃ a dx fs, x = a ∧ H' a = some (.ins (He.ga K "Yard") dx fs) ∧ fs.lookup ("rows" : Str) = none ∧ sp_Yard_rows K [.ref x] H' _ E) piA.rowV ok fun y HB sB ny hy => ?_
      obtain ⟨dx, tt, as', y1, _⟩ := id hy
      refine ⟨y, dx, _, rfl, y1, by rfl, y, rows, rfl, hy, fun l ls HC sC nl gl hR nd nls fr => ⟨by decide, fun p2 hp2 => ?_⟩⟩
      have sAC := sB.trans sC
      have bC := bA.same sAC
      have nlb : l ≠ b := (bA.same sB).ne nl
      have nlsb : ∀ a ∈ ls, a ≠ b := fun a m => (bA.same sB).ne (fr a m)
      have n2b := bC.ne hp2
      have sD : Same HC (upd HC p2 (.lst [V.non, .int 5, .ref pT, .ref pD, .bl true, .ref l])) := same_new hp2
      have g2 : upd HC p2 (.lst [V.non, .int 5, .ref pT, .ref pD, .bl true, .ref l]) p2 = some (.lst [V.non, .int 5, .ref pT, .ref pD, .bl true, .ref l]) := upd_same
      have bD := bC.same sD
      generalize upd HC p2 (.lst [V.non, .int 5, .ref pT, .ref pD, .bl true, .ref l]) = HD at *
      refine take_of bD (by omega) (by omega) (by omega) fun e HE e0 e1 oE bE => ?_
      have oAE := Off.trans (Same.off (sAC.trans sD)) oE
      have gT' := oAE _ _ nTb gT
      have gD' := oAE _ _ nDb gD
      have gr : GrL K HE l rows := ⟨ls, .inl (.inl (oE _ _ nlb (sD _ _ gl))), hR.1, fun i a r z1 z2 => .inl (.inl (oE _ _ (nlsb a (List.mem_of_getElem? z1)) (sD _ _ (hR.2 i a r z1 z2))))⟩
      have o0E := Off.trans o9 (Off.trans (Same.off sA) oAE)
      obtain ⟨w, a, d, hw, ha, hn, td, fd⟩ : ∃ w a d, atI [V.non, .int 5, .ref pT, .ref pD, .bl true, .ref l] e = some w ∧ Is K HE w a ∧ (∀ t, w ≠ .str t) ∧ Told K HE w d ∧ fine d = true := by
        obtain rfl | rfl | rfl | rfl | rfl | rfl : e = 0 ∨ e = 1 ∨ e = 2 ∨ e = 3 ∨ e = 4 ∨ e = 5 := by omega
        · exact ⟨_, _, .none, rfl, is_non, (fun t e => nomatch e), ⟨.qnon, by decide +kernel, by decide +kernel, by decide +kernel⟩, by decide +kernel⟩
        · exact ⟨_, _, .int 5, rfl, is_int 5, (fun t e => nomatch e), ⟨.qint 5, by decide +kernel, by decide +kernel, by decide +kernel⟩, by decide +kernel⟩
        · have sl := slim_list (ds := [.str (gridT rows)]) (n := 1) (fun d m => by rw [List.mem_singleton.mp m]; exact slim_tx tbg) (Nat.le_refl 1)
          exact ⟨_, _, .list [.str (gridT rows)], rfl, is_lst gT', (fun t e => nomatch e), sl.told (.qlst (.inl (.inl gT')) (.qcons (.qstr _) .qnil)) (by decide) (by decide), sl.2.2.2⟩
        · exact ⟨_, _, .dict [], rfl, is_dct gD', (fun t e => nomatch e), ⟨.qdct gD' rfl .qnil, by decide +kernel, by decide +kernel, by decide +kernel⟩, by decide +kernel⟩
        · exact ⟨_, _, .bool true, rfl, is_bl true, (fun t e => nomatch e), ⟨.qbl true, by decide +kernel, by decide +kernel, by decide +kernel⟩, by decide +kernel⟩
        · have sl := slim_grid ok loq
          exact ⟨_, _, gridL rows, rfl, is_lst (oE _ _ nlb (sD _ _ gl)), (fun t e => nomatch e), sl.told (dq_grid gr) (by decide) (by decide), sl.2.2.2⟩
      refine uIx_lst (oE.lst g2 n2b) hw ?_
      refine ⟨a, d, ha, fun t e => absurd e (hn t), td, fun t e => absurd e (hn t), fun _ l2 HF sF hl2 => ?_⟩
      have td2 := td.same sF
      refine ⟨w, d, rfl, td2.1, td2.2.1, td2.2.2.1, td2.2.2.2, by decide, fun p3 hp3 => ?_⟩
      have sG : Same HF (upd HF p3 (.lst [.str "text", .str d.shown])) := same_new hp3
      exact eq_two (by decide +kernel) (ok_shown _ fd) (sG _ _ hl2) upd_same (q _ (Off.trans o0E (Same.off (sF.trans sG))))
end
end U
namespace U
open PySem PySem.Spec PyProof.Rows L2 TL

def t_law (K : PySem.W.Frag) (E : XK) : TS := (tSeq (tFor (iRng1 (tCons (tCB uMax2 (tCons (tC (.int 2)) (tCons (tCB uMin2 (tCons (tC (.int 5)) (tCons (tCB (uLen K) (tCons (tVar 0) tNil)) tNil))) tNil))) tNil)) (gName 1) (tIfS (tNot (tB (tFn (sp__law_right K) E (tCons (tFn (sp__law_bag K) E (tCons (tFn (sp__law_cell K) E (tCons (tVar 0) (tCons (tVar 1) tNil))) tNil)) tNil)))) (tRet (tC (.bl false))) tNext)) (tSeq (tAsg (tJoin K (tC (.str "\n")) (tOp uMul (tLst (tCons (tC (.str "- - - - - 7")) tNil)) (tC (.int 61)))) (gName 2)) (tSeq (tAsg (tLst (tCons (tC (.str "")) (tCons (tC (.str " ")) (tCons (tC (.str "\n")) (tCons (tC (.str "1 1 1 1 1")) (tCons (tC (.str "1 1 1 1 1 01")) (tCons (tC (.str "1 1 1 1 1 0")) (tCons (tC (.str "1 1 1 1 1 1_0")) (tCons (tC (.str "1 1 1 1 1 +1")) tNil))))))))) (gName 3)) (tSeq (tAsg (tOp uAdd (tVar 3) (tLst (tCons (tC (.str "- - - - - --")) (tCons (tC (.str "1  1 1 1 1 1")) (tCons (tVar 2) tNil))))) (gName 3)) (tSeq (tIfS (tTest (tOp (uNe K) (tLc (iSeq K (tVar 3)) (gName 4) (tTest (tOp (uNe K) (tFn (sp__law_caught K) E0 (tCons (tVar 4) tNil)) (tLst (tCons (tC (.str "text")) (tCons (tCB (uReprQ K) (tCons (tVar 4) tNil)) tNil))))) (tVar 4) [4]) (tLst tNil))) (tRet (tC (.bl false))) tNext) (tRet (tOp (uEq K) (tCB (rLenO (He.ga K "Yard") (sp_Yard_len K)) (tCons (tCm (He.ga K "Yard") (sp_Yard_read K) E (tC (.ref (He.ga K "Yard"))) (tCons (tSl (uSl K) (tVar 2) tNoPart (tPart (tC (.int 719)))) tNil)) tNil)) (tC (.int 60)))))))))
def w7 : Str := "- - - - - 7"
def w7L : List Nat := [45, 32, 45, 32, 45, 32, 45, 32, 45, 32, 55]
theorem tl_w7 : tl w7 = w7L := by decide +kernel
def wideT : Str := Txt.join "\n" (List.replicate 61 w7)
theorem tl_wide : tl wideT = joinL [10] (List.replicate 61 w7L) := by
  have e : tl ("\n" : Str) = [10] := by decide +kernel
  unfold wideT
  rw [join_eq, tl_join, e, List.map_replicate, tl_w7]
theorem wide_bad : textOk (tl wideT) = false := by
  rw [tl_wide]
  decide +kernel
theorem tl_cut719 : tl (cutS wideT none (some 719)) = (joinL [10] (List.replicate 61 w7L)).take 719 := by
  have el : wideT.length = 731 := by
    rw [len_tl, tl_wide]
    decide +kernel
  unfold cutS
  rw [tl_mk, el]
  show ((tl wideT).drop 0).take (719 - 0) = _
  rw [tl_wide, List.drop_zero]
theorem cut_good : textOk (tl (cutS wideT none (some 719))) = true := by
  rw [tl_cut719]
  decide +kernel
theorem cut_rows : (rowsT (tl (cutS wideT none (some 719)))).length = 60 := by
  rw [tl_cut719]
  decide +kernel
theorem pt_w7 : Pt 250 40 (tl w7) := by
  rw [tl_w7]
  exact ⟨by decide, by decide, by decide⟩
theorem pt_wide : Pt (251 * 61) 40 (tl wideT) := pt_lines (fun y m => by rw [List.eq_of_mem_replicate m]; exact pt_w7) (Nat.le_of_eq (List.length_replicate ..))
def badTs : List Str := ["", " ", "\n", "1 1 1 1 1", "1 1 1 1 1 01", "1 1 1 1 1 0", "1 1 1 1 1 1_0", "1 1 1 1 1 +1"]
def oddTs : List Str := ["- - - - - --", "1  1 1 1 1 1"]
def moreTs : List Str := oddTs ++ [wideT]
theorem bad_one : ∀ y ∈ badTs ++ oddTs, textOk (tl y) = false ∧ Pt 20 20 (tl y) := by
  have e : ∀ y ∈ badTs ++ oddTs, textOk (tl y) = false ∧ (tl y).length ≤ 20 ∧ mx 0 (tl y) ≤ 20 ∧ ∀ c ∈ tl y, c < 0x110000 := by decide +kernel
  exact fun y m => ⟨(e y m).1, (e y m).2.1, (e y m).2.2.1, (e y m).2.2.2⟩
theorem bad_all : ∀ y ∈ badTs ++ moreTs, textOk (tl y) = false ∧ Tb (tl y) := by
  intro y m
  unfold moreTs at m
  rw [← List.append_assoc] at m
  rcases List.mem_append.mp m with m | m
  · exact ⟨(bad_one y m).1, (bad_one y m).2.tb (by decide) (by decide)⟩
  · rw [List.mem_singleton.mp m]
    exact ⟨wide_bad, pt_wide.tb (by decide) (by decide)⟩
section
variable {K : PySem.W.Frag} (F : KF K) {vs : List V} {H : Hp} {Q : VK} {E : XK}
local macro_rules | `(tactic| walk_at "w") => `(tactic| try simp only [turnE, lcT, Snoc, tRet, tRetN, tAndV, tOrV, tNotV, tCB, tCons, tVar, tNil, tC, tOp, tSeq, tAsg, gName, gSub, tIfS, tDrop, tFn, tTup, tLst, tNext, tB, tTest, tNot, tAnd, tOr, tIf, tChain, tUn, rU, tFld, tPart, tNoPart, L2.tSl, tBM, tPar, tPar3, tTruth, tDNewK,
  L2.start, List.map_cons, List.map_nil, List.length_cons, List.length_nil, List.replicate_succ, List.replicate_zero, List.append_nil, List.nil_append, List.cons_append, List.singleton_append, Nat.sub_self, Nat.zero_add, Nat.reduceAdd, Nat.reduceSub,
  List.getElem?_cons_zero, List.getElem?_cons_succ, List.set_cons_zero, List.set_cons_succ, Option.some.injEq, exists_eq_left, exists_eq_left', V.int.injEq, V.bl.injEq, V.str.injEq, V.ref.injEq,
  uAdd_int, uAdd_str, uSub_int, uMul_int, uMul_str, uDiv_int, uMod_int, uPow_int, uLt_int, uLe_int, uGt_int, uGe_int, uIs_non, uNis_non, uIs_bl, uNis_bl, sp1, sp2, sp3, sp4, uEq_int, uEq_str, uNe_int, uNe_str, uSl_str, uLen_str, decide_eq_true_eq])
local macro_rules | `(tactic| walk_at "1") => `(tactic| try simp only [turnE, lcT, Snoc, tRet, tRetN, tAndV, tOrV, tNotV, tCB, tCons, tVar, tNil, tC, tOp, tAsg, gName, gSub, tIfS, tDrop, tFn, tTup, tLst, tNext, tB, tTest, tNot, tAnd, tOr, tIf, tChain, tUn, rU, tFld, tPart, tNoPart, L2.tSl, tBM, tPar, tPar3, tTruth, tDNewK,
  L2.start, List.map_cons, List.map_nil, List.length_cons, List.length_nil, List.replicate_succ, List.replicate_zero, List.append_nil, List.nil_append, List.cons_append, List.singleton_append, Nat.sub_self, Nat.zero_add, Nat.reduceAdd, Nat.reduceSub,
  List.getElem?_cons_zero, List.getElem?_cons_succ, List.set_cons_zero, List.set_cons_succ, Option.some.injEq, exists_eq_left, exists_eq_left', V.int.injEq, V.bl.injEq, V.str.injEq, V.ref.injEq,
  uAdd_int, uAdd_str, uSub_int, uMul_int, uMul_str, uDiv_int, uMod_int, uPow_int, uLt_int, uLe_int, uGt_int, uGe_int, uIs_non, uNis_non, uIs_bl, uNis_bl, sp1, sp2, sp3, sp4, uEq_int, uEq_str, uNe_int, uNe_str, uSl_str, uLen_str, decide_eq_true_eq])
local macro_rules | `(tactic| walk_at "s") => `(tactic| ((try dsimp only [turnE]); with_reducible refine seq_ ?_))

include F in
theorem read_law (h : sp_law0 K vs H Q E) : t_law K E { nx := fun _ H' => Q .non H', rt := Q } (start ["_law_script", "_law_k", "_law_wide", "_law_bad", "_law_text"] vs) H := by
  match vs, h with
  | [_], ⟨a, ns, rfl, hs, q⟩ =>
    unfold t_law
    walk_at "s"
    obtain ⟨N, hN6, hN⟩ := most_of (ns.map V.int).length 5 (by decide)
    refine for_rng1 (n := N) (fun R r => by
      walk_at "1"
      refine uLen_seq (.inl hs) ⟨_, _, rfl, ⟨_, _, rfl, ?_⟩⟩
      show R [.int _] H
      rw [hN]
      exact r) (by omega) (fun i σ H' => Same H H' ∧ ∃ x1, σ = [some (.ref a), x1, none, none, none]) ⟨Same.refl H, _, rfl⟩ ?_ ?_
    · rintro i σ H0 hi ⟨s0, x1, rfl⟩
      simp only [gName, List.set_cons_zero, List.set_cons_succ]
      walk_at "1"
      refine ⟨a, ns, i, rfl, rfl, Same.seq s0 hs, by omega, by omega, fun c H1 s1 => ?_⟩
      refine ⟨c, rfl, fun b H2 hb0 s2 hb => ?_⟩
      have s02 := s0.trans (s1.trans s2)
      have nb := (s0.trans s1).free hb0
      refine ⟨b, 0, rfl, hb, by decide, fun H3 o3 => ⟨true, rfl, ?_⟩⟩
      exact ⟨(Off.trans (Same.off s02) o3).same nb, _, rfl⟩
    · rintro σ H0 ⟨s0, x1, rfl⟩
      walk_at "s"
      simp only [tJoin, tM1, tC, tAsg]
      refine ⟨⟨_, rfl⟩, ?_⟩
      walk_at "1"
      refine ⟨by decide, fun p0 hp0 => ?_⟩
      have sA : Same H0 (upd H0 p0 (.lst [.str w7])) := same_new hp0
      have gA : upd H0 p0 (.lst [.str w7]) p0 = some (.lst [.str w7]) := upd_same
      show uMul (V.ref p0) (V.int 61) (upd H0 p0 (.lst [.str w7])) _
      generalize upd H0 p0 (.lst [.str w7]) = HA at *
      refine ⟨p0, 61, _, rfl, rfl, gA, by decide, by decide, (show 1 * 61 ≤ sizeLine by decide), fun p1 hp1 => ?_⟩
      have e61 : (List.replicate (61 : Int).toNat [V.str w7]).flatten = (List.replicate 61 w7).map V.str := rfl
      rw [e61]
      have sB : Same HA (upd HA p1 (.lst ((List.replicate 61 w7).map V.str))) := same_new hp1
      have gB : upd HA p1 (.lst ((List.replicate 61 w7).map V.str)) p1 = some (.lst ((List.replicate 61 w7).map V.str)) := upd_same
      generalize upd HA p1 (.lst ((List.replicate 61 w7).map V.str)) = HB at *
      refine join_lines gB (fun y m => by rw [List.eq_of_mem_replicate m]; exact pt_w7) (by rw [List.length_replicate]; decide) ?_
      show tSeq _ _ _ _ _
      have ew : Txt.join "\n" (List.replicate 61 w7) = wideT := rfl
      rw [ew]
      walk_at "s"
      walk_at "1"
      refine ⟨by decide, fun p2 hp2 => ?_⟩
      have sC : Same HB (upd HB p2 (.lst (badTs.map V.str))) := same_new hp2
      have gC : upd HB p2 (.lst (badTs.map V.str)) p2 = some (.lst (badTs.map V.str)) := upd_same
      show tSeq _ _ _ _ (upd HB p2 (.lst (badTs.map V.str)))
      generalize upd HB p2 (.lst (badTs.map V.str)) = HC at *
      walk_at "s"
      walk_at "1"
      refine ⟨by decide, fun p3 hp3 => ?_⟩
      have sD : Same HC (upd HC p3 (.lst (moreTs.map V.str))) := same_new hp3
      have gD : upd HC p3 (.lst (moreTs.map V.str)) p3 = some (.lst (moreTs.map V.str)) := upd_same
      show uAdd (V.ref p2) (V.ref p3) (upd HC p3 (.lst (moreTs.map V.str))) _
      generalize upd HC p3 (.lst (moreTs.map V.str)) = HD at *
      refine cat_strs (sD _ _ gC) gD (by decide) fun p4 hp4 => ?_
      have sE : Same HD (upd HD p4 (.lst ((badTs ++ moreTs).map V.str))) := same_new hp4
      have gE : upd HD p4 (.lst ((badTs ++ moreTs).map V.str)) p4 = some (.lst ((badTs ++ moreTs).map V.str)) := upd_same
      generalize upd HD p4 (.lst ((badTs ++ moreTs).map V.str)) = HE at *
      have few : (badTs ++ moreTs).length = 11 := rfl
      have all := bad_all
      generalize badTs ++ moreTs = bad at *
      walk_at "s"
      walk_at "1"
      refine tLc_seq (p := p4) (.inl (.inl (.inl gE))) (tVar_eq rfl) fun J G P hG D hD => ?_
      refine lc_filter P (fun _ => false) (show 4 < 5 by decide) hD (by rw [List.length_map, few]; decide) hG (fun x m HF R sF r => ?_) fun HF sF gF => ?_
      · obtain ⟨y, my, rfl⟩ := List.mem_map.mp m
        obtain ⟨ba, tb⟩ := all y my
        simp only [List.set_cons_zero, List.set_cons_succ]
        walk_at "1"
        refine ⟨.str, .str y, is_str y, fun t e => by cases e; exact tb, (slim_tx tb).told (.qstr y) (by decide) (by decide), fun t e ok => ?_, fun _ l HG sG hl => ?_⟩
        · cases e
          rw [ba] at ok
          cases ok
        · have td := (slim_tx tb).told (K := K) (H := HG) (.qstr y) (by decide) (by decide)
          refine ⟨.str y, .str y, rfl, td.1, td.2.1, td.2.2.1, td.2.2.2, by decide, fun p hp => ?_⟩
          have sH : Same HG (upd HG p (.lst [.str "text", .str (PyData.str y).shown])) := same_new hp
          exact ne_two (by decide +kernel) (ok_shown _ (slim_tx tb).2.2.2) (sH _ _ hl) upd_same ⟨false, rfl, r _ (sG.trans sH)⟩
      · have ef : (bad.map V.str).filter (fun _ => false) = ([] : List Str).map V.str := by simp
        rw [ef] at gF
        refine ⟨by decide, fun p5 hp5 => ?_⟩
        have sG : Same HF (upd HF p5 (.lst [])) := same_new hp5
        have gG : upd HF p5 (.lst []) p5 = some (.lst (([] : List Str).map V.str)) := upd_same
        generalize upd HF p5 (.lst []) = HG at *
        refine ne_strs (.inl (.inl (sG _ _ gF))) (.inl (.inl gG)) (fun x m => nomatch m) (fun x m => nomatch m) ?_
        refine ⟨_, rfl, ?_⟩
        rw [decide_eq_true rfl, if_neg (by decide)]
        simp only [tCm]
        walk_at "1"
        have lw : wideT.length ≤ sizeLine := by
          rw [len_tl]
          exact Nat.le_trans pt_wide.len (by decide)
        have tbc := (pt_wide.cut none (some 719)).tb (by decide) (by decide)
        refine ⟨trivial, lw, .str, rfl, is_str _, (fun t e => by cases e; exact tbc), (fun t e okt z HI sI nz hz => ?_), fun e => ?_⟩
        · cases e
          refine lenO_of hz ?_
          rw [cut_rows, uEq_int]
          exact q HI
        · have e : textOk (tl (cutS wideT none (some 719))) = false := e
          rw [cut_good] at e
          cases e
end
end U
namespace U
open PySem PySem.Spec PyProof.Rows L2
def top (i : Nat) : Stmt := PySem.Challenge.pw_cratetowers_k04_texts_of_yards.main.body.getD i (.Pass ⟨0, 0, 0, 0⟩)
abbrev s_InvalidYard_init : Stmt := inClass (top 3) 0
abbrev s_InvalidText_init : Stmt := inClass (top 4) 0
abbrev s_is_price : Stmt := top 14
abbrev s_is_integer : Stmt := top 15
abbrev s_is_numeral : Stmt := top 17
abbrev s_Yard_init : Stmt := inClass (top 20) 0
abbrev s_Yard_read : Stmt := inClass (top 20) 1
abbrev s_Yard_len : Stmt := inClass (top 20) 3
abbrev s_Yard_eq : Stmt := inClass (top 20) 4
abbrev s_Yard_str : Stmt := inClass (top 20) 5
abbrev s_Yard_rows : Stmt := inClass (top 20) 6
abbrev s__are_rows : Stmt := top 21
abbrev s__is_price_row : Stmt := top 22
abbrev s__is_yard_text : Stmt := top 23
abbrev s__is_line : Stmt := top 24
abbrev s__is_price_text : Stmt := top 25
abbrev s__price_text : Stmt := top 26
abbrev s__price_of : Stmt := top 27
abbrev s__law_cell : Stmt := top 29
abbrev s__law_bag : Stmt := top 30
abbrev s__law_take : Stmt := top 31
abbrev s__law_rows : Stmt := top 32
abbrev s__law_written : Stmt := top 33
abbrev s__law_numeral : Stmt := top 34
abbrev s__law_read : Stmt := top 35
abbrev s__law_bent : Stmt := top 36
abbrev s__law_caught : Stmt := top 37
abbrev s__law_right : Stmt := top 38
abbrev s_law : Stmt := top 39
abbrev mkD (at_ : PySem.W.Frag → Addr) (nm qual : Str) (st : Stmt) : He5.DefA := ⟨at_, nm, qual, defArgs st, defBody st, defScope st, [], []⟩
def d_InvalidYard_init : He5.DefA := mkD (fun K => He.ma K (He.ga K "InvalidYard") "__init__") "__init__" "InvalidYard.__init__" s_InvalidYard_init
def d_InvalidText_init : He5.DefA := mkD (fun K => He.ma K (He.ga K "InvalidText") "__init__") "__init__" "InvalidText.__init__" s_InvalidText_init
def d_is_price : He5.DefA := mkD (fun K => He.ga K "is_price") "is_price" "is_price" s_is_price
def d_is_integer : He5.DefA := mkD (fun K => He.ga K "is_integer") "is_integer" "is_integer" s_is_integer
def d_is_numeral : He5.DefA := mkD (fun K => He.ga K "is_numeral") "is_numeral" "is_numeral" s_is_numeral
def d_Yard_init : He5.DefA := mkD (fun K => He.ma K (He.ga K "Yard") "__init__") "__init__" "Yard.__init__" s_Yard_init
def d_Yard_read : He5.DefA := mkD (fun K => He5.wf K (He.ga K "Yard") "classmethod" "read") "read" "Yard.read" s_Yard_read
def d_Yard_len : He5.DefA := mkD (fun K => He.ma K (He.ga K "Yard") "__len__") "__len__" "Yard.__len__" s_Yard_len
def d_Yard_eq : He5.DefA := mkD (fun K => He.ma K (He.ga K "Yard") "__eq__") "__eq__" "Yard.__eq__" s_Yard_eq
def d_Yard_str : He5.DefA := mkD (fun K => He.ma K (He.ga K "Yard") "__str__") "__str__" "Yard.__str__" s_Yard_str
def d_Yard_rows : He5.DefA := mkD (fun K => He.ma K (He.ga K "Yard") "rows") "rows" "Yard.rows" s_Yard_rows
def d__are_rows : He5.DefA := mkD (fun K => He.ga K "_are_rows") "_are_rows" "_are_rows" s__are_rows
def d__is_price_row : He5.DefA := mkD (fun K => He.ga K "_is_price_row") "_is_price_row" "_is_price_row" s__is_price_row
def d__is_yard_text : He5.DefA := mkD (fun K => He.ga K "_is_yard_text") "_is_yard_text" "_is_yard_text" s__is_yard_text
def d__is_line : He5.DefA := mkD (fun K => He.ga K "_is_line") "_is_line" "_is_line" s__is_line
def d__is_price_text : He5.DefA := mkD (fun K => He.ga K "_is_price_text") "_is_price_text" "_is_price_text" s__is_price_text
def d__price_text : He5.DefA := mkD (fun K => He.ga K "_price_text") "_price_text" "_price_text" s__price_text
def d__price_of : He5.DefA := mkD (fun K => He.ga K "_price_of") "_price_of" "_price_of" s__price_of
def d__law_cell : He5.DefA := mkD (fun K => He.ga K "_law_cell") "_law_cell" "_law_cell" s__law_cell
def d__law_bag : He5.DefA := mkD (fun K => He.ga K "_law_bag") "_law_bag" "_law_bag" s__law_bag
def d__law_take : He5.DefA := mkD (fun K => He.ga K "_law_take") "_law_take" "_law_take" s__law_take
def d__law_rows : He5.DefA := mkD (fun K => He.ga K "_law_rows") "_law_rows" "_law_rows" s__law_rows
def d__law_written : He5.DefA := mkD (fun K => He.ga K "_law_written") "_law_written" "_law_written" s__law_written
def d__law_numeral : He5.DefA := mkD (fun K => He.ga K "_law_numeral") "_law_numeral" "_law_numeral" s__law_numeral
def d__law_read : He5.DefA := mkD (fun K => He.ga K "_law_read") "_law_read" "_law_read" s__law_read
def d__law_bent : He5.DefA := mkD (fun K => He.ga K "_law_bent") "_law_bent" "_law_bent" s__law_bent
def d__law_caught : He5.DefA := mkD (fun K => He.ga K "_law_caught") "_law_caught" "_law_caught" s__law_caught
def d__law_right : He5.DefA := mkD (fun K => He.ga K "_law_right") "_law_right" "_law_right" s__law_right
def d_law : He5.DefA := mkD (fun K => He.ga K "law") "law" "law" s_law
def fn : List He5.DefA := [d_InvalidYard_init, d_InvalidText_init, d_is_price, d_is_integer, d_is_numeral, d_Yard_init, d_Yard_read, d_Yard_len, d_Yard_eq, d_Yard_str, d_Yard_rows, d__are_rows, d__is_price_row, d__is_yard_text, d__is_line, d__is_price_text, d__price_text, d__price_of, d__law_cell, d__law_bag, d__law_take, d__law_rows, d__law_written, d__law_numeral, d__law_read, d__law_bent, d__law_caught, d__law_right, d_law]
def fa : List He.Fa := [.glo "InvalidText", .glo "InvalidYard", .glo "WAYS", .glo "Yard", .glo "_are_rows", .glo "_is_line", .glo "_is_price_row", .glo "_is_price_text", .glo "_is_yard_text", .glo "_law_bag", .glo "_law_bent", .glo "_law_caught", .glo "_law_cell", .glo "_law_numeral", .glo "_law_read", .glo "_law_right", .glo "_law_rows", .glo "_law_take", .glo "_law_written", .glo "_price_of", .glo "_price_text", .glo "is_integer", .glo "is_numeral", .glo "is_price", .glo "law", .int "MOST_CRATES" 60, .str "_BAR" "-", .str "_DIGITS" "0123456789", .free "all", .free "bool", .free "int", .free "isinstance", .free "len", .free "list", .free "max", .free "min", .free "range", .free "repr", .free "str", .free "tuple", .mkr "Yard", .meth "Yard" "__init__", .meth "Yard" "__len__", .meth "Yard" "__eq__", .meth "Yard" "__str__", .meth "Yard" "rows"]
def ts : List He.Tab := []
def ex (K : PySem.W.Frag) : Bool := kfB K && sysB K && xFB "CratesError" excN K && crB K (He.ga K "Yard") && cmB K (He.ga K "Yard") "read" && excB K "InvalidText" "value" && excB K "InvalidYard" "value"
abbrev AlM : Type := (He.AlD × List (Option (List (Option (Str × Int))))) × Bool
def asM (g : Addr → Option Obj) (n : Nat) : List Addr := He5.asA g n ++ [sysModules]
def tabsM (ts : List He.Tab) (K : PySem.W.Frag) : List (Option (List (Option (Str × Int)))) := ts.map fun t => He.dicW K (t.1 K)
def keysM (ts : List He.Tab) (w : World) : List (Option (List (Option (Str × Int)))) := ts.map fun t => some (He.keysIn w.params t.2)
def obsM (n : Nat) (fa : List He.Fa) (fn : List He5.DefA) (ts : List He.Tab) (ex : PySem.W.Frag → Bool) (g : Addr → Option Obj) : AlM := ((He5.obsA fa fn (He.frG g (asM g n)), tabsM ts (He.frG g (asM g n))), ex (He.frG g (asM g n)))
def hookM (n : Nat) (fa : List He.Fa) (fn : List He5.DefA) (ts : List He.Tab) (ex : PySem.W.Frag → Bool) : PySem.W.Hook where
  α := AlM
  obs := fun s => obsM n fa fn ts ex s.heap.get?
  val := fun w => ((He5.valA fn, keysM ts w), true)
  says := fun w h => ∃ K : PySem.W.Frag, K.In h ∧ (He5.SaysA fa fn K ∧ tabsM ts K = keysM ts w) ∧ ex K = true
  of := fun _ _ e => ⟨_, He.frG_in, ⟨congrArg (fun z : AlM => z.1.1) e, congrArg (fun z : AlM => z.1.2) e⟩, congrArg (fun z : AlM => z.2) e⟩
  keeps := fun _ _ _ held kept => held.elim fun K z => ⟨K, z.1.keeps kept, z.2⟩
theorem obsM_eq {n : Nat} {fa : List He.Fa} {fn : List He5.DefA} {ts : List He.Tab} {ex : PySem.W.Frag → Bool} {g : Addr → Option Obj} {s : Shared} (h : ∀ a, g a = s.heap.get? a) : obsM n fa fn ts ex g = (hookM n fa fn ts ex).obs s := by
  obtain rfl : g = s.heap.get? := funext h
  rfl
theorem tabM {ts : List He.Tab} {w : World} {K : PySem.W.Frag} (c : tabsM ts K = keysM ts w) (i : Nat) {t : He.Tab} (h : ts[i]? = some t := by rfl) : ∃ es n, KDict K w (t.1 K) es n := by
  have e : (tabsM ts K)[i]? = (keysM ts w)[i]? := by rw [c]
  unfold tabsM keysM at e
  rw [List.getElem?_map, List.getElem?_map, h] at e
  exact He.dicW_ok (Option.some.inj e)
abbrev RowR : PySem.W.OpenRow := PySem.W.OpenLaw.row PySem.Challenge.rw_cratetowers_k04_texts_of_yards
abbrev hk : PySem.W.Hook := hookM 6 fa fn ts ex
def ob (s : PySem.W.SharedT) : AlM := obsM 6 fa fn ts ex (HandSHeadRun.getT s)
theorem ob_eq (s : PySem.W.SharedT) : ob s = hk.obs s.abs := obsM_eq (HandSHeadRun.getT_eq s)
def loose0 : List Str := [PySem.Str.ofString "_wall", PySem.Str.ofString "CratesError", PySem.Str.ofString "InvalidYard", PySem.Str.ofString "InvalidText", PySem.Str.ofString "InvalidWay", PySem.Str.ofString "InvalidCrate", PySem.Str.ofString "WAYS", PySem.Str.ofString "COLUMNS", PySem.Str.ofString "MOST_CRATES", PySem.Str.ofString "_DIGITS", PySem.Str.ofString "_BAR", PySem.Str.ofString "is_way", PySem.Str.ofString "is_price", PySem.Str.ofString "is_integer", PySem.Str.ofString "is_integer_within", PySem.Str.ofString "is_numeral", PySem.Str.ofString "check_way", PySem.Str.ofString "check_crate", PySem.Str.ofString "Yard", PySem.Str.ofString "_are_rows", PySem.Str.ofString "_is_price_row", PySem.Str.ofString "_is_yard_text", PySem.Str.ofString "_is_line", PySem.Str.ofString "_is_price_text", PySem.Str.ofString "_price_text", PySem.Str.ofString "_price_of", PySem.Str.ofString "_law_cell", PySem.Str.ofString "_law_bag", PySem.Str.ofString "_law_take", PySem.Str.ofString "_law_rows"]
def loose1 : List Str := [PySem.Str.ofString "_law_written", PySem.Str.ofString "_law_numeral", PySem.Str.ofString "_law_read", PySem.Str.ofString "_law_bent", PySem.Str.ofString "_law_caught", PySem.Str.ofString "_law_right"]
def loose : List Str := loose0 ++ loose1
abbrev n_Yard_len : List Str := ["self"]
theorem sc_Yard_len : FnScope n_Yard_len ["self"] (defScope s_Yard_len) := ⟨rfl, rfl, rfl, by decide +kernel, rfl, by decide +kernel, by decide +kernel⟩
abbrev n_is_numeral : List Str := ["word"]
theorem sc_is_numeral : FnScope n_is_numeral ["word"] (defScope s_is_numeral) := ⟨rfl, rfl, rfl, by decide +kernel, rfl, by decide +kernel, by decide +kernel⟩
abbrev n__is_price_text : List Str := ["word"]
theorem sc__is_price_text : FnScope n__is_price_text ["word"] (defScope s__is_price_text) := ⟨rfl, rfl, rfl, by decide +kernel, rfl, by decide +kernel, by decide +kernel⟩
abbrev n__is_line : List Str := ["line", "words", "word"]
theorem sc__is_line : FnScope n__is_line ["line"] (defScope s__is_line) := ⟨rfl, rfl, rfl, by decide +kernel, rfl, by decide +kernel, by decide +kernel⟩
abbrev n__is_yard_text : List Str := ["value", "lines", "line"]
theorem sc__is_yard_text : FnScope n__is_yard_text ["value"] (defScope s__is_yard_text) := ⟨rfl, rfl, rfl, by decide +kernel, rfl, by decide +kernel, by decide +kernel⟩
abbrev n__price_of : List Str := ["word"]
theorem sc__price_of : FnScope n__price_of ["word"] (defScope s__price_of) := ⟨rfl, rfl, rfl, by decide +kernel, rfl, by decide +kernel, by decide +kernel⟩
abbrev n_is_integer : List Str := ["value"]
theorem sc_is_integer : FnScope n_is_integer ["value"] (defScope s_is_integer) := ⟨rfl, rfl, rfl, by decide +kernel, rfl, by decide +kernel, by decide +kernel⟩
abbrev n_is_price : List Str := ["value"]
theorem sc_is_price : FnScope n_is_price ["value"] (defScope s_is_price) := ⟨rfl, rfl, rfl, by decide +kernel, rfl, by decide +kernel, by decide +kernel⟩
abbrev n__is_price_row : List Str := ["value", "price"]
theorem sc__is_price_row : FnScope n__is_price_row ["value"] (defScope s__is_price_row) := ⟨rfl, rfl, rfl, by decide +kernel, rfl, by decide +kernel, by decide +kernel⟩
abbrev n__are_rows : List Str := ["value", "row"]
theorem sc__are_rows : FnScope n__are_rows ["value"] (defScope s__are_rows) := ⟨rfl, rfl, rfl, by decide +kernel, rfl, by decide +kernel, by decide +kernel⟩
abbrev n_Yard_init : List Str := ["self", "rows", "row"]
theorem sc_Yard_init : FnScope n_Yard_init ["self", "rows"] (defScope s_Yard_init) := ⟨rfl, rfl, rfl, by decide +kernel, rfl, by decide +kernel, by decide +kernel⟩
abbrev n_Yard_read : List Str := ["cls", "text", "line", "word"]
theorem sc_Yard_read : FnScope n_Yard_read ["cls", "text"] (defScope s_Yard_read) := ⟨rfl, rfl, rfl, by decide +kernel, rfl, by decide +kernel, by decide +kernel⟩
abbrev n__law_bag : List Str := ["_law_cell_here"]
theorem sc__law_bag : FnScope n__law_bag ["_law_cell_here"] (defScope s__law_bag) := ⟨rfl, rfl, rfl, by decide +kernel, rfl, by decide +kernel, by decide +kernel⟩
abbrev n_Yard_rows : List Str := ["self", "row"]
theorem sc_Yard_rows : FnScope n_Yard_rows ["self"] (defScope s_Yard_rows) := ⟨rfl, rfl, rfl, by decide +kernel, rfl, by decide +kernel, by decide +kernel⟩
abbrev n__law_caught : List Str := ["_law_thing", "e"]
theorem sc__law_caught : FnScope n__law_caught ["_law_thing"] (defScope s__law_caught) := ⟨rfl, rfl, rfl, by decide +kernel, rfl, by decide +kernel, by decide +kernel⟩
abbrev n__law_cell : List Str := ["_law_script", "_law_k", "_law_spare"]
theorem sc__law_cell : FnScope n__law_cell ["_law_script", "_law_k"] (defScope s__law_cell) := ⟨rfl, rfl, rfl, by decide +kernel, rfl, by decide +kernel, by decide +kernel⟩
abbrev n_Yard_eq : List Str := ["self", "other"]
theorem sc_Yard_eq : FnScope n_Yard_eq ["self", "other"] (defScope s_Yard_eq) := ⟨rfl, rfl, rfl, by decide +kernel, rfl, by decide +kernel, by decide +kernel⟩
abbrev n__price_text : List Str := ["price"]
theorem sc__price_text : FnScope n__price_text ["price"] (defScope s__price_text) := ⟨rfl, rfl, rfl, by decide +kernel, rfl, by decide +kernel, by decide +kernel⟩
abbrev n_Yard_str : List Str := ["self", "row", "price"]
theorem sc_Yard_str : FnScope n_Yard_str ["self"] (defScope s_Yard_str) := ⟨rfl, rfl, rfl, by decide +kernel, rfl, by decide +kernel, by decide +kernel⟩
abbrev n__law_take : List Str := ["_law_bag_here", "_law_limit", "_law_digit", "_law_mixed"]
theorem sc__law_take : FnScope n__law_take ["_law_bag_here", "_law_limit"] (defScope s__law_take) := ⟨rfl, rfl, rfl, by decide +kernel, rfl, by decide +kernel, by decide +kernel⟩
abbrev n__law_bent : List Str := ["_law_bag_here", "_law_text", "_law_at", "_law_sign", "_law_way", "_law_lines", "_law_spot"]
theorem sc__law_bent : FnScope n__law_bent ["_law_bag_here", "_law_text"] (defScope s__law_bent) := ⟨rfl, rfl, rfl, by decide +kernel, rfl, by decide +kernel, by decide +kernel⟩
abbrev n__law_numeral : List Str := ["_law_word", "_law_sign"]
theorem sc__law_numeral : FnScope n__law_numeral ["_law_word"] (defScope s__law_numeral) := ⟨rfl, rfl, rfl, by decide +kernel, rfl, by decide +kernel, by decide +kernel⟩
abbrev n__law_read : List Str := ["_law_text", "_law_found", "_law_line", "_law_words", "_law_wrong", "_law_word"]
theorem sc__law_read : FnScope n__law_read ["_law_text"] (defScope s__law_read) := ⟨rfl, rfl, rfl, by decide +kernel, rfl, by decide +kernel, by decide +kernel⟩
abbrev n__law_rows : List Str := ["_law_bag_here", "_law_most", "_law_kind", "_law_bars", "_law_found", "_law_crate", "_law_line", "_law_way", "_law_price"]
theorem sc__law_rows : FnScope n__law_rows ["_law_bag_here", "_law_most"] (defScope s__law_rows) := ⟨rfl, rfl, rfl, by decide +kernel, rfl, by decide +kernel, by decide +kernel⟩
abbrev n__law_written : List Str := ["_law_rows_here", "_law_line", "_law_price"]
theorem sc__law_written : FnScope n__law_written ["_law_rows_here"] (defScope s__law_written) := ⟨rfl, rfl, rfl, by decide +kernel, rfl, by decide +kernel, by decide +kernel⟩
abbrev n__law_right : List Str := ["_law_bag_here", "_law_rows_here", "_law_text", "_law_lap", "_law_near", "_law_due", "_law_odd"]
theorem sc__law_right : FnScope n__law_right ["_law_bag_here"] (defScope s__law_right) := ⟨rfl, rfl, rfl, by decide +kernel, rfl, by decide +kernel, by decide +kernel⟩
abbrev n_law : List Str := ["_law_script", "_law_k", "_law_wide", "_law_bad", "_law_text"]
theorem sc_law : FnScope n_law ["_law_script"] (defScope s_law) := ⟨rfl, rfl, rfl, by decide +kernel, rfl, by decide +kernel, by decide +kernel⟩
structure Ct (K : PySem.W.Frag) (w : World) (mg : Str → Option Value) : Prop where
  says : He5.SaysA fa fn K
  F : KF K
  ks : KS K
  xf : XF K "CratesError" excN
  cr_Yard_read : crB K (He.ga K "Yard") = true
  cm_Yard_read : cmB K (He.ga K "Yard") "read" = true
  g_InvalidText : mg "InvalidText" = some (.ref (He.ga K "InvalidText"))
  g_InvalidYard : mg "InvalidYard" = some (.ref (He.ga K "InvalidYard"))
  g_WAYS : mg "WAYS" = some (.ref (He.ga K "WAYS"))
  g_Yard : mg "Yard" = some (.ref (He.ga K "Yard"))
  g__are_rows : mg "_are_rows" = some (.ref (He.ga K "_are_rows"))
  g__is_line : mg "_is_line" = some (.ref (He.ga K "_is_line"))
  g__is_price_row : mg "_is_price_row" = some (.ref (He.ga K "_is_price_row"))
  g__is_price_text : mg "_is_price_text" = some (.ref (He.ga K "_is_price_text"))
  g__is_yard_text : mg "_is_yard_text" = some (.ref (He.ga K "_is_yard_text"))
  g__law_bag : mg "_law_bag" = some (.ref (He.ga K "_law_bag"))
  g__law_bent : mg "_law_bent" = some (.ref (He.ga K "_law_bent"))
  g__law_caught : mg "_law_caught" = some (.ref (He.ga K "_law_caught"))
  g__law_cell : mg "_law_cell" = some (.ref (He.ga K "_law_cell"))
  g__law_numeral : mg "_law_numeral" = some (.ref (He.ga K "_law_numeral"))
  g__law_read : mg "_law_read" = some (.ref (He.ga K "_law_read"))
  g__law_right : mg "_law_right" = some (.ref (He.ga K "_law_right"))
  g__law_rows : mg "_law_rows" = some (.ref (He.ga K "_law_rows"))
  g__law_take : mg "_law_take" = some (.ref (He.ga K "_law_take"))
  g__law_written : mg "_law_written" = some (.ref (He.ga K "_law_written"))
  g__price_of : mg "_price_of" = some (.ref (He.ga K "_price_of"))
  g__price_text : mg "_price_text" = some (.ref (He.ga K "_price_text"))
  g_is_integer : mg "is_integer" = some (.ref (He.ga K "is_integer"))
  g_is_numeral : mg "is_numeral" = some (.ref (He.ga K "is_numeral"))
  g_is_price : mg "is_price" = some (.ref (He.ga K "is_price"))
  g_law : mg "law" = some (.ref (He.ga K "law"))
  int_MOST_CRATES : ∃ t, mg "MOST_CRATES" = some (.int 60 t)
  str__BAR : ∃ t, mg "_BAR" = some (.str "-" t)
  str__DIGITS : ∃ t, mg "_DIGITS" = some (.str "0123456789" t)
  n_all : mg "all" = none
  n_bool : mg "bool" = none
  n_int : mg "int" = none
  n_isinstance : mg "isinstance" = none
  n_len : mg "len" = none
  n_list : mg "list" = none
  n_max : mg "max" = none
  n_min : mg "min" = none
  n_range : mg "range" = none
  n_repr : mg "repr" = none
  n_str : mg "str" = none
  n_tuple : mg "tuple" = none
  mk_Yard : Mk K (He.ga K "Yard") (He.ma K (He.ga K "Yard") "__init__")
  m_Yard_init : Meth K (He.ga K "Yard") "__init__" (He.ma K (He.ga K "Yard") "__init__")
  m_Yard_len : Meth K (He.ga K "Yard") "__len__" (He.ma K (He.ga K "Yard") "__len__")
  m_Yard_eq : Meth K (He.ga K "Yard") "__eq__" (He.ma K (He.ga K "Yard") "__eq__")
  m_Yard_str : Meth K (He.ga K "Yard") "__str__" (He.ma K (He.ga K "Yard") "__str__")
  m_Yard_rows : Meth K (He.ga K "Yard") "rows" (He.ma K (He.ga K "Yard") "rows")
  x_InvalidText : ExcT K "InvalidText" "value"
  x_InvalidYard : ExcT K "InvalidYard" "value"
theorem ct_of {w : World} {K : PySem.W.Frag} {h : Heap} {mg : Str → Option Value} (X : K.In h) (G : h.Ns mainGlobals mg) (cc : He5.SaysA fa fn K ∧ tabsM ts K = keysM ts w) (e : ex K = true) : Ct K w mg := by
  have c := cc.1
  unfold ex at e
  simp only [Bool.and_eq_true, and_assoc] at e
  obtain ⟨e0, e_sys, e_xf, e_crYard_read, e_cmYard_read, e_InvalidText, e_InvalidYard⟩ := e
  exact ⟨c, kfB_ok e0, kS_ok e_sys, xF_ok e_xf, e_crYard_read, e_cmYard_read, He.glo_ok X G (c.fact 0 (f := .glo "InvalidText") rfl), He.glo_ok X G (c.fact 1 (f := .glo "InvalidYard") rfl), He.glo_ok X G (c.fact 2 (f := .glo "WAYS") rfl), He.glo_ok X G (c.fact 3 (f := .glo "Yard") rfl), He.glo_ok X G (c.fact 4 (f := .glo "_are_rows") rfl), He.glo_ok X G (c.fact 5 (f := .glo "_is_line") rfl), He.glo_ok X G (c.fact 6 (f := .glo "_is_price_row") rfl), He.glo_ok X G (c.fact 7 (f := .glo "_is_price_text") rfl), He.glo_ok X G (c.fact 8 (f := .glo "_is_yard_text") rfl), He.glo_ok X G (c.fact 9 (f := .glo "_law_bag") rfl), He.glo_ok X G (c.fact 10 (f := .glo "_law_bent") rfl), He.glo_ok X G (c.fact 11 (f := .glo "_law_caught") rfl), He.glo_ok X G (c.fact 12 (f := .glo "_law_cell") rfl), He.glo_ok X G (c.fact 13 (f := .glo "_law_numeral") rfl), He.glo_ok X G (c.fact 14 (f := .glo "_law_read") rfl), He.glo_ok X G (c.fact 15 (f := .glo "_law_right") rfl), He.glo_ok X G (c.fact 16 (f := .glo "_law_rows") rfl), He.glo_ok X G (c.fact 17 (f := .glo "_law_take") rfl), He.glo_ok X G (c.fact 18 (f := .glo "_law_written") rfl), He.glo_ok X G (c.fact 19 (f := .glo "_price_of") rfl), He.glo_ok X G (c.fact 20 (f := .glo "_price_text") rfl), He.glo_ok X G (c.fact 21 (f := .glo "is_integer") rfl), He.glo_ok X G (c.fact 22 (f := .glo "is_numeral") rfl), He.glo_ok X G (c.fact 23 (f := .glo "is_price") rfl), He.glo_ok X G (c.fact 24 (f := .glo "law") rfl), He.int_ok X G (c.fact 25 (f := .int "MOST_CRATES" 60) rfl), He.str_ok X G (c.fact 26 (f := .str "_BAR" "-") rfl), He.str_ok X G (c.fact 27 (f := .str "_DIGITS" "0123456789") rfl), He.free_ok X G (c.fact 28 (f := .free "all") rfl), He.free_ok X G (c.fact 29 (f := .free "bool") rfl), He.free_ok X G (c.fact 30 (f := .free "int") rfl), He.free_ok X G (c.fact 31 (f := .free "isinstance") rfl), He.free_ok X G (c.fact 32 (f := .free "len") rfl), He.free_ok X G (c.fact 33 (f := .free "list") rfl), He.free_ok X G (c.fact 34 (f := .free "max") rfl), He.free_ok X G (c.fact 35 (f := .free "min") rfl), He.free_ok X G (c.fact 36 (f := .free "range") rfl), He.free_ok X G (c.fact 37 (f := .free "repr") rfl), He.free_ok X G (c.fact 38 (f := .free "str") rfl), He.free_ok X G (c.fact 39 (f := .free "tuple") rfl), He.mkr_ok (c.fact 40 (f := .mkr "Yard") rfl), He.meth_ok (c.fact 41 (f := .meth "Yard" "__init__") rfl), He.meth_ok (c.fact 42 (f := .meth "Yard" "__len__") rfl), He.meth_ok (c.fact 43 (f := .meth "Yard" "__eq__") rfl), He.meth_ok (c.fact 44 (f := .meth "Yard" "__str__") rfl), He.meth_ok (c.fact 45 (f := .meth "Yard" "rows") rfl), excB_ok e_InvalidText, excB_ok e_InvalidYard⟩
section
variable {P : Program} {w : World} {K : PySem.W.Frag} {mg : Str → Option Value} {base : Heap}
theorem sc_InvalidText_init : FnScope ["self", "value"] ["self", "value"] (defScope s_InvalidText_init) := ⟨rfl, rfl, rfl, by decide +kernel, rfl, by decide +kernel, by decide +kernel⟩
theorem okx_InvalidText (C : Ct K w mg) : GoodX P w K mg base "InvalidText" "value" := by
  obtain ⟨fd, F⟩ := C.says.def_ 1 (d := d_InvalidText_init) rfl
  exact ⟨⟨fd, F.ok sc_InvalidText_init (fun vs H Q E h => spExcI_len vs H Q E h) (fun cdv A outer s H vs Q E hr h => ⟨_, pss_one (ps_ost (pv 0) (pv 1)), read_excI C.x_InvalidText h⟩), F.bindsN fun _ _ _ _ _ _ us hl => match us, hl with | [_, _], _ => rfl⟩, C.x_InvalidText, C.g_InvalidText⟩
theorem sc_InvalidYard_init : FnScope ["self", "value"] ["self", "value"] (defScope s_InvalidYard_init) := ⟨rfl, rfl, rfl, by decide +kernel, rfl, by decide +kernel, by decide +kernel⟩
theorem okx_InvalidYard (C : Ct K w mg) : GoodX P w K mg base "InvalidYard" "value" := by
  obtain ⟨fd, F⟩ := C.says.def_ 0 (d := d_InvalidYard_init) rfl
  exact ⟨⟨fd, F.ok sc_InvalidYard_init (fun vs H Q E h => spExcI_len vs H Q E h) (fun cdv A outer s H vs Q E hr h => ⟨_, pss_one (ps_ost (pv 0) (pv 1)), read_excI C.x_InvalidYard h⟩), F.bindsN fun _ _ _ _ _ _ us hl => match us, hl with | [_, _], _ => rfl⟩, C.x_InvalidYard, C.g_InvalidYard⟩
theorem ok_Yard_len (C : Ct K w mg) : GoodM P w K mg base 1 "Yard" "__len__" ["self"] (sp_Yard_len K) := by
  obtain ⟨fd, F⟩ := C.says.def_ 7 (d := d_Yard_len) rfl
  exact ⟨⟨fd, F.ok (k := 0) sc_Yard_len (fun vs H Q E h => sp1_len vs H Q E h) (fun cdv A outer s H vs Q E hr h => ⟨t_Yard_len K E, (have hu := hr.units; (pss_one (ps_ret (pe_callB call_uLen (by rfl) C.n_len boot_len (pa_cons (pe_fld (pv 0) rfl) pa_nil))))), read_Yard_len C.F h⟩), F.bindsN fun _ _ _ _ _ _ us hl => match us, hl with | [_], _ => rfl⟩, C.m_Yard_len, C.F.cl⟩
theorem ok_is_numeral (C : Ct K w mg) : GoodO P w K mg base 1 "is_numeral" ["word"] (sp_is_numeral K) := by
  obtain ⟨fd, F⟩ := C.says.def_ 4 (d := d_is_numeral) rfl
  exact ⟨⟨fd, F.ok (k := 0) sc_is_numeral (fun vs H Q E h => sp1_len vs H Q E h) (fun cdv A outer s H vs Q E hr h => ⟨t_is_numeral K E, (have hu := hr.units; (pss_one (ps_ret (pe_and (pe_cmpR (op_uNe hu) (pv 0) pe_str (by rfl)) (pe_and (pe_cmpR (op_uEq hu) (pe_bm PySem.F.plainAttrs_str PySem.F.slot_str_strip PySem.F.type_str_strip mt_stripU (pv 0) (pa_cons (pe_str_of (by rfl) (C.str__DIGITS)) pa_nil)) pe_str (by rfl)) (pe_one (pe_or (pe_cmpR (op_uNe hu) (pe_ix ix_u (pv 0) pe_int (fun _ _ => rfl)) pe_str (by rfl)) (pe_one (pe_cmpR (op_uEq hu) (pv 0) pe_str (by rfl)))))))))), read_is_numeral C.F h⟩), F.bindsN fun _ _ _ _ _ _ us hl => match us, hl with | [_], _ => rfl⟩, C.g_is_numeral, F.kp⟩
theorem ok__is_price_text (C : Ct K w mg) : GoodO P w K mg base 2 "_is_price_text" ["word"] (sp__is_price_text K) := by
  obtain ⟨fd, F⟩ := C.says.def_ 15 (d := d__is_price_text) rfl
  exact ⟨⟨fd, F.ok (k := 1) sc__is_price_text (fun vs H Q E h => sp1_len vs H Q E h) (fun cdv A outer s H vs Q E hr h => ⟨t__is_price_text K E, (have hu := hr.units; (pss_one (ps_ret (pe_or (pe_cmpR (op_uEq hu) (pv 0) (pe_str_of (by rfl) (C.str__BAR)) (by rfl)) (pe_one (pe_and (pe_fo (ok_is_numeral C) (hr.mono (by decide)) (by rfl) (passes_call (takes_of rfl rfl rfl rfl) fun _ _ _ _ h => h) (ha := (pa_cons (pv 0) pa_nil))) (pe_one (pe_cmpR (op_uNe hu) (pv 0) pe_str (by rfl))))))))), read__is_price_text C.F h⟩), F.bindsN fun _ _ _ _ _ _ us hl => match us, hl with | [_], _ => rfl⟩, C.g__is_price_text, F.kp⟩
theorem ok__is_line (C : Ct K w mg) : GoodO P w K mg base 3 "_is_line" ["line"] (sp__is_line K) := by
  obtain ⟨fd, F⟩ := C.says.def_ 14 (d := d__is_line) rfl
  exact ⟨⟨fd, F.ok (k := 2) sc__is_line (fun vs H Q E h => sp1_len vs H Q E h) (fun cdv A outer s H vs Q E hr h => ⟨t__is_line K E, (have hu := hr.units; (pss_cons (ps_set (i := 1) sc__is_line.nd rfl (Or.inl rfl) (pe_bm PySem.F.plainAttrs_str PySem.F.slot_str_split PySem.F.type_str_split mt_splitU (pv 0) (pa_cons pe_str pa_nil))) (pss_one (ps_ret (pe_and (pe_cmpR (op_uEq hu) (pe_callB call_uLen (by rfl) C.n_len boot_len (pa_cons (pv 1) pa_nil)) (pe_callB call_uLen (by rfl) C.n_len boot_len (pa_cons (pe_glob (by rfl) C.g_WAYS rfl) pa_nil)) (by rfl)) (pe_one (pe_callB (cr_all rfl) (by rfl) C.n_all (by decide +kernel) (pa_cons (pe_lc (own := [("word", 2)]) (g := (gName 2)) (tt := tYes) rfl sc__is_line.nd (pi_seq (pv 1)) (blkOk_by (N := n__is_line) (sc := defScope s__is_line) (by decide +kernel)) (fun _ _ _ _ _ => (pg_name (i := 2) sc__is_line.nd rfl (Or.inl rfl))) (fun _ _ _ _ _ => pts_nil) (fun _ _ _ _ _ => (pe_fo (ok__is_price_text C) (hr.mono (by decide)) (by rfl) passL (ha := (pa_cons (pv 2) pa_nil))))) pa_nil)))))))), read__is_line C.F h⟩), F.bindsN fun _ _ _ _ _ _ us hl => match us, hl with | [_], _ => rfl⟩, C.g__is_line, F.kp⟩
theorem ok__is_yard_text (C : Ct K w mg) : GoodO P w K mg base 4 "_is_yard_text" ["value"] (sp__is_yard_text K) := by
  obtain ⟨fd, F⟩ := C.says.def_ 13 (d := d__is_yard_text) rfl
  exact ⟨⟨fd, F.ok (k := 3) sc__is_yard_text (fun vs H Q E h => sp1_len vs H Q E h) (fun cdv A outer s H vs Q E hr h => ⟨t__is_yard_text K E, (have hu := hr.units; (pss_cons (ps_if (pt_not (pt_val (pe_callB call_uIsi (by rfl) C.n_isinstance (by decide +kernel) (pa_cons (pv 0) (pa_cons (pe_bltn (v := .ty "str") (by rfl) C.n_str (by decide +kernel) rfl) pa_nil))))) (pss_one (ps_ret pe_bl)) pss_nil) (pss_cons (ps_set (i := 1) sc__is_yard_text.nd rfl (Or.inl rfl) (pe_bm PySem.F.plainAttrs_str PySem.F.slot_str_split PySem.F.type_str_split mt_splitU (pv 0) (pa_cons pe_str pa_nil))) (pss_one (ps_ret (pe_and (pe_cmpR op_uLe (pe_callB call_uLen (by rfl) C.n_len boot_len (pa_cons (pv 1) pa_nil)) (pe_int_of (by rfl) (C.int_MOST_CRATES)) (by rfl)) (pe_one (pe_callB (cr_all rfl) (by rfl) C.n_all (by decide +kernel) (pa_cons (pe_lc (own := [("line", 2)]) (g := (gName 2)) (tt := tYes) rfl sc__is_yard_text.nd (pi_seq (pv 1)) (blkOk_by (N := n__is_yard_text) (sc := defScope s__is_yard_text) (by decide +kernel)) (fun _ _ _ _ _ => (pg_name (i := 2) sc__is_yard_text.nd rfl (Or.inl rfl))) (fun _ _ _ _ _ => pts_nil) (fun _ _ _ _ _ => (pe_fo (ok__is_line C) (hr.mono (by decide)) (by rfl) passL (ha := (pa_cons (pv 2) pa_nil))))) pa_nil))))))))), read__is_yard_text C.F h⟩), F.bindsN fun _ _ _ _ _ _ us hl => match us, hl with | [_], _ => rfl⟩, C.g__is_yard_text, F.kp⟩
theorem ok__price_of (C : Ct K w mg) : GoodO P w K mg base 1 "_price_of" ["word"] (sp__price_of K) := by
  obtain ⟨fd, F⟩ := C.says.def_ 17 (d := d__price_of) rfl
  exact ⟨⟨fd, F.ok (k := 0) sc__price_of (fun vs H Q E h => sp1_len vs H Q E h) (fun cdv A outer s H vs Q E hr h => ⟨t__price_of K E, (have hu := hr.units; (pss_one (ps_ret (pe_ifExp (pt_cmpR (op_uEq hu) (pv 0) (pe_str_of (by rfl) (C.str__BAR)) (by rfl)) pe_non (pe_callTy call_intS (by rfl) C.n_int (by decide +kernel) (pa_cons (pv 0) pa_nil)))))), read__price_of C.F h⟩), F.bindsN fun _ _ _ _ _ _ us hl => match us, hl with | [_], _ => rfl⟩, C.g__price_of, F.kp⟩
theorem ok_is_integer (C : Ct K w mg) : GoodO P w K mg base 1 "is_integer" ["value"] (sp_is_integer K) := by
  obtain ⟨fd, F⟩ := C.says.def_ 3 (d := d_is_integer) rfl
  exact ⟨⟨fd, F.ok (k := 0) sc_is_integer (fun vs H Q E h => sp1_len vs H Q E h) (fun cdv A outer s H vs Q E hr h => ⟨t_is_integer K E, (have hu := hr.units; (pss_one (ps_ret (pe_and (pe_callB call_uIsi (by rfl) C.n_isinstance (by decide +kernel) (pa_cons (pv 0) (pa_cons (pe_bltn (v := .ty "int") (by rfl) C.n_int (by decide +kernel) rfl) pa_nil))) (pe_one (pe_not (pe_callB call_uIsi (by rfl) C.n_isinstance (by decide +kernel) (pa_cons (pv 0) (pa_cons (pe_bltn (v := .ty "bool") (by rfl) C.n_bool (by decide +kernel) rfl) pa_nil))))))))), read_is_integer C.F h⟩), F.bindsN fun _ _ _ _ _ _ us hl => match us, hl with | [_], _ => rfl⟩, C.g_is_integer, F.kp⟩
theorem ok_is_price (C : Ct K w mg) : GoodO P w K mg base 2 "is_price" ["value"] (sp_is_price K) := by
  obtain ⟨fd, F⟩ := C.says.def_ 2 (d := d_is_price) rfl
  exact ⟨⟨fd, F.ok (k := 1) sc_is_price (fun vs H Q E h => sp1_len vs H Q E h) (fun cdv A outer s H vs Q E hr h => ⟨t_is_price K E, (have hu := hr.units; (pss_one (ps_ret (pe_and (pe_fo (ok_is_integer C) (hr.mono (by decide)) (by rfl) (passes_call (takes_of rfl rfl rfl rfl) fun _ _ _ _ h => h) (ha := (pa_cons (pv 0) pa_nil))) (pe_one (pe_cmpR op_uGt (pv 0) pe_int (by rfl))))))), read_is_price C.F h⟩), F.bindsN fun _ _ _ _ _ _ us hl => match us, hl with | [_], _ => rfl⟩, C.g_is_price, F.kp⟩
theorem ok__is_price_row (C : Ct K w mg) : GoodO P w K mg base 3 "_is_price_row" ["value"] (sp__is_price_row K) := by
  obtain ⟨fd, F⟩ := C.says.def_ 12 (d := d__is_price_row) rfl
  exact ⟨⟨fd, F.ok (k := 2) sc__is_price_row (fun vs H Q E h => sp1_len vs H Q E h) (fun cdv A outer s H vs Q E hr h => ⟨t__is_price_row K E, (have hu := hr.units; (pss_one (ps_ret (pe_and (pe_callB call_uIsi (by rfl) C.n_isinstance (by decide +kernel) (pa_cons (pv 0) (pa_cons (pe_tup (pa_cons (pe_bltn (v := .ty "list") (by rfl) C.n_list (by decide +kernel) rfl) (pa_cons (pe_bltn (v := .ty "tuple") (by rfl) C.n_tuple (by decide +kernel) rfl) pa_nil))) pa_nil))) (pe_and (pe_cmpR (op_uEq hu) (pe_callB call_uLen (by rfl) C.n_len boot_len (pa_cons (pv 0) pa_nil)) (pe_callB call_uLen (by rfl) C.n_len boot_len (pa_cons (pe_glob (by rfl) C.g_WAYS rfl) pa_nil)) (by rfl)) (pe_one (pe_callB (cr_all rfl) (by rfl) C.n_all (by decide +kernel) (pa_cons (pe_lc (own := [("price", 1)]) (g := (gName 1)) (tt := tYes) rfl sc__is_price_row.nd (pi_seq (pv 0)) (blkOk_by (N := n__is_price_row) (sc := defScope s__is_price_row) (by decide +kernel)) (fun _ _ _ _ _ => (pg_name (i := 1) sc__is_price_row.nd rfl (Or.inl rfl))) (fun _ _ _ _ _ => pts_nil) (fun _ _ _ _ _ => (pe_or (pe_cmpR op_uIs (pv 1) pe_non (by rfl)) (pe_one (pe_fo (ok_is_price C) (hr.mono (by decide)) (by rfl) passL (ha := (pa_cons (pv 1) pa_nil))))))) pa_nil)))))))), read__is_price_row C.F h⟩), F.bindsN fun _ _ _ _ _ _ us hl => match us, hl with | [_], _ => rfl⟩, C.g__is_price_row, F.kp⟩
theorem ok__are_rows (C : Ct K w mg) : GoodO P w K mg base 4 "_are_rows" ["value"] (sp__are_rows K) := by
  obtain ⟨fd, F⟩ := C.says.def_ 11 (d := d__are_rows) rfl
  exact ⟨⟨fd, F.ok (k := 3) sc__are_rows (fun vs H Q E h => sp1_len vs H Q E h) (fun cdv A outer s H vs Q E hr h => ⟨t__are_rows K E, (have hu := hr.units; (pss_one (ps_ret (pe_and (pe_callB call_uIsi (by rfl) C.n_isinstance (by decide +kernel) (pa_cons (pv 0) (pa_cons (pe_tup (pa_cons (pe_bltn (v := .ty "list") (by rfl) C.n_list (by decide +kernel) rfl) (pa_cons (pe_bltn (v := .ty "tuple") (by rfl) C.n_tuple (by decide +kernel) rfl) pa_nil))) pa_nil))) (pe_and (pe_chain op_uLe op_uLe pe_int (pe_callB call_uLen (by rfl) C.n_len boot_len (pa_cons (pv 0) pa_nil)) (pe_int_of (by rfl) (C.int_MOST_CRATES))) (pe_one (pe_callB (cr_all rfl) (by rfl) C.n_all (by decide +kernel) (pa_cons (pe_lc (own := [("row", 1)]) (g := (gName 1)) (tt := tYes) rfl sc__are_rows.nd (pi_seq (pv 0)) (blkOk_by (N := n__are_rows) (sc := defScope s__are_rows) (by decide +kernel)) (fun _ _ _ _ _ => (pg_name (i := 1) sc__are_rows.nd rfl (Or.inl rfl))) (fun _ _ _ _ _ => pts_nil) (fun _ _ _ _ _ => (pe_fo (ok__is_price_row C) (hr.mono (by decide)) (by rfl) passL (ha := (pa_cons (pv 1) pa_nil))))) pa_nil)))))))), read__are_rows C.F h⟩), F.bindsN fun _ _ _ _ _ _ us hl => match us, hl with | [_], _ => rfl⟩, C.g__are_rows, F.kp⟩
theorem ok_Yard_init (C : Ct K w mg) : GoodM P w K mg base 5 "Yard" "__init__" ["self", "rows"] (sp_Yard_init K) := by
  obtain ⟨fd, F⟩ := C.says.def_ 5 (d := d_Yard_init) rfl
  exact ⟨⟨fd, F.ok (k := 4) sc_Yard_init (fun vs H Q E h => sp2_len vs H Q E h) (fun cdv A outer s H vs Q E hr h => ⟨t_Yard_init K E, (have hu := hr.units; (pss_cons (ps_if (pt_not (pt_val (pe_fo (ok__are_rows C) (hr.mono (by decide)) (by rfl) (passes_call (takes_of rfl rfl rfl rfl) fun _ _ _ _ h => h) (ha := (pa_cons (pv 1) pa_nil))))) (pss_one (ps_rse (okx_InvalidYard C) (hr.mono (by decide)) rfl (takes_of rfl rfl rfl rfl) (by rfl) (pa_cons (pv 1) pa_nil))) pss_nil) (pss_cons (ps_fld (pv 0) (pe_callTy (call_uTup rfl) (by rfl) C.n_tuple (by decide +kernel) (pa_cons (pe_lc (own := [("row", 2)]) (g := (gName 2)) (tt := tYes) rfl sc_Yard_init.nd (pi_seq (pv 1)) (blkOk_by (N := n_Yard_init) (sc := defScope s_Yard_init) (by decide +kernel)) (fun _ _ _ _ _ => (pg_name (i := 2) sc_Yard_init.nd rfl (Or.inl rfl))) (fun _ _ _ _ _ => pts_nil) (fun _ _ _ _ _ => (pe_callTy (call_uTup rfl) (by rfl) C.n_tuple (by decide +kernel) (pa_cons (pv 2) pa_nil)))) pa_nil)) rfl) (pss_one (ps_fld (pv 0) pe_non rfl))))), read_Yard_init C.F h⟩), F.bindsN fun _ _ _ _ _ _ us hl => match us, hl with | [_, _], _ => rfl⟩, C.m_Yard_init, C.F.cl⟩
theorem ok_Yard_read (C : Ct K w mg) : GoodC P w K mg base 7 "Yard" "read" ["cls", "text"] (sp_Yard_read K) := by
  obtain ⟨fd, F⟩ := C.says.def_ 6 (d := d_Yard_read) rfl
  exact ⟨⟨fd, F.ok (k := 6) sc_Yard_read (fun vs H Q E h => sp2_len vs H Q E h) (fun cdv A outer s H vs Q E hr h => ⟨t_Yard_read K E, (have hu := hr.units; (pss_cons (ps_if (pt_not (pt_val (pe_fo (ok__is_yard_text C) (hr.mono (by decide)) (by rfl) (passes_call (takes_of rfl rfl rfl rfl) fun _ _ _ _ h => h) (ha := (pa_cons (pv 1) pa_nil))))) (pss_one (ps_rse (okx_InvalidText C) (hr.mono (by decide)) rfl (takes_of rfl rfl rfl rfl) (by rfl) (pa_cons (pv 1) pa_nil))) pss_nil) (pss_one (ps_ret (pe_mkL (ok_Yard_init C) C.mk_Yard (hr.mono (by decide)) rfl (Or.inl rfl) C.mk_Yard.kp (passes_call (takes_of rfl rfl rfl rfl) fun _ _ _ _ h => h) (ha := (pa_cons (pe_lc (own := [("line", 2)]) (g := (gName 2)) (tt := tYes) rfl sc_Yard_read.nd (pi_seq (pe_bm PySem.F.plainAttrs_str PySem.F.slot_str_split PySem.F.type_str_split mt_splitU (pv 1) (pa_cons pe_str pa_nil))) (blkOk_by (N := n_Yard_read) (sc := defScope s_Yard_read) (by decide +kernel)) (fun _ _ _ _ _ => (pg_name (i := 2) sc_Yard_read.nd rfl (Or.inl rfl))) (fun _ _ _ _ _ => pts_nil) (fun _ _ _ _ _ => (pe_lc (own := [("word", 3)]) (g := (gName 3)) (tt := tYes) rfl sc_Yard_read.nd (pi_seq (pe_bm PySem.F.plainAttrs_str PySem.F.slot_str_split PySem.F.type_str_split mt_splitU (pv 2) (pa_cons pe_str pa_nil))) (blkOk_by (N := n_Yard_read) (sc := ({ kind := .function, names := [(".0", .local), ("line", .local)], isGenerator := false, isCoroutine := false } : Scope)) (by decide +kernel)) (fun _ _ _ _ _ => (pg_name (i := 3) sc_Yard_read.nd rfl (Or.inl rfl))) (fun _ _ _ _ _ => pts_nil) (fun _ _ _ _ _ => (pe_fo (ok__price_of C) (hr.mono (by decide)) (by rfl) passL (ha := (pa_cons (pv 3) pa_nil))))))) pa_nil))))))), read_Yard_read C.F h⟩), F.bindsN fun _ _ _ _ _ _ us hl => match us, hl with | [_, _], _ => rfl⟩, crB_ok C.cr_Yard_read, cmB_ok C.cm_Yard_read⟩
theorem ok__law_bag (C : Ct K w mg) : GoodO P w K mg base 1 "_law_bag" ["_law_cell_here"] (sp__law_bag K) := by
  obtain ⟨fd, F⟩ := C.says.def_ 19 (d := d__law_bag) rfl
  exact ⟨⟨fd, F.ok (k := 0) sc__law_bag (fun vs H Q E h => sp1_len vs H Q E h) (fun cdv A outer s H vs Q E hr h => ⟨t__law_bag K E, (have hu := hr.units; (pss_one (ps_ret (pe_lst (pa_cons (pe_callB (call_max2 rfl) (by rfl) C.n_max (by decide +kernel) (pa_cons pe_int (pa_cons (pe_op op_uSub (pv 0) (pe_op op_uPow pe_int pe_int)) pa_nil))) (pa_cons (pe_op op_uMod (pe_callTy call_int1 (by rfl) C.n_int (by decide +kernel) (pa_cons (pv 0) pa_nil)) pe_int) (pa_cons pe_int pa_nil))))))), read__law_bag C.F h⟩), F.bindsN fun _ _ _ _ _ _ us hl => match us, hl with | [_], _ => rfl⟩, C.g__law_bag, F.kp⟩
theorem ok_Yard_rows (C : Ct K w mg) : GoodM P w K mg base 1 "Yard" "rows" ["self"] (sp_Yard_rows K) := by
  obtain ⟨fd, F⟩ := C.says.def_ 10 (d := d_Yard_rows) rfl
  exact ⟨⟨fd, F.ok (k := 0) sc_Yard_rows (fun vs H Q E h => sp1_len vs H Q E h) (fun cdv A outer s H vs Q E hr h => ⟨t_Yard_rows K E, (have hu := hr.units; (pss_one (ps_ret (pe_lc (own := [("row", 1)]) (g := (gName 1)) (tt := tYes) rfl sc_Yard_rows.nd (pi_seq (pe_fld (pv 0) rfl)) (blkOk_by (N := n_Yard_rows) (sc := defScope s_Yard_rows) (by decide +kernel)) (fun _ _ _ _ _ => (pg_name (i := 1) sc_Yard_rows.nd rfl (Or.inl rfl))) (fun _ _ _ _ _ => pts_nil) (fun _ _ _ _ _ => (pe_callTy (call_uLst rfl) (by rfl) C.n_list (by decide +kernel) (pa_cons (pv 1) pa_nil))))))), read_Yard_rows C.F h⟩), F.bindsN fun _ _ _ _ _ _ us hl => match us, hl with | [_], _ => rfl⟩, C.m_Yard_rows, C.F.cl⟩
theorem ok__law_caught (C : Ct K w mg) : Good P w K mg base 8 "_law_caught" ["_law_thing"] (sp__law_caught K) := by
  obtain ⟨fd, F⟩ := C.says.def_ 26 (d := d__law_caught) rfl
  exact ⟨⟨fd, fnG_of (k := 7) F sc__law_caught (fun vs H Q E h => sp1_len vs H Q E h) (fun cdv A outer s H vs Q E hA hr h => ⟨t__law_caught K E, (have hu := hr.units; (pss_one (ps_tryT rfl rfl sc__law_caught.nd (takes_of rfl rfl rfl rfl) (fun W pn xe tk po => (pss_one (ps_ret (Exists.elim (ok_Yard_rows C).fn fun _ z => pe_meth0 (pe_cmS (ok_Yard_read C) (pe_glob (by rfl) C.g_Yard rfl) (hr.mono (by decide)) tk (ha := (pa_cons (pv 0) pa_nil))) (ok_Yard_rows (P := P) (base := base) C).cl (ok_Yard_rows (P := P) (base := base) C).mt z.1 (hr.mono (by decide)) z.2 .nil passL)))) (ClsOk.cons (te_name (c := .ref (He.ga K "InvalidText")) ⟨by rfl, by decide, .inl C.g_InvalidText⟩) ⟨rfl, rfl⟩ (fun a oe cls d pn hz hf => (pss_one (ps_ret (pe_lst (pa_cons pe_str (pa_cons (pe_callB (call_uReprQ hA hu C.ks) (by rfl) C.n_repr (by decide +kernel) (pa_cons (pe_xv hz hf (pv 1)) pa_nil)) pa_nil)))))) ClsOk.nil)))), read__law_caught C.F C.xf h⟩), F.bindsN fun _ _ _ _ _ _ us hl => match us, hl with | [_], _ => rfl⟩, C.g__law_caught, F.kp⟩
theorem ok__law_cell (C : Ct K w mg) : GoodO P w K mg base 1 "_law_cell" ["_law_script", "_law_k"] (sp__law_cell K) := by
  obtain ⟨fd, F⟩ := C.says.def_ 18 (d := d__law_cell) rfl
  exact ⟨⟨fd, F.ok (k := 0) sc__law_cell (fun vs H Q E h => sp2_len vs H Q E h) (fun cdv A outer s H vs Q E hr h => ⟨t__law_cell K E, (have hu := hr.units; (pss_cons (ps_set (i := 2) sc__law_cell.nd rfl (Or.inl rfl) (pe_op op_uAdd (pe_op op_uMul pe_int (pv 1)) pe_int)) (pss_one (ps_ret (pe_ifExp (pt_cmpR op_uLt (pv 1) (pe_callB call_uLen (by rfl) C.n_len boot_len (pa_cons (pv 0) pa_nil)) (by rfl)) (pe_ix ix_u (pv 0) (pv 1) (fun _ _ => rfl)) (pe_op op_uAdd (pv 2) (pe_ifExp (pt_cmpR op_uGt (pe_callB call_uLen (by rfl) C.n_len boot_len (pa_cons (pv 0) pa_nil)) pe_int (by rfl)) (pe_op op_uMod (pe_callTy call_int1 (by rfl) C.n_int (by decide +kernel) (pa_cons (pe_ix ix_u (pv 0) pe_int (fun _ _ => rfl)) pa_nil)) pe_int) pe_int))))))), read__law_cell C.F h⟩), F.bindsN fun _ _ _ _ _ _ us hl => match us, hl with | [_, _], _ => rfl⟩, C.g__law_cell, F.kp⟩
theorem ok_Yard_eq (C : Ct K w mg) : GoodM P w K mg base 1 "Yard" "__eq__" ["self", "other"] (sp_Yard_eq K) := by
  obtain ⟨fd, F⟩ := C.says.def_ 8 (d := d_Yard_eq) rfl
  exact ⟨⟨fd, F.ok (k := 0) sc_Yard_eq (fun vs H Q E h => sp2_len vs H Q E h) (fun cdv A outer s H vs Q E hr h => ⟨t_Yard_eq K E, (have hu := hr.units; (pss_one (ps_ret (pe_and (pe_callB call_uIsi (by rfl) C.n_isinstance (by decide +kernel) (pa_cons (pv 1) (pa_cons (pe_glob (by rfl) C.g_Yard rfl) pa_nil))) (pe_one (pe_cmpR (op_uEq hu) (pe_fld (pv 0) rfl) (pe_fld (pv 1) rfl) (by rfl))))))), read_Yard_eq C.F h⟩), F.bindsN fun _ _ _ _ _ _ us hl => match us, hl with | [_, _], _ => rfl⟩, C.m_Yard_eq, C.F.cl⟩
theorem ok__price_text (C : Ct K w mg) : GoodO P w K mg base 1 "_price_text" ["price"] (sp__price_text K) := by
  obtain ⟨fd, F⟩ := C.says.def_ 16 (d := d__price_text) rfl
  exact ⟨⟨fd, F.ok (k := 0) sc__price_text (fun vs H Q E h => sp1_len vs H Q E h) (fun cdv A outer s H vs Q E hr h => ⟨t__price_text K E, (have hu := hr.units; (pss_one (ps_ret (pe_ifExp (pt_cmpR op_uIs (pv 0) pe_non (by rfl)) (pe_str_of (by rfl) (C.str__BAR)) (pe_callTy call_str_int (by rfl) C.n_str (by decide +kernel) (pa_cons (pv 0) pa_nil)))))), read__price_text C.F h⟩), F.bindsN fun _ _ _ _ _ _ us hl => match us, hl with | [_], _ => rfl⟩, C.g__price_text, F.kp⟩
theorem ok_Yard_str (C : Ct K w mg) : GoodM P w K mg base 2 "Yard" "__str__" ["self"] (sp_Yard_str K) := by
  obtain ⟨fd, F⟩ := C.says.def_ 9 (d := d_Yard_str) rfl
  exact ⟨⟨fd, F.ok (k := 1) sc_Yard_str (fun vs H Q E h => sp1_len vs H Q E h) (fun cdv A outer s H vs Q E hr h => ⟨t_Yard_str K E, (have hu := hr.units; (pss_one (ps_ret (pe_joinU pe_str (pe_lc (own := [("row", 1)]) (g := (gName 1)) (tt := tYes) rfl sc_Yard_str.nd (pi_seq (pe_fld (pv 0) rfl)) (blkOk_by (N := n_Yard_str) (sc := defScope s_Yard_str) (by decide +kernel)) (fun _ _ _ _ _ => (pg_name (i := 1) sc_Yard_str.nd rfl (Or.inl rfl))) (fun _ _ _ _ _ => pts_nil) (fun _ _ _ _ _ => (pe_joinU pe_str (pe_lc (own := [("price", 2)]) (g := (gName 2)) (tt := tYes) rfl sc_Yard_str.nd (pi_seq (pv 1)) (blkOk_by (N := n_Yard_str) (sc := ({ kind := .function, names := [(".0", .local), ("row", .local)], isGenerator := false, isCoroutine := false } : Scope)) (by decide +kernel)) (fun _ _ _ _ _ => (pg_name (i := 2) sc_Yard_str.nd rfl (Or.inl rfl))) (fun _ _ _ _ _ => pts_nil) (fun _ _ _ _ _ => (pe_fo (ok__price_text C) (hr.mono (by decide)) (by rfl) passL (ha := (pa_cons (pv 2) pa_nil)))))))))))), read_Yard_str C.F h⟩), F.bindsN fun _ _ _ _ _ _ us hl => match us, hl with | [_], _ => rfl⟩, C.m_Yard_str, C.F.cl⟩
theorem ok__law_take (C : Ct K w mg) : GoodO P w K mg base 1 "_law_take" ["_law_bag_here", "_law_limit"] (sp__law_take K) := by
  obtain ⟨fd, F⟩ := C.says.def_ 20 (d := d__law_take) rfl
  exact ⟨⟨fd, F.ok (k := 0) sc__law_take (fun vs H Q E h => sp2_len vs H Q E h) (fun cdv A outer s H vs Q E hr h => ⟨t__law_take K E, (have hu := hr.units; (pss_cons (ps_if (pt_cmpR op_uGt (pe_ix ix_u (pv 0) pe_int (fun _ _ => rfl)) pe_int (by rfl)) (pss_cons (ps_set (i := 2) sc__law_take.nd rfl (Or.inl rfl) (pe_op op_uMod (pe_callTy call_int1 (by rfl) C.n_int (by decide +kernel) (pa_cons (pe_ix ix_u (pv 0) pe_int (fun _ _ => rfl)) pa_nil)) (pv 1))) (pss_cons (ps_asg (pe_op op_uDiv (pe_ix ix_u (pv 0) pe_int (fun _ _ => rfl)) (pv 1)) (pg_sub (pv 0) pe_int set_list)) (pss_one (ps_ret (pv 2))))) pss_nil) (pss_cons (ps_asg (pe_op op_uAdd (pe_ix ix_u (pv 0) pe_int (fun _ _ => rfl)) pe_int) (pg_sub (pv 0) pe_int set_list)) (pss_cons (ps_set (i := 3) sc__law_take.nd rfl (Or.inl rfl) (pe_op op_uMod (pe_op op_uPow (pe_callTy call_int1 (by rfl) C.n_int (by decide +kernel) (pa_cons (pe_op op_uAdd (pe_op op_uAdd (pe_ix ix_u (pv 0) pe_int (fun _ _ => rfl)) (pe_op op_uMul pe_int (pe_ix ix_u (pv 0) pe_int (fun _ _ => rfl)))) pe_int) pa_nil)) pe_int) pe_int)) (pss_cons (ps_set (i := 3) sc__law_take.nd rfl (Or.inl rfl) (pe_op op_uMod (pe_op op_uPow (pe_callTy call_int1 (by rfl) C.n_int (by decide +kernel) (pa_cons (pe_op op_uAdd (pv 3) (pe_op op_uMul pe_int (pe_ix ix_u (pv 0) pe_int (fun _ _ => rfl)))) pa_nil)) pe_int) pe_int)) (pss_one (ps_ret (pe_op op_uMod (pe_callTy call_int1 (by rfl) C.n_int (by decide +kernel) (pa_cons (pe_op op_uDiv (pv 3) pe_int) pa_nil)) (pv 1))))))))), read__law_take C.F h⟩), F.bindsN fun _ _ _ _ _ _ us hl => match us, hl with | [_, _], _ => rfl⟩, C.g__law_take, F.kp⟩
theorem ok__law_bent (C : Ct K w mg) : GoodO P w K mg base 2 "_law_bent" ["_law_bag_here", "_law_text"] (sp__law_bent K) := by
  obtain ⟨fd, F⟩ := C.says.def_ 25 (d := d__law_bent) rfl
  exact ⟨⟨fd, F.ok (k := 1) sc__law_bent (fun vs H Q E h => sp2_len vs H Q E h) (fun cdv A outer s H vs Q E hr h => ⟨t__law_bent K E, (have hu := hr.units; (pss_cons (ps_par (by rfl) sc__law_bent.nd rfl rfl (by decide) rfl rfl (pa_cons (pe_fo (ok__law_take C) (hr.mono (by decide)) (by rfl) (passes_call (takes_of rfl rfl rfl rfl) fun _ _ _ _ h => h) (ha := (pa_cons (pv 0) (pa_cons (pe_op op_uAdd (pe_callB call_uLen (by rfl) C.n_len boot_len (pa_cons (pv 1) pa_nil)) pe_int) pa_nil)))) (pa_cons (pe_ix ix_u pe_str (pe_fo (ok__law_take C) (hr.mono (by decide)) (by rfl) (passes_call (takes_of rfl rfl rfl rfl) fun _ _ _ _ h => h) (ha := (pa_cons (pv 0) (pa_cons pe_int pa_nil)))) (fun _ _ => rfl)) pa_nil)) (by rfl)) (pss_cons (ps_set (i := 4) sc__law_bent.nd rfl (Or.inl rfl) (pe_fo (ok__law_take C) (hr.mono (by decide)) (by rfl) (passes_call (takes_of rfl rfl rfl rfl) fun _ _ _ _ h => h) (ha := (pa_cons (pv 0) (pa_cons pe_int pa_nil))))) (pss_cons (ps_if (pt_cmpR (op_uEq hu) (pv 4) pe_int (by rfl)) (pss_one (ps_ret (pe_op op_uAdd (pe_op op_uAdd (pe_slice sl_u (pv 1) po_none (po_some (pv 2))) (pv 3)) (pe_slice sl_u (pv 1) (po_some (pv 2)) po_none)))) pss_nil) (pss_cons (ps_if (pt_cmpR (op_uEq hu) (pv 4) pe_int (by rfl)) (pss_one (ps_ret (pe_op op_uAdd (pe_slice sl_u (pv 1) po_none (po_some (pv 2))) (pe_slice sl_u (pv 1) (po_some (pe_op op_uAdd (pv 2) pe_int)) po_none)))) pss_nil) (pss_cons (ps_if (pt_cmpR (op_uEq hu) (pv 4) pe_int (by rfl)) (pss_one (ps_ret (pe_op op_uAdd (pe_op op_uAdd (pe_slice sl_u (pv 1) po_none (po_some (pv 2))) (pv 3)) (pe_slice sl_u (pv 1) (po_some (pe_op op_uAdd (pv 2) pe_int)) po_none)))) pss_nil) (pss_cons (ps_set (i := 5) sc__law_bent.nd rfl (Or.inl rfl) (pe_bm PySem.F.plainAttrs_str PySem.F.slot_str_split PySem.F.type_str_split mt_splitU (pv 1) (pa_cons pe_str pa_nil))) (pss_cons (ps_set (i := 6) sc__law_bent.nd rfl (Or.inl rfl) (pe_fo (ok__law_take C) (hr.mono (by decide)) (by rfl) (passes_call (takes_of rfl rfl rfl rfl) fun _ _ _ _ h => h) (ha := (pa_cons (pv 0) (pa_cons (pe_callB call_uLen (by rfl) C.n_len boot_len (pa_cons (pv 5) pa_nil)) pa_nil))))) (pss_cons (ps_if (pt_cmpR (op_uEq hu) (pv 4) pe_int (by rfl)) (pss_one (ps_ret (pe_joinU pe_str (pe_op op_uAdd (pe_slice sl_u (pv 5) po_none (po_some (pv 6))) (pe_slice sl_u (pv 5) (po_some (pe_op op_uAdd (pv 6) pe_int)) po_none))))) pss_nil) (pss_one (ps_ret (pe_joinU pe_str (pe_op op_uAdd (pe_op op_uAdd (pe_slice sl_u (pv 5) po_none (po_some (pv 6))) (pe_op op_uMul (pe_lst (pa_cons (pe_ix ix_u (pv 5) (pv 6) (fun _ _ => rfl)) pa_nil)) pe_int)) (pe_slice sl_u (pv 5) (po_some (pv 6)) po_none)))))))))))))), read__law_bent C.F h⟩), F.bindsN fun _ _ _ _ _ _ us hl => match us, hl with | [_, _], _ => rfl⟩, C.g__law_bent, F.kp⟩
theorem ok__law_numeral (C : Ct K w mg) : GoodO P w K mg base 1 "_law_numeral" ["_law_word"] (sp__law_numeral K) := by
  obtain ⟨fd, F⟩ := C.says.def_ 23 (d := d__law_numeral) rfl
  exact ⟨⟨fd, F.ok (k := 0) sc__law_numeral (fun vs H Q E h => sp1_len vs H Q E h) (fun cdv A outer s H vs Q E hr h => ⟨t__law_numeral K E, (have hu := hr.units; (pss_cons (ps_if (PW.pt (pw_or (pt_cmpR (op_uEq hu) (pv 0) pe_str (by rfl)) (pw_or (pt_cmpR (op_uNe hu) (pe_lc (own := [("_law_sign", 1)]) (g := (gName 1)) (tt := (tTest (tOp (uIn K true) (tVar 1) (tC (.str "0123456789"))))) rfl sc__law_numeral.nd (pi_str (pv 0)) (blkOk_by (N := n__law_numeral) (sc := defScope s__law_numeral) (by decide +kernel)) (fun _ _ _ _ _ => (pg_name (i := 1) sc__law_numeral.nd rfl (Or.inl rfl))) (fun _ _ _ _ _ => (pts_one (pt_cmpR op_uNin (pv 1) pe_str (by rfl)))) (fun _ _ _ _ _ => (pv 1))) (pe_lst pa_nil) (by rfl)) (pw_or1 (pt_cmpR (op_uEq hu) (pe_ix ix_u (pv 0) pe_int (fun _ _ => rfl)) pe_str (by rfl)))))) (pss_one (ps_ret pe_int)) pss_nil) (pss_one (ps_ret (pe_callTy call_intS (by rfl) C.n_int (by decide +kernel) (pa_cons (pv 0) pa_nil)))))), read__law_numeral C.F h⟩), F.bindsN fun _ _ _ _ _ _ us hl => match us, hl with | [_], _ => rfl⟩, C.g__law_numeral, F.kp⟩
theorem ok__law_read (C : Ct K w mg) : GoodO P w K mg base 2 "_law_read" ["_law_text"] (sp__law_read K) := by
  obtain ⟨fd, F⟩ := C.says.def_ 24 (d := d__law_read) rfl
  exact ⟨⟨fd, F.ok (k := 1) sc__law_read (fun vs H Q E h => sp1_len vs H Q E h) (fun cdv A outer s H vs Q E hr h => ⟨t__law_read K E, (have hu := hr.units; (pss_cons (ps_set (i := 1) sc__law_read.nd rfl (Or.inl rfl) (pe_lst pa_nil)) (pss_cons (ps_for (passes_of rfl) rfl (pi_seq (pe_bm PySem.F.plainAttrs_str PySem.F.slot_str_split PySem.F.type_str_split mt_splitU (pv 0) (pa_cons pe_str pa_nil))) (pg_name (i := 2) sc__law_read.nd rfl (Or.inl rfl)) (pss_cons (ps_set (i := 3) sc__law_read.nd rfl (Or.inl rfl) (pe_bm PySem.F.plainAttrs_str PySem.F.slot_str_split PySem.F.type_str_split mt_splitU (pv 2) (pa_cons pe_str pa_nil))) (pss_cons (ps_setLc (i := 4) (own := [("_law_word", 5)]) (g := (gName 5)) (tt := (tAnd (tTest (tOp (uNe K) (tVar 5) (tC (.str "-")))) (tTest (tOp (uEq K) (tFn (sp__law_numeral K) E0 (tCons (tVar 5) tNil)) (tC (.int 0)))))) rfl sc__law_read.nd rfl rfl (by exact sw_true rfl rfl rfl (by decide +kernel)) (pi_seq (pv 3)) (blkOk_by (N := n__law_read) (sc := defScope s__law_read) (by decide +kernel)) (fun _ _ _ _ _ => (pg_name (i := 5) sc__law_read.nd rfl (Or.inl rfl))) (fun _ _ _ _ _ => (pts_one (PW.pt (pw_and (pt_cmpR (op_uNe hu) (pv 5) pe_str (by rfl)) (pw_and1 (pt_cmpR (op_uEq hu) (pe_fo (ok__law_numeral C) (hr.mono (by decide)) (by rfl) passL (ha := (pa_cons (pv 5) pa_nil))) pe_int (by rfl))))))) (fun _ _ _ _ _ => (pv 5))) (pss_cons (ps_if (PW.pt (pw_or (pt_cmpR (op_uNe hu) (pe_callB call_uLen (by rfl) C.n_len boot_len (pa_cons (pv 3) pa_nil)) pe_int (by rfl)) (pw_or1 (pt_cmpR (op_uNe hu) (pv 4) (pe_lst pa_nil) (by rfl))))) (pss_one (ps_ret pe_non)) pss_nil) (pss_one (ps_expr (pe_bm PySem.F.plainAttrs_list PySem.F.slot_list_append PySem.F.type_list_append mt_append (pv 1) (pa_cons (pe_lc (own := [("_law_word", 5)]) (g := (gName 5)) (tt := tYes) rfl sc__law_read.nd (pi_seq (pv 3)) (blkOk_by (N := n__law_read) (sc := defScope s__law_read) (by decide +kernel)) (fun _ _ _ _ _ => (pg_name (i := 5) sc__law_read.nd rfl (Or.inl rfl))) (fun _ _ _ _ _ => pts_nil) (fun _ _ _ _ _ => (pe_ifExp (pt_cmpR (op_uEq hu) (pv 5) pe_str (by rfl)) pe_non (pe_fo (ok__law_numeral C) (hr.mono (by decide)) (by rfl) passL (ha := (pa_cons (pv 5) pa_nil)))))) pa_nil)))))))) (pss_one (ps_ret (pe_ifExp (pt_cmpR op_uLt (pe_callB call_uLen (by rfl) C.n_len boot_len (pa_cons (pv 1) pa_nil)) pe_int (by rfl)) (pv 1) pe_non)))))), read__law_read C.F h⟩), F.bindsN fun _ _ _ _ _ _ us hl => match us, hl with | [_], _ => rfl⟩, C.g__law_read, F.kp⟩
theorem ok__law_rows (C : Ct K w mg) : GoodO P w K mg base 2 "_law_rows" ["_law_bag_here", "_law_most"] (sp__law_rows K) := by
  obtain ⟨fd, F⟩ := C.says.def_ 21 (d := d__law_rows) rfl
  exact ⟨⟨fd, F.ok (k := 1) sc__law_rows (fun vs H Q E h => sp2_len vs H Q E h) (fun cdv A outer s H vs Q E hr h => ⟨t__law_rows K E, (have hu := hr.units; (pss_cons (ps_par (by rfl) sc__law_rows.nd rfl rfl (by decide) rfl rfl (pa_cons (pe_fo (ok__law_take C) (hr.mono (by decide)) (by rfl) (passes_call (takes_of rfl rfl rfl rfl) fun _ _ _ _ h => h) (ha := (pa_cons (pv 0) (pa_cons pe_int pa_nil)))) (pa_cons (pe_ix ix_u (pe_lst (pa_cons pe_int (pa_cons pe_int (pa_cons pe_int (pa_cons pe_int pa_nil))))) (pe_fo (ok__law_take C) (hr.mono (by decide)) (by rfl) (passes_call (takes_of rfl rfl rfl rfl) fun _ _ _ _ h => h) (ha := (pa_cons (pv 0) (pa_cons pe_int pa_nil)))) (fun _ _ => rfl)) pa_nil)) (by rfl)) (pss_cons (ps_set (i := 4) sc__law_rows.nd rfl (Or.inl rfl) (pe_lst pa_nil)) (pss_cons (ps_for (passes_of rfl) rfl (pi_range1 (by rfl) C.n_range (pa_cons (pe_op op_uAdd pe_int (pe_fo (ok__law_take C) (hr.mono (by decide)) (by rfl) (passes_call (takes_of rfl rfl rfl rfl) fun _ _ _ _ h => h) (ha := (pa_cons (pv 0) (pa_cons (pv 1) pa_nil))))) pa_nil)) (pg_name (i := 5) sc__law_rows.nd rfl (Or.inl rfl)) (pss_cons (ps_set (i := 6) sc__law_rows.nd rfl (Or.inl rfl) (pe_lst pa_nil)) (pss_cons (ps_for (passes_of rfl) rfl (pi_range1 (by rfl) C.n_range (pa_cons pe_int pa_nil)) (pg_name (i := 7) sc__law_rows.nd rfl (Or.inl rfl)) (pss_cons (ps_set (i := 8) sc__law_rows.nd rfl (Or.inl rfl) (pe_ix ix_u (pe_lst (pa_cons pe_int (pa_cons (pe_op op_uAdd pe_int (pe_fo (ok__law_take C) (hr.mono (by decide)) (by rfl) (passes_call (takes_of rfl rfl rfl rfl) fun _ _ _ _ h => h) (ha := (pa_cons (pv 0) (pa_cons pe_int pa_nil))))) (pa_cons (pe_op op_uAdd pe_int (pe_fo (ok__law_take C) (hr.mono (by decide)) (by rfl) (passes_call (takes_of rfl rfl rfl rfl) fun _ _ _ _ h => h) (ha := (pa_cons (pv 0) (pa_cons pe_int pa_nil))))) (pa_cons (pe_op op_uAdd pe_int (pe_fo (ok__law_take C) (hr.mono (by decide)) (by rfl) (passes_call (takes_of rfl rfl rfl rfl) fun _ _ _ _ h => h) (ha := (pa_cons (pv 0) (pa_cons (pe_op op_uPow pe_int pe_int) pa_nil))))) (pa_cons (pe_op op_uSub (pe_op op_uPow pe_int pe_int) (pe_fo (ok__law_take C) (hr.mono (by decide)) (by rfl) (passes_call (takes_of rfl rfl rfl rfl) fun _ _ _ _ h => h) (ha := (pa_cons (pv 0) (pa_cons pe_int pa_nil))))) pa_nil)))))) (pv 2) (fun _ _ => rfl))) (pss_one (ps_expr (pe_bm PySem.F.plainAttrs_list PySem.F.slot_list_append PySem.F.type_list_append mt_append (pv 6) (pa_cons (pe_ifExp (PW.pt (pw_and (pt_cmpR op_uGt (pv 3) pe_int (by rfl)) (pw_and1 (pt_cmpR (op_uEq hu) (pe_fo (ok__law_take C) (hr.mono (by decide)) (by rfl) (passes_call (takes_of rfl rfl rfl rfl) fun _ _ _ _ h => h) (ha := (pa_cons (pv 0) (pa_cons (pv 3) pa_nil)))) pe_int (by rfl))))) pe_non (pv 8)) pa_nil)))))) (pss_one (ps_expr (pe_bm PySem.F.plainAttrs_list PySem.F.slot_list_append PySem.F.type_list_append mt_append (pv 4) (pa_cons (pv 6) pa_nil))))))) (pss_one (ps_ret (pv 4))))))), read__law_rows C.F h⟩), F.bindsN fun _ _ _ _ _ _ us hl => match us, hl with | [_, _], _ => rfl⟩, C.g__law_rows, F.kp⟩
theorem ok__law_written (C : Ct K w mg) : GoodO P w K mg base 1 "_law_written" ["_law_rows_here"] (sp__law_written K) := by
  obtain ⟨fd, F⟩ := C.says.def_ 22 (d := d__law_written) rfl
  exact ⟨⟨fd, F.ok (k := 0) sc__law_written (fun vs H Q E h => sp1_len vs H Q E h) (fun cdv A outer s H vs Q E hr h => ⟨t__law_written K E, (have hu := hr.units; (pss_one (ps_ret (pe_joinU pe_str (pe_lc (own := [("_law_line", 1)]) (g := (gName 1)) (tt := tYes) rfl sc__law_written.nd (pi_seq (pv 0)) (blkOk_by (N := n__law_written) (sc := defScope s__law_written) (by decide +kernel)) (fun _ _ _ _ _ => (pg_name (i := 1) sc__law_written.nd rfl (Or.inl rfl))) (fun _ _ _ _ _ => pts_nil) (fun _ _ _ _ _ => (pe_joinU pe_str (pe_lc (own := [("_law_price", 2)]) (g := (gName 2)) (tt := tYes) rfl sc__law_written.nd (pi_seq (pv 1)) (blkOk_by (N := n__law_written) (sc := ({ kind := .function, names := [(".0", .local), ("_law_line", .local)], isGenerator := false, isCoroutine := false } : Scope)) (by decide +kernel)) (fun _ _ _ _ _ => (pg_name (i := 2) sc__law_written.nd rfl (Or.inl rfl))) (fun _ _ _ _ _ => pts_nil) (fun _ _ _ _ _ => (pe_ifExp (pt_cmpR op_uIs (pv 2) pe_non (by rfl)) pe_str (pe_callTy call_str_int (by rfl) C.n_str (by decide +kernel) (pa_cons (pv 2) pa_nil)))))))))))), read__law_written C.F h⟩), F.bindsN fun _ _ _ _ _ _ us hl => match us, hl with | [_], _ => rfl⟩, C.g__law_written, F.kp⟩
theorem ok__law_right (C : Ct K w mg) : Good P w K mg base 9 "_law_right" ["_law_bag_here"] (sp__law_right K) := by
  obtain ⟨fd, F⟩ := C.says.def_ 27 (d := d__law_right) rfl
  exact ⟨⟨fd, fnG_of (k := 8) F sc__law_right (fun vs H Q E h => sp1_len vs H Q E h) (fun cdv A outer s H vs Q E hA hr h => ⟨t__law_right K E, (have hu := hr.units; (pss_cons (ps_set (i := 1) sc__law_right.nd rfl (Or.inl rfl) (pe_fo (ok__law_rows C) (hr.mono (by decide)) (by rfl) (passes_call (takes_of rfl rfl rfl rfl) fun _ _ _ _ h => h) (ha := (pa_cons (pv 0) (pa_cons (pe_ix ix_u (pe_lst (pa_cons pe_int (pa_cons pe_int (pa_cons pe_int pa_nil)))) (pe_fo (ok__law_take C) (hr.mono (by decide)) (by rfl) (passes_call (takes_of rfl rfl rfl rfl) fun _ _ _ _ h => h) (ha := (pa_cons (pv 0) (pa_cons pe_int pa_nil)))) (fun _ _ => rfl)) pa_nil))))) (pss_cons (ps_set (i := 2) sc__law_right.nd rfl (Or.inl rfl) (pe_fo (ok__law_written C) (hr.mono (by decide)) (by rfl) (passes_call (takes_of rfl rfl rfl rfl) fun _ _ _ _ h => h) (ha := (pa_cons (pv 1) pa_nil)))) (pss_cons (ps_if (PW.pt (pw_or (pt_cmpR (op_uNe hu) (Exists.elim (ok_Yard_str C).fn fun _ z => pe_callTy (call_strO z.1 (ok_Yard_str (P := P) (base := base) C).mt.at_ (ok_Yard_str (P := P) (base := base) C).mt.fn z.2 (hr.mono (by decide)) (passes_call (takes_of rfl rfl rfl rfl) fun _ _ _ _ h => h)) (by rfl) C.n_str (by decide +kernel) (pa_cons (pe_mk (ok_Yard_init C) C.mk_Yard C.g_Yard (hr.mono (by decide)) (by rfl) (passes_call (takes_of rfl rfl rfl rfl) fun _ _ _ _ h => h) (ha := (pa_cons (pv 1) pa_nil))) pa_nil)) (pv 2) (by rfl)) (pw_or1 (pt_not (Exists.elim (ok_Yard_eq C).fn fun _ z => pt_cmpR (op_eqO z.1 (ok_Yard_eq (P := P) (base := base) C).mt.at_ (ok_Yard_eq (P := P) (base := base) C).mt.fn z.2 (hr.mono (by decide)) hr.units0 (passes_call (takes_of rfl rfl rfl rfl) fun _ _ _ _ h => h)) (pe_cm' (ok_Yard_read C) (pe_glob (by rfl) C.g_Yard rfl) (hr.mono (by decide)) (passes_call (takes_of rfl rfl rfl rfl) fun _ _ _ _ h => h) (ha := (pa_cons (pv 2) pa_nil))) (pe_mk (ok_Yard_init C) C.mk_Yard C.g_Yard (hr.mono (by decide)) (by rfl) (passes_call (takes_of rfl rfl rfl rfl) fun _ _ _ _ h => h) (ha := (pa_cons (pv 1) pa_nil))) (by rfl)))))) (pss_one (ps_ret pe_bl)) pss_nil) (pss_cons (ps_for (passes_of rfl) rfl (pi_range1 (by rfl) C.n_range (pa_cons pe_int pa_nil)) (pg_name (i := 3) sc__law_right.nd rfl (Or.inl rfl)) (pss_cons (ps_set (i := 4) sc__law_right.nd rfl (Or.inl rfl) (pe_fo (ok__law_bent C) (hr.mono (by decide)) (by rfl) (passes_call (takes_of rfl rfl rfl rfl) fun _ _ _ _ h => h) (ha := (pa_cons (pv 0) (pa_cons (pv 2) pa_nil))))) (pss_cons (ps_set (i := 5) sc__law_right.nd rfl (Or.inl rfl) (pe_fo (ok__law_read C) (hr.mono (by decide)) (by rfl) (passes_call (takes_of rfl rfl rfl rfl) fun _ _ _ _ h => h) (ha := (pa_cons (pv 4) pa_nil)))) (pss_one (ps_if (pt_cmpR (op_uNe hu) (pe_fn (ok__law_caught C) hA (hr.mono (by decide)) (by rfl) (passes_call (takes_of rfl rfl rfl rfl) fun _ _ _ _ h => h) (ha := (pa_cons (pv 4) pa_nil))) (pe_ifExp (pt_cmpR op_uIs (pv 5) pe_non (by rfl)) (pe_lst (pa_cons pe_str (pa_cons (pe_callB (call_uReprQ hA hu C.ks) (by rfl) C.n_repr (by decide +kernel) (pa_cons (pv 4) pa_nil)) pa_nil))) (pv 5)) (by rfl)) (pss_one (ps_ret pe_bl)) pss_nil))))) (pss_cons (ps_set (i := 6) sc__law_right.nd rfl (Or.inl rfl) (pe_ix ix_u (pe_lst (pa_cons pe_non (pa_cons pe_int (pa_cons (pe_lst (pa_cons (pv 2) pa_nil)) (pa_cons pe_dnewK (pa_cons pe_bl (pa_cons (Exists.elim (ok_Yard_rows C).fn fun _ z => pe_meth0 (pe_mk (ok_Yard_init C) C.mk_Yard C.g_Yard (hr.mono (by decide)) (by rfl) (passes_call (takes_of rfl rfl rfl rfl) fun _ _ _ _ h => h) (ha := (pa_cons (pv 1) pa_nil))) (ok_Yard_rows (P := P) (base := base) C).cl (ok_Yard_rows (P := P) (base := base) C).mt z.1 (hr.mono (by decide)) z.2 .nil (passes_call (takes_of rfl rfl rfl rfl) fun _ _ _ _ h => h)) pa_nil))))))) (pe_fo (ok__law_take C) (hr.mono (by decide)) (by rfl) (passes_call (takes_of rfl rfl rfl rfl) fun _ _ _ _ h => h) (ha := (pa_cons (pv 0) (pa_cons pe_int pa_nil)))) (fun _ _ => rfl))) (pss_one (ps_ret (pe_cmpR (op_uEq hu) (pe_fn (ok__law_caught C) hA (hr.mono (by decide)) (by rfl) (passes_call (takes_of rfl rfl rfl rfl) fun _ _ _ _ h => h) (ha := (pa_cons (pv 6) pa_nil))) (pe_lst (pa_cons pe_str (pa_cons (pe_callB (call_uReprQ hA hu C.ks) (by rfl) C.n_repr (by decide +kernel) (pa_cons (pv 6) pa_nil)) pa_nil))) (by rfl)))))))))), read__law_right C.F h⟩), F.bindsN fun _ _ _ _ _ _ us hl => match us, hl with | [_], _ => rfl⟩, C.g__law_right, F.kp⟩
theorem okF_law (C : Ct K w mg) {fd : FuncData} (F : FunD K d_law.name d_law.qual d_law.params d_law.body d_law.scope (d_law.dvs K) (d_law.kws K) (d_law.at_ K) fd) : FnG P w K mg base 10 (He.ga K "law") fd ["_law_script"] (sp_law0 K) :=
  fnG_of (k := 9) F sc_law (fun vs H Q E h => sp1_len vs H Q E h) (fun cdv A outer s H vs Q E hA hr h => ⟨t_law K E, (have hu := hr.units; (pss_cons (ps_for (passes_of rfl) rfl (pi_range1 (by rfl) C.n_range (pa_cons (pe_callB (call_max2 rfl) (by rfl) C.n_max (by decide +kernel) (pa_cons pe_int (pa_cons (pe_callB (call_min2 rfl) (by rfl) C.n_min (by decide +kernel) (pa_cons pe_int (pa_cons (pe_callB call_uLen (by rfl) C.n_len boot_len (pa_cons (pv 0) pa_nil)) pa_nil))) pa_nil))) pa_nil)) (pg_name (i := 1) sc_law.nd rfl (Or.inl rfl)) (pss_one (ps_if (pt_not (pt_val (pe_fn (ok__law_right C) hA (hr.mono (by decide)) (by rfl) (passes_call (takes_of rfl rfl rfl rfl) fun _ _ _ _ h => h) (ha := (pa_cons (pe_fo (ok__law_bag C) (hr.mono (by decide)) (by rfl) (passes_call (takes_of rfl rfl rfl rfl) fun _ _ _ _ h => h) (ha := (pa_cons (pe_fo (ok__law_cell C) (hr.mono (by decide)) (by rfl) (passes_call (takes_of rfl rfl rfl rfl) fun _ _ _ _ h => h) (ha := (pa_cons (pv 0) (pa_cons (pv 1) pa_nil)))) pa_nil))) pa_nil))))) (pss_one (ps_ret pe_bl)) pss_nil))) (pss_cons (ps_set (i := 2) sc_law.nd rfl (Or.inl rfl) (pe_joinU pe_str (pe_op op_uMul (pe_lst (pa_cons pe_str pa_nil)) pe_int))) (pss_cons (ps_set (i := 3) sc_law.nd rfl (Or.inl rfl) (pe_lst (pa_cons pe_str (pa_cons pe_str (pa_cons pe_str (pa_cons pe_str (pa_cons pe_str (pa_cons pe_str (pa_cons pe_str (pa_cons pe_str pa_nil)))))))))) (pss_cons (ps_set (i := 3) sc_law.nd rfl (Or.inl rfl) (pe_op op_uAdd (pv 3) (pe_lst (pa_cons pe_str (pa_cons pe_str (pa_cons (pv 2) pa_nil)))))) (pss_cons (ps_if (pt_cmpR (op_uNe hu) (pe_lc (own := [("_law_text", 4)]) (g := (gName 4)) (tt := (tTest (tOp (uNe K) (tFn (sp__law_caught K) E0 (tCons (tVar 4) tNil)) (tLst (tCons (tC (.str "text")) (tCons (tCB (uReprQ K) (tCons (tVar 4) tNil)) tNil)))))) rfl sc_law.nd (pi_seq (pv 3)) (blkOk_by (N := n_law) (sc := defScope s_law) (by decide +kernel)) (fun _ _ _ _ _ => (pg_name (i := 4) sc_law.nd rfl (Or.inl rfl))) (fun _ _ _ _ _ => (pts_one (pt_cmpR (op_uNe hu) (pe_fn (ok__law_caught C) hA (hr.mono (by decide)) (by rfl) passL (ha := (pa_cons (pv 4) pa_nil))) (pe_lst (pa_cons pe_str (pa_cons (pe_callB (call_uReprQ hA hu C.ks) (by rfl) C.n_repr (by decide +kernel) (pa_cons (pv 4) pa_nil)) pa_nil))) (by rfl)))) (fun _ _ _ _ _ => (pv 4))) (pe_lst pa_nil) (by rfl)) (pss_one (ps_ret pe_bl)) pss_nil) (pss_one (ps_ret (pe_cmpR (op_uEq hu) (pe_lenY (ok_Yard_len C) (hr.mono (by decide)) (by rfl) C.n_len (pa_cons (pe_cm' (ok_Yard_read C) (pe_glob (by rfl) C.g_Yard rfl) (hr.mono (by decide)) (passes_call (takes_of rfl rfl rfl rfl) fun _ _ _ _ h => h) (ha := (pa_cons (pe_slice sl_u (pv 2) po_none (po_some pe_int)) pa_nil))) pa_nil)) pe_int (by rfl)))))))))), read_law C.F h⟩)
end
theorem run_f (w : World) : HandSHeadRun.RunEq RowR (PySem.W.view RowR.prog [39]) hk ob 20000 loose (w.withFollow "special-get-raises" false) := by
  intro os
  kernel_rfl
theorem run_t (w : World) : HandSHeadRun.RunEq RowR (PySem.W.view RowR.prog [39]) hk ob 20000 loose (w.withFollow "special-get-raises" true) := by
  intro os
  kernel_rfl
theorem run (w : World) : HandSHeadRun.RunEq RowR (PySem.W.view RowR.prog [39]) hk ob 20000 loose w :=
  PySem.W.byRow2 "special-get-raises" (P := fun w => HandSHeadRun.RunEq RowR (PySem.W.view RowR.prog [39]) hk ob 20000 loose w) run_f run_t w
end U
open PySem PySem.W PySem.Calls PyProof.Rows
theorem PySem.Challenge.cw_cratetowers_k04_texts_of_yards_holds : PySem.Challenge.rw_cratetowers_k04_texts_of_yards.Holds := by
  w_on; o_law
  refine HandSHeadRun.head_any (r := OpenLaw.row PySem.Challenge.rw_cratetowers_k04_texts_of_yards) (q := view (OpenLaw.row PySem.Challenge.rw_cratetowers_k04_texts_of_yards).prog [39]) (H := U.hk) (ob := U.ob) (M := 20000) (loose := U.loose) (d := HandSHeadRun.topDef (OpenLaw.row PySem.Challenge.rw_cratetowers_k04_texts_of_yards).prog 39) (kwd := []) U.ob_eq
    (by kernel_rfl) (fun s => by kernel_rfl) U.run (by kernel_rfl) (by kernel_rfl) (by kernel_rfl) (by rfl) (by first | assumption | decide +kernel) (by decide +kernel) ⟨rfl, rfl, rfl, rfl, rfl, by decide +kernel⟩ ?hw ?hc
  case hw => w_witness2
  case hc =>
    refine U.walk_G (l := PySem.Challenge.rw_cratetowers_k04_texts_of_yards) (n := 63) (k := 10) (x := "_law_script") ⟨rfl, by decide, by decide⟩ rfl (by decide) (by kernel_rfl) ?F
    intro w mg fa h hmg0 Y G
    obtain ⟨K, KX, c, e⟩ := Y
    have hmg : mg ("law" : PySem.Str) = some (.ref fa) := by
      have e : (HandSHeadRun.topDef (OpenLaw.row PySem.Challenge.rw_cratetowers_k04_texts_of_yards).prog 39).name = ("law" : PySem.Str) := by kernel_rfl
      rw [← e]
      exact hmg0
    have C := U.ct_of KX G c e
    have e2 := hmg.symm.trans C.g_law
    cases e2
    obtain ⟨fd, F⟩ := c.1.def_ 28 (d := U.d_law) rfl
    have b := L2.FunD.bindsA (ps := ["_law_script"]) F fun _ _ _ _ _ _ us hl => match us, hl with | [_], _ => rfl
    exact ⟨K, U.sp_law0 K, fd, fun s v => b s [v] rfl, KX, fun base _ _ => U.okF_law C F, fun H a ns hl _ hS => ⟨a, ns, rfl, hS, fun _ => rfl⟩⟩

