import PyProof.Rows.All
import Wide.All
import OpenK.AllK
import Wide.FinOn
import KE.KStateDown
import Lean
import HandS.ForMost
import HandS.WordsExc
import HandS.Exc
import HandS.ExcInit
import HandS.IsInst
import HandS.Defaults
import HandS.Wide
import HandS.Style
import HandS.Strs
import HandS.More
import HandS.RaiseMore
import HandS.Flow
import HandS.HeadHook2
import HandS.HeadEnd
import HandS.EndBits
import HandS.StrMore
import PyProof.ReprRoads
import PyProof.Draws
import PyProof.EnumMake
import PyProof.ListStr
import PyProof.TupleOfStr
import HandS.Conv
import PyProof.Rows.StrRev
import HandS.HeadHook3
import HandS.Sort
import HandS.SortInts
import HandS.Small
import HandS.Deep
import KE.KDictSum
import KE.KDictList
import HandS.Zip
import PyProof.StrWalks
import PyProof.Rows.StrLast
import Wide.Txt
import KE.GoesMore
import KE.KEqDeep
import PyProof.Rows.ReprShort
import HandS.Head0
import HandS.Head1
import HandS.Head2
import PySem.Challenge.RW_cratetowers_k13_rows_followed
set_option Elab.async false
set_option linter.all false
set_option maxRecDepth 100000
set_option maxHeartbeats 0
namespace U
open PySem PySem.Spec PyProof.Rows L2

/-! ### operators on values, by the values' kinds -/
section
variable {X : Cx}
def uAdd : R2 := fun x y H Q => match x, y with
  | .int i, .int j => Q (.int (i + j)) H
  | .str i, .str j => i.length + j.length ≤ sizeLine ∧ Q (.str (i ++ j)) H
  | .ref a, .ref b => rCat (.ref a) (.ref b) H Q
  | _, _ => False
theorem op_uAdd : OpR X (binaryOp .Add) uAdd := by
  intro pins s σ H x y u v Q I rx ry h
  cases x <;> cases y <;> first
    | exact (show False from h).elim
    | exact op_add pins s σ H _ _ u v Q I rx ry ⟨_, _, rfl, rfl, h⟩
    | exact op_add_str pins s σ H _ _ u v Q I rx ry ⟨_, _, rfl, rfl, h⟩
    | exact op_cat pins s σ H _ _ u v Q I rx ry h
def uSub : R2 := fun x y H Q => match x, y with
  | .int i, .int j => Q (.int (i - j)) H
  | _, _ => False
theorem op_uSub : OpR X (binaryOp .Sub) uSub := by
  intro pins s σ H x y u v Q I rx ry h
  cases x <;> cases y <;> first
    | exact (show False from h).elim
    | exact op_sub pins s σ H _ _ u v Q I rx ry ⟨_, _, rfl, rfl, h⟩
/-- a text, so many times -/
def rMulS : R2 := fun x y H Q => ∃ z n, x = .str z ∧ y = .int n ∧ 0 ≤ n ∧ n ≤ 1000 ∧ z.length ≤ 10000 ∧ Q (.str (Txt.mul z n)) H
theorem op_mulS : OpR X (binaryOp .Mult) rMulS := by
  intro ps s σ H x y v u R I rx ry h
  obtain ⟨z, n, rfl, rfl, h0, h1, h2, q⟩ := h
  obtain ⟨t, rfl⟩ := rx
  obtain ⟨t', rfl⟩ := ry
  refine SB.mul ⟨?_, ?_, ?_⟩ fun t' k => ⟨.str _, H, I.tok _, ⟨_, rfl⟩, q⟩
  · have e1 : ¬ n < -(2 ^ 63 : Int) := by omega
    have e2 : ¬ n ≥ 2 ^ 63 := by omega
    rw [decide_eq_false e1, decide_eq_false e2] <;> rfl
  · intro k1 _ k2
    have e : (z.length : Int) * n ≤ 10000 * 1000 := Int.mul_le_mul (by omega) h1 h0 (by omega)
    have e3 : (z.length : Int) ≤ (2 ^ 63 - 1) / n := Int.le_ediv_of_mul_le (by omega) (by omega)
    omega
  · intro _ _
    have e : z.length * n.toNat ≤ 10000 * 1000 := Nat.mul_le_mul h2 (by omega)
    have hs := sizeLine_eq
    show decide (_ > sizeLine) = false
    exact decide_eq_false (Nat.not_lt.mpr (by omega))
def uMul : R2 := fun x y H Q => match x, y with
  | .int i, .int j => CMul i j ∧ Q (.int (i * j)) H
  | .str z, .int n => 0 ≤ n ∧ n ≤ 1000 ∧ z.length ≤ 10000 ∧ Q (.str (Txt.mul z n)) H
  | .ref a, .int n => rRep (.ref a) (.int n) H Q
  | _, _ => False
theorem op_uMul : OpR X (binaryOp .Mult) uMul := by
  intro pins s σ H x y u v Q I rx ry h
  cases x <;> cases y <;> first
    | exact (show False from h).elim
    | exact op_mul pins s σ H _ _ u v Q I rx ry ⟨_, _, rfl, rfl, h⟩
    | exact op_mulS pins s σ H _ _ u v Q I rx ry ⟨_, _, rfl, rfl, h⟩
    | exact op_rep pins s σ H _ _ u v Q I rx ry h
def uDiv : R2 := fun x y H Q => match x, y with
  | .int i, .int j => CDivW i j ∧ Q (.int (i / j)) H
  | _, _ => False
theorem op_uDiv : OpR X (binaryOp .FloorDiv) uDiv := by
  intro pins s σ H x y u v Q I rx ry h
  cases x <;> cases y <;> first
    | exact (show False from h).elim
    | exact op_fdivW pins s σ H _ _ u v Q I rx ry ⟨_, _, rfl, rfl, h⟩
def uMod : R2 := fun x y H Q => match x, y with
  | .int i, .int j => 0 < j ∧ Q (.int (i % j)) H
  | _, _ => False
theorem op_uMod : OpR X (binaryOp .Mod) uMod := by
  intro pins s σ H x y u v Q I rx ry h
  cases x <;> cases y <;> first
    | exact (show False from h).elim
    | exact op_mod pins s σ H _ _ u v Q I rx ry ⟨_, _, rfl, rfl, h⟩
def uPow : R2 := fun x y H Q => match x, y with
  | .int i, .int j => CPow i j ∧ Q (.int (i ^ j.toNat)) H
  | _, _ => False
theorem op_uPow : OpR X (binaryOp .Pow) uPow := by
  intro pins s σ H x y u v Q I rx ry h
  cases x <;> cases y <;> first
    | exact (show False from h).elim
    | exact op_pow pins s σ H _ _ u v Q I rx ry ⟨_, _, rfl, rfl, h⟩
/-! comparisons -/
def uEq (K : PySem.W.Frag) : R2 := fun x y H Q => match x, y with
  | .ref a, y => rEqD K (.ref a) y H Q
  | .int i, .int j => Q (.bl (decide (i = j))) H
  | .str i, .str j => Q (.bl (decide (i = j))) H
  | .non, y => rEq .non y H Q
  | .bl b, y => rEq (.bl b) y H Q
  | .int i, .non => Q (.bl false) H
  | .str i, .non => Q (.bl false) H
  | _, _ => False
theorem op_uEq (hu : X.A.units + 64 < cLine) : OpR X (compareOp .Eq) (uEq X.K) := by
  intro pins s σ H x y u v Q I rx ry h
  cases x <;> cases y <;> first
    | exact (show False from h).elim
    | exact op_eqD hu pins s σ H _ _ u v Q I rx ry h
    | exact op_eq pins s σ H _ _ u v Q I rx ry h
    | exact op_eq pins s σ H _ _ u v Q I rx ry ⟨rfl, by simpa [uEq] using h⟩
def uNe (K : PySem.W.Frag) : R2 := fun x y H Q => match x, y with
  | .ref a, y => rNeD K (.ref a) y H Q
  | .int i, .int j => Q (.bl (!decide (i = j))) H
  | .str i, .str j => Q (.bl (!decide (i = j))) H
  | .non, y => rNe .non y H Q
  | .bl b, y => rNe (.bl b) y H Q
  | .int i, .non => Q (.bl true) H
  | .str i, .non => Q (.bl true) H
  | _, _ => False
theorem op_uNe (hu : X.A.units + 64 < cLine) : OpR X (compareOp .NotEq) (uNe X.K) := by
  intro pins s σ H x y u v Q I rx ry h
  cases x <;> cases y <;> first
    | exact (show False from h).elim
    | exact op_neD hu pins s σ H _ _ u v Q I rx ry h
    | exact op_ne pins s σ H _ _ u v Q I rx ry h
    | exact op_ne pins s σ H _ _ u v Q I rx ry ⟨rfl, by simpa [uNe] using h⟩
def uCmp (p : Int → Int → Bool) : R2 := fun x y H Q => match x, y with
  | .int i, .int j => Q (.bl (p i j)) H
  | _, _ => False
theorem uCmp_of {f : Value → Value → Sem Value} {p : Int → Int → Bool} (h : OpR X f (rI0 fun i j => .bl (p i j))) : OpR X f (uCmp p) := by
  intro pins s σ H x y u v Q I rx ry q
  cases x <;> cases y <;> first
    | exact (show False from q).elim
    | exact h pins s σ H _ _ u v Q I rx ry ⟨_, _, rfl, rfl, q⟩
abbrev uLt : R2 := uCmp fun i j => decide (i < j)
abbrev uLe : R2 := uCmp fun i j => decide (i ≤ j)
abbrev uGt : R2 := uCmp fun i j => decide (j < i)
abbrev uGe : R2 := uCmp fun i j => decide (j ≤ i)
theorem op_uLt : OpR X (compareOp .Lt) uLt := uCmp_of op_lt
theorem op_uLe : OpR X (compareOp .LtE) uLe := uCmp_of op_le
theorem op_uGt : OpR X (compareOp .Gt) uGt := uCmp_of op_gt
theorem op_uGe : OpR X (compareOp .GtE) uGe := uCmp_of op_ge
def uIs : R2 := fun x y H Q => match y with
  | .non => Q (.bl (decide (x = .non))) H
  | .bl b => (match x with
    | .bl a => Q (.bl (decide (a = b))) H
    | _ => False)
  | _ => False
theorem op_uIs : OpR X (compareOp .Is) uIs := by
  intro pins s σ H x y u v Q I rx ry h
  cases y <;> try exact (show False from h).elim
  · exact op_isN pins s σ H _ _ u v Q I rx ry ⟨rfl, h⟩
  · cases x <;> try exact (show False from h).elim
    exact op_isBl pins s σ H _ _ u v Q I rx ry ⟨_, _, rfl, rfl, h⟩
def uNis : R2 := fun x y H Q => match y with
  | .non => Q (.bl (!decide (x = .non))) H
  | .bl b => (match x with
    | .bl a => Q (.bl (!decide (a = b))) H
    | _ => False)
  | _ => False
theorem op_uNis : OpR X (compareOp .IsNot) uNis := by
  intro pins s σ H x y u v Q I rx ry h
  cases y <;> try exact (show False from h).elim
  · exact op_notN pins s σ H _ _ u v Q I rx ry ⟨rfl, h⟩
  · cases x <;> try exact (show False from h).elim
    exact op_notBl pins s σ H _ _ u v Q I rx ry ⟨_, _, rfl, rfl, h⟩
def uIn (K : PySem.W.Frag) (neg : Bool) : R2 := fun x y H Q => match y with
  | .ref p => rIn K neg x (.ref p) H Q
  | .str z => (match x with
    | .str i => Q (.bl (if neg then !(!(Builtin.Str.occurrences z i 0 z.length 1).isEmpty) else !(Builtin.Str.occurrences z i 0 z.length 1).isEmpty)) H
    | _ => False)
  | _ => False
theorem op_uIn : OpR X (compareOp .In) (uIn X.K false) := by
  intro pins s σ H x y u v Q I rx ry h
  cases y <;> try exact (show False from h).elim
  · cases x <;> try exact (show False from h).elim
    exact op_in_str pins s σ H _ _ u v Q I rx ry ⟨_, _, rfl, rfl, h⟩
  · exact op_in_seq pins s σ H _ _ u v Q I rx ry h
theorem op_uNin : OpR X (compareOp .NotIn) (uIn X.K true) := by
  intro pins s σ H x y u v Q I rx ry h
  cases y <;> try exact (show False from h).elim
  · cases x <;> try exact (show False from h).elim
    exact op_notIn_str pins s σ H _ _ u v Q I rx ry ⟨_, _, rfl, rfl, h⟩
  · exact op_notIn_seq pins s σ H _ _ u v Q I rx ry h
/-! subscripts -/
def uIx (K : PySem.W.Frag) : R2 := fun x y H Q => match x, y with
  | .str z, .int i => z.length ≤ sizeLine ∧ ∃ c, atI z.cps.toList i = some c ∧ Q (.str ⟨#[c]⟩) H
  | .ref p, .int i => ∃ xs v, (SqL K H p xs ∨ SqT K H p xs) ∧ atI xs i = some v ∧ Q v H
  | _, _ => False
theorem ix_u : IxR X (uIx X.K) := by
  intro ea eb pins s σ H x y u v Q I rx ry h
  cases x <;> cases y <;> try exact (show False from h).elim
  · obtain ⟨h1, c, h2, q⟩ := h
    exact ix_str ea eb pins s σ H _ _ u v Q I rx ry ⟨_, _, c, rfl, rfl, h1, h2, q⟩
  · obtain ⟨xs, z, hs | hs, h2, q⟩ := h
    · exact ix_list ea eb pins s σ H _ _ u v Q I rx ry ⟨_, xs, _, z, rfl, rfl, hs, h2, q⟩
    · exact ix_tup ea eb pins s σ H _ _ u v Q I rx ry ⟨_, xs, _, z, rfl, rfl, hs, h2, q⟩
def uSl (K : PySem.W.Frag) : V → Option Int → Option Int → Hp → VK → Prop := fun x lo hi H Q => match x with
  | .str z => z.length ≤ sizeLine ∧ Q (.str (cutS z lo hi)) H
  | .ref a => rSlL K (.ref a) lo hi H Q ∨ rSlT K (.ref a) lo hi H Q
  | _ => False
theorem sl_u : SlR X (uSl X.K) := by
  intro pins s σ H x v sl lo hi ulo uhi Q I rx hsl hlo hhi h
  cases x <;> try exact (show False from h).elim
  · exact sl_str pins s σ H _ v sl lo hi ulo uhi Q I rx hsl hlo hhi ⟨_, rfl, h⟩
  · rcases h with h | h
    · exact sl_list pins s σ H _ v sl lo hi ulo uhi Q I rx hsl hlo hhi h
    · exact sl_tup pins s σ H _ v sl lo hi ulo uhi Q I rx hsl hlo hhi h
/-! calls -/
def uLen (K : PySem.W.Frag) : List V → Hp → VK → Prop := fun xs H Q => match xs with
  | [.str z] => z.length ≤ sizeLine ∧ Q (.int z.length) H
  | [.ref p] => ∃ ys, (SqL K H p ys ∨ SqT K H p ys) ∧ Q (.int ys.length) H
  | _ => False
theorem call_uLen : CallR X (.builtin "len") (uLen X.K) := by
  intro ps s σ H xs us R I r h
  match xs, h with
  | [.str z], h => exact call_len_str ps s σ H _ us R I r ⟨_, rfl, h⟩
  | [.ref p], h =>
    obtain ⟨ys, hs, q⟩ := h
    exact call_len_seq ps s σ H _ us R I r ⟨p, ys, rfl, hs, q⟩
def uIsi (K : PySem.W.Frag) : List V → Hp → VK → Prop := fun xs H Q => match xs with
  | [x, .ty T] => ∃ t b, TyX K H x t ∧ PySem.W.kitOne K t (.type T) = some b ∧ Q (.bl b) H
  | [x, .ref c] => (∃ t b, TyX K H x t ∧ PySem.W.kitOne K t (.ref c) = some b ∧ Q (.bl b) H) ∨ ∃ cs us t b, H c = some (.tup cs) ∧ Paired ClsV cs us ∧ TyX K H x t ∧ PySem.W.kitAny K t us = some b ∧ Q (.bl b) H
  | _ => False
theorem call_uIsi : CallR X (.builtin "isinstance") (uIsi X.K) := by
  intro ps s σ H xs us R I r h
  match xs, h with
  | [x, .ty T], h =>
    obtain ⟨t, b, h1, h2, q⟩ := h
    exact call_isi ps s σ H _ us R I r ⟨x, _, t, _, b, rfl, .ty T, h1, h2, q⟩
  | [x, .ref c], h =>
    rcases h with ⟨t, b, h1, h2, q⟩ | ⟨cs, ws, t, b, h0, h3, h1, h2, q⟩
    · exact call_isi ps s σ H _ us R I r ⟨x, _, t, _, b, rfl, .own c, h1, h2, q⟩
    · exact call_isiT ps s σ H _ us R I r ⟨x, c, cs, t, ws, b, rfl, h0, h3, h1, h2, q⟩
/-- len of an instance whose class has its own __len__ -/
def rLenO (C : Addr) (sp : Sp) : List V → Hp → VK → Prop := fun xs H Q => ∃ a dx fs, xs = [.ref a] ∧ H a = some (.ins C dx fs) ∧ sp [.ref a] H (fun v H' => ∃ n : Int, v = .int n ∧ 0 ≤ n ∧ n < 2 ^ 63 ∧ Q (.int n) H') E0
theorem call_lenO {k : Nat} {C f : Addr} {fd : FuncData} {ps : List Str} {sp : Sp} (F : FnOk X.prog X.w X.K X.mg X.base (L2.CX X.prog X.w) k f fd ps sp) (m : Meth X.K C "__len__" f) (hr : Room (k + 1) X.A) (hb : Binds X.K fd ps []) :
    CallR X (.builtin "len") (rLenO C sp) := by
  intro ps' s σ H xs us R I r h
  obtain ⟨a, dx, fs, rfl, ea, h⟩ := h
  obtain rfl := Vals.ref1 r
  obtain ⟨_, O, _⟩ := ins_get I.hok ea
  obtain ⟨od, J, _⟩ := O.look
  obtain ⟨m', hF⟩ := I.fr
  refine PySem.W.len_K hF I.ok.mod.kin J m.at_ m.fn ?_
  have e0 : Env0 X.prog X.w X.K X.mg X.base X.A.in1 X.stack s H := I.env0.in1
  have hl := F.len _ _ _ _ h
  have r2 : Vals [.ref a] [.ref a] := (.cons (by rfl) .nil)
  refine wpAny_call (codeAny_mono (F.run X.A.in1 X.stack s H ⟨[.ref a], []⟩ [.ref a] [.ref a] _ E0 hr.in1 e0 (by
    have := hb s [.ref a] I.kIn (by simpa using hl)
    simpa using this) r2 h) fun r s' hq => ?_)
  cases r with
  | error e => exact passL ps' σ H s e s' I hq
  | ok fl =>
    cases fl with
    | ret w =>
      obtain ⟨z, H', I', rz, n, ez, h0, h1, q⟩ := I.after hq
      subst ez
      obtain ⟨t, rfl⟩ := rz
      exact ⟨⟨h0, h1⟩, ⟨.int n, H', I'.tok _, ⟨_, rfl⟩, q⟩⟩
    | next => exact False.elim hq
    | brk => exact False.elim hq
    | cont => exact False.elim hq
end
end U
namespace U
open PySem PySem.Spec PyProof.Rows L2

/-! ### promises kept where no text of a container is being made -/
structure FnG (P : Program) (w : World) (K : PySem.W.Frag) (mg : Str → Option Value) (base : Heap) (k : Nat) (f : Addr) (fd : FuncData) (ps : List Str) (sp : Sp) : Prop where
  len : ∀ (vs : List V) (H : Hp) (Q : VK) (E : XK), sp vs H Q E → vs.length = ps.length
  go : ∀ A : Around, A.guards = some [] → ∀ (outer : List Env) (s : Shared) (H : Hp) (ar : Args) (us : List Value) (vs : List V) (Q : VK) (E : XK),
    Room k A → Env0 P w K mg base A outer s H → BindsTo s fd ar (ps.zip us) → Vals vs us → sp vs H Q E → codeAny (model P w) A (.call (.ref f) ar) (CR (L2.CX P w) outer P w H s Q E) s
section
variable {P : Program} {w : World} {K : PySem.W.Frag} {mg : Str → Option Value} {base : Heap}
theorem FnG.of {k : Nat} {f : Addr} {fd : FuncData} {ps : List Str} {sp : Sp} (F : FnOk P w K mg base (L2.CX P w) k f fd ps sp) : FnG P w K mg base k f fd ps sp :=
  ⟨F.len, fun A _ outer s H ar us vs Q E r e b v q => F.run A outer s H ar us vs Q E r e b v q⟩
/-- a def by its body -/
theorem fnG_of {x qual : Str} {pa : Arguments} {bd : List Stmt} {sc : Scope} {f : Addr} {fd : FuncData} {N ps : List Str} {k : Nat} {sp : Sp} (F : FunD K x qual pa bd sc [] [] f fd) (S : FnScope N ps sc) (hlen : ∀ vs H Q E, sp vs H Q E → vs.length = ps.length)
    (hb : ∀ (cdv : Value) (A : Around) (outer : List Env) (s : Shared) (H : Hp) (vs : List V) (Q : VK) (E : XK), A.guards = some [] → Room k (A.deeper (envOfC qual sc s.heap.objs.size f cdv)) → sp vs H Q E →
      ∃ t, PSs (cxOf (L2.CX P w) P w K mg base N qual sc f cdv A outer s H E) bd t ∧ t { nx := fun _ H' => Q .non H', rt := Q } (start N vs) H) : FnG P w K mg base (k + 1) f fd ps sp := by
  obtain ⟨oc, od, dV, kV, doc, pm, an, cdv, ct, osl, hfd, hlk, hcode, _, _⟩ := F.ex
  subst hfd
  refine ⟨hlen, fun A hA outer s H ar us vs Q E room env bnd vls prom => ?_⟩
  have len1 := hlen _ _ _ _ prom
  have kin : K.In s.heap := e_kin env
  have nol : s.heap.NoLimit := env.mod.nolimit.keeps fun b o z => (env.bs b o z).1
  refine codeAny_call_function room.depth (kin _ _ hlk) rfl S.co S.gen rfl (PySem.W.codeRec_of kin hcode) (bnd _ _ _ _ ?_)
  refine wpAny_newFunctionEnv_cells S.kind (kinds_of S) fun en hen s1 ic => ?_
  cases hen
  refine ⟨nol.keeps ic.toInCall.keep, codeAny_func ?_⟩
  obtain ⟨t, der, rd⟩ := hb cdv A outer s H vs Q E hA (room.deeper _) prom
  have inv0 := inv_start (CX := L2.CX P w) (E := E) S room.hd env len1 vls ic
  refine wpAny_mono (der.run [] s1 (start N vs) H _ inv0 rd) (fun fl s' out => ?_) fun _ _ z => z
  match fl, out with
  | .ret u, ⟨v, σ', H', J, rv, q⟩ => exact ⟨v, H', J.os, J.bare, J.base, J.hok, rv, q⟩
  | .next, ⟨σ', H', J, q⟩ => exact ⟨.non, H', J.os, J.bare, J.base, J.hok, rfl, q⟩
  | .brk, ⟨_, _, _, q⟩ => exact q.elim
  | .cont, ⟨_, _, _, q⟩ => exact q.elim
where
  e_kin {A : Around} {outer : List Env} {s : Shared} {H : Hp} (env : Env0 P w K mg base A outer s H) : K.In s.heap := env.mod.kin.keeps fun b o z => (env.bs b o z).1
  kinds_of {N ps : List Str} {sc : Scope} (S : FnScope N ps sc) {n : Nat} {us : List Value} : ∀ y ∈ ps.zip us, sc.names.lookup y.1 = some .local ∨ (sc.names.lookup y.1 = some .cell ∧ ((cellsFrom n sc.names []).lookup y.1).isSome = true) :=
    fun y hy => (S.par y.1 (List.of_mem_zip (a := y.1) (b := y.2) hy).1).imp id fun q => ⟨q, PySem.W.cellsFrom_some _ _ _ (.inl q)⟩
end

/-! ### a def of the module under its name -/
structure Good (P : Program) (w : World) (K : PySem.W.Frag) (mg : Str → Option Value) (base : Heap) (k : Nat) (x : Str) (ps : List Str) (sp : Sp) : Prop where
  fn : ∃ fd, FnG P w K mg base k (He.ga K x) fd ps sp ∧ Binds K fd ps []
  mg : mg x = some (.ref (He.ga K x))
  kp : PySem.W.keepIn K (.ref (He.ga K x)) = true
/-- a method that asks no text of a container -/
structure GoodM (P : Program) (w : World) (K : PySem.W.Frag) (mg : Str → Option Value) (base : Heap) (k : Nat) (C m : Str) (ps : List Str) (sp : Sp) : Prop where
  fn : ∃ fd, FnOk P w K mg base (L2.CX P w) k (He.ma K (He.ga K C) m) fd ps sp ∧ Binds K fd ps []
  mt : Meth K (He.ga K C) m (He.ma K (He.ga K C) m)
  cl : Cls K (He.ga K C)
/-- f(..) -/
def tFn (sp : Sp) (E : XK) (t : TA) : TE := fun σ H Q => t σ H fun vs H1 => sp vs H1 Q E
section
variable {X : Cx} {k : Nat} {x m : Str} {ps : List Str} {sp : Sp} {E : XK} {p pos apos : Pos} {e o : Expr} {es : List Expr} {ta : TE} {t : TA}
theorem run_G {f : Addr} {fd : FuncData} {pins : List (Addr × Obj)} {σ : L2.St} {H : Hp} {s : Shared} {Q : VK} {us : List Value} {vs : List V} (F : FnG X.prog X.w X.K X.mg X.base k f fd ps sp) (hA : X.A.guards = some []) (hr : Room k X.A) (hb : Binds X.K fd ps [])
    (hx : Passes (L2.CX X.prog X.w) X E) (I : Inv X pins σ H s) (r : Vals vs us) (h : sp vs H Q E) : wpAny (model X.prog X.w) X.A (call (.ref f) us) (EP X pins σ Q) X.xe s := by
  have hl : (us ++ []).length = ps.length := by rw [List.append_nil, ← r.length]; exact F.len _ _ _ _ h
  have bb := hb s us I.kIn hl
  rw [List.append_nil] at bb
  refine wpAny_call (codeAny_mono (F.go X.A hA X.stack s H ⟨us, []⟩ us vs Q E hr I.env0 bb r h) fun res s' out => ?_)
  match res, out with
  | .error er, out => exact hx pins σ H s er s' I out
  | .ok (.ret u), out => exact I.after out
  | .ok .next, out => exact False.elim out
  | .ok .brk, out => exact False.elim out
  | .ok .cont, out => exact False.elim out
theorem pe_fn (g : Good X.prog X.w X.K X.mg X.base k x ps sp) (hA : X.A.guards = some []) (hr : Room k X.A) (hg : Gl X x) (hx : Passes (L2.CX X.prog X.w) X E)
    (hpl : (backTo pos (starEach es X.env)).any (·.1) = false := by rfl) (he : starEach (e :: es) X.env = (false, eval e X.env) :: starEach es X.env := by rfl) (ha : PA X (e :: es) t)
    (hdb : (x == ("__debug__" : Str)) = false := by decide) :
    PE X (.Call (.Name x p) (e :: es) [] pos) (tFn sp E t) := by
  obtain ⟨fd, F, hb⟩ := g.fn
  refine ⟨fun pins s σ H Q I h => ?_⟩
  refine wpAny_Call_Name_kw (ld_glob I hg g.mg ?_ hdb)
  exact PySem.W.callWith_K (h₀ := X.base) I.ok.mod.kin g.kp (thn (ha.run pos pins s σ H _ I h) fun us s1 z => by
    obtain ⟨vs, H1, I1, r, q⟩ := z
    exact ⟨I1.kIn, run_G F hA hr hb hx I1 r q⟩) he hpl
theorem pe_fn0 (g : Good X.prog X.w X.K X.mg X.base k x ps sp) (hA : X.A.guards = some []) (hr : Room k X.A) (hg : Gl X x) (hx : Passes (L2.CX X.prog X.w) X E)
    (hdb : (x == ("__debug__" : Str)) = false := by decide) : PE X (.Call (.Name x p) [] [] pos) (tFn sp E tNil) := by
  obtain ⟨fd, F, hb⟩ := g.fn
  refine ⟨fun pins s σ H Q I h => ?_⟩
  refine wpAny_Call_Name_kw (ld_glob I hg g.mg ?_ hdb)
  exact PySem.W.callWith_K0 I.kIn g.kp (run_G (us := []) F hA hr hb hx I .nil h)
end

/-! ### a law's end -/
section
variable {P : Program} {w : World} {K : PySem.W.Frag} {mg mb : Str → Option Value} {k : Nat} {fa a : Addr} {fd : FuncData} {x : Str} {sp : Sp} {s1 : Shared} {vs : List Value} {ns : List Int}
/-- the script alone is tracked, locked, or nothing is -/
def One (a : Addr) (o : Obj) (xs : List V) (H : Hp) : Prop := ∀ b, H b = none ∨ (b = a ∧ H b = some (.frz o (.lst xs)))
theorem end_from (H : Hp) (o : Obj) (ho : s1.heap.get? a = some o) (hod : ∃ its n, o.data = .seq its n) (one : One a o (ns.map V.int) H) (hK : H a ≠ none → K.lookup a = none) (hok : HOk P w H s1.heap)
    (KX : K.In s1.heap) (hns : s1.heap.Ns mainGlobals mg) (hb : s1.heap.Ns builtinsNs mb) (hbb : ∀ x : Str, x ≠ "__name__" → mb x = bootBuiltins x) (hlim : s1.heap.NoLimit) (hg : s1.gens = #[]) (hr : Room k callerA)
    (F : ∀ base : Heap, K.In base → base.Ns mainGlobals mg → FnG P w K mg base k fa fd [x] sp) (hbind : ∀ (s : Shared) (u : Value), BindsTo s fd ⟨[u], []⟩ [(x, u)])
    (hsp : sp [.ref a] H (fun v _ => v = .bl true) fun _ _ _ => False) :
    codeAny (model P w) callerA (.call (.ref fa) ⟨[.ref a], []⟩) (fun r s' => r = .ok (.ret (.bool true)) ∧ OldK s1.heap s'.heap ∧ s'.os = s1.os ∧ AllBare s'.gens) s1 := by
  have only_a : ∀ b, b ≠ a → H b = none := fun b hb => (one b).elim id fun z => absurd z.1 hb
  have dict_free : ∀ b ob es ep, s1.heap.get? b = some ob → ob.data = .dict es ep → H b = none := fun b ob es ep e d => by
    by_cases q : b = a
    · obtain ⟨its, n, hd⟩ := hod
      rw [q, ho] at e
      rw [← Option.some.inj e, hd] at d
      cases d
    · exact only_a b q
  have ns_low : ∀ b (m : Str → Option Value), s1.heap.Ns b m → (hidT s1.heap H).Ns b m := fun b m z => by
    obtain ⟨ob, es, ep, e, d, r⟩ := z
    exact ⟨ob, es, ep, hidT_get e (dict_free b ob es ep e d), d, r⟩
  have k_low : K.In (hidT s1.heap H) := fun b ob e => by
    refine hidT_get (KX b ob e) ?_
    by_cases q : b = a
    · cases z : H b with
      | none => rfl
      | some u =>
        have y := hK (by rw [← q, z]; simp)
        rw [q, y] at e
        cases e
    · exact only_a b q
  obtain ⟨mc, l1, l2⟩ := hlim
  have md : Mod K mg (hidT s1.heap H) := ⟨k_low, ns_low _ _ hns, ⟨mb, ns_low _ _ hb, hbb⟩, ⟨mc, ns_low _ _ l1, l2⟩⟩
  have env : Env0 P w K mg (hidT s1.heap H) callerA [] s1 H :=
    { frames := rfl, mod := md, bs := fun b ob e => of_hidT e, bsz := Nat.le_of_eq (hidT_size _ _), funs := trivial, frf := fun b z => absurd z (by simp [frs]), hok := hok, bare := .of_eq hg }
  refine codeAny_mono ((F _ k_low (ns_low _ _ hns)).go callerA rfl [] s1 H ⟨[.ref a], []⟩ [.ref a] [.ref a] _ _ hr env (hbind s1 (.ref a)) (.cons rfl .nil) hsp) fun res s' out => ?_
  match res, out with
  | .error er, out =>
    obtain ⟨_, _, _, _, _, _, _, _, _, _, _, _, z⟩ := out
    exact z.elim
  | .ok .next, out => exact False.elim out
  | .ok .brk, out => exact False.elim out
  | .ok .cont, out => exact False.elim out
  | .ok (.ret u), out =>
    obtain ⟨v, H', eos, bare, un, hok', rv, ev⟩ := out
    have ev' : v = .bl true := ev
    subst ev'
    have eu : u = Value.bool true := rv
    refine ⟨by rw [eu], OldK.of_keep fun b ob e => ?_, eos, bare⟩
    rcases one b with q | ⟨q, z⟩
    · exact un.keep b ob e q (by simp [frs]) (by simp)
    · have z2 := un.frzs b _ _ z
      have y1 := (hok' b _ z2).1
      have y2 := (hok b _ z).1
      rw [← y2.symm.trans e |> Option.some.inj]
      exact y1
theorem end_G (KX : K.In s1.heap) (hns : s1.heap.Ns mainGlobals mg) (hb : s1.heap.Ns builtinsNs mb) (hbb : ∀ x : Str, x ≠ "__name__" → mb x = bootBuiltins x) (hlim : s1.heap.NoLimit) (hg : s1.gens = #[])
    (ha : s1.heap.get? a = some { cls := .type "list", data := .seq vs.toArray }) (hi : IntsAre vs ns) (hl : ns.length ≤ sizeLine) (hr : Room k callerA)
    (F : ∀ base : Heap, K.In base → base.Ns mainGlobals mg → FnG P w K mg base k fa fd [x] sp) (hbind : ∀ (s : Shared) (u : Value), BindsTo s fd ⟨[u], []⟩ [(x, u)])
    (hsp : ∀ H : Hp, (∀ b, H b = none ∨ ∃ o xs, H b = some (.frz o (.lst xs))) → SqL K H a (ns.map V.int) → sp [.ref a] H (fun v _ => v = .bl true) fun _ _ _ => False) :
    codeAny (model P w) callerA (.call (.ref fa) ⟨[.ref a], []⟩) (fun r s' => r = .ok (.ret (.bool true)) ∧ OldK s1.heap s'.heap ∧ s'.os = s1.os ∧ AllBare s'.gens) s1 := by
  have vv := vals_ints hi
  have ll := hi.length
  cases q : K.lookup a with
  | none =>
    have at_a : (fun b => if b = a then some (HO.frz { cls := .type "list", data := .seq vs.toArray } (.lst (ns.map V.int))) else none : Hp) a = some (.frz { cls := .type "list", data := .seq vs.toArray } (.lst (ns.map V.int))) := if_pos rfl
    have one : One a { cls := .type "list", data := .seq vs.toArray } (ns.map V.int) (fun b => if b = a then some (HO.frz { cls := .type "list", data := .seq vs.toArray } (.lst (ns.map V.int))) else none) := fun b => by
      by_cases e : b = a
      · exact .inr ⟨e, if_pos e⟩
      · exact .inl (if_neg e)
    refine end_from _ _ ha ⟨_, _, rfl⟩ one (fun _ => q) (fun b u z => ?_) KX hns hb hbb hlim hg hr F hbind (hsp _ (fun b => (one b).imp id fun z => ⟨_, _, z.2⟩) (.inl (.inr ⟨_, at_a⟩)))
    rcases one b with y | ⟨e, y⟩
    · cases y.symm.trans z
    · cases y.symm.trans z
      subst e
      exact ⟨ha, by rw [List.length_map]; exact hl, vs, _, vv, ha⟩
  | some ob =>
    have e := (KX a ob q).symm.trans ha
    have e2 := Option.some.inj e
    subst e2
    refine end_from (ns := ns) (fun _ => none) _ ha ⟨_, _, rfl⟩ (fun _ => .inl rfl) (fun z => absurd rfl z) (fun b u z => by cases z) KX hns hb hbb hlim hg hr F hbind
      (hsp _ (fun _ => .inl rfl) (.inr ⟨_, vs.toArray, _, q, rfl, rfl, rfl, by rw [List.size_toArray, ll]; exact hl, by simpa using vv⟩))
end
/-- a law from its head's facts, its def's promise kept where no text is under way -/
structure Owed (P : Program) (w : World) (h : Heap) (mg : Str → Option Value) (fa : Addr) (n k : Nat) (x : Str) : Prop where
  own : ∃ (K : PySem.W.Frag) (sp : Sp) (fd : FuncData), (∀ (s : Shared) (v : Value), BindsTo s fd ⟨[v], []⟩ [(x, v)]) ∧ K.In h ∧ (∀ base : Heap, K.In base → base.Ns mainGlobals mg → FnG P w K mg base k fa fd [x] sp) ∧
    ∀ (H : Hp) (a : Addr) (ns : List Int), ns.length ≤ n → (∀ z ∈ ns, Builtin.Int.intBits z ≤ 1048576) → SqL K H a (ns.map V.int) → sp [.ref a] H (fun v _ => v = .bl true) fun _ _ _ => False
theorem walk_G {l : PySem.W.OpenLaw} {n k : Nat} {q : Program} {loose : List Str} {XP : (Str → Option Value) → Heap → Prop} {YP : World → Heap → Prop} {d : DefRec} {x : Str} (room : Room k callerA) (most : l.most = some n) (fits : n ≤ sizeLine) (nodef : d.params.defaults = [])
    (owed : ∀ (w : World) (mg : Str → Option Value) (fa : Addr) (h : Heap), mg d.name = some (.ref fa) → YP w h → h.Ns mainGlobals mg → Owed l.prog w h mg fa n k x) : PySem.W.WalkO q loose XP YP l.row.toRowW d [] fun f vs => PySem.call f vs := by
  refine Att.attach_callB most nodef fun w s0 s1 mg mb fa o pm cd doc a vs ns G Y ho hd hcd named hobj hints hlen hbits hg => ?_
  obtain ⟨K, sp, fd, binds, kin, keeps, asks⟩ := (owed w mg fa _ named Y G.T.g).own
  exact end_G kin G.T.g G.T.b G.T.builtins G.T.nolimit hg hobj hints (Nat.le_trans hlen fits) room keeps binds fun H _ hS => asks H a ns hlen hbits hS
end U
namespace U
open PySem PySem.Spec PyProof.Rows L2

section
variable {X : Cx} {p pos apos : Pos} {e o : Expr} {es : List Expr} {t ta : TA} {te : TE}
/-! ### module constants -/
theorem pe_int_of {x : Str} {i : Int} (hg : Gl X x) (h : ∃ t, X.mg x = some (.int i t)) (hd : (x == ("__debug__" : Str)) = false := by decide) : PE X (.Name x pos) (tC (.int i)) := by
  obtain ⟨t, h⟩ := h
  exact pe_glob hg h ⟨t, rfl⟩ hd
theorem pe_str_of {x z : Str} (hg : Gl X x) (h : ∃ t, X.mg x = some (.str z t)) (hd : (x == ("__debug__" : Str)) = false := by decide) : PE X (.Name x pos) (tC (.str z)) := by
  obtain ⟨t, h⟩ := h
  exact pe_glob hg h ⟨t, rfl⟩ hd
/-! ### objects of one's own class -/
theorem pe_mk {k : Nat} {x : Str} {ps : List Str} {sp : Sp} {E : XK} (g : GoodM X.prog X.w X.K X.mg X.base k x "__init__" ps sp) (M : Mk X.K (He.ga X.K x) (He.ma X.K (He.ga X.K x) "__init__")) (hm : X.mg x = some (.ref (He.ga X.K x))) (hr : Room (k + 1) X.A) (hg : Gl X x) (hx : Passes (L2.CX X.prog X.w) X E)
    (hpl : (backTo pos (starEach es X.env)).any (·.1) = false := by rfl) (he : starEach (e :: es) X.env = (false, eval e X.env) :: starEach es X.env := by rfl) (ha : PA X (e :: es) t)
    (hdb : (x == ("__debug__" : Str)) = false := by decide) :
    PE X (.Call (.Name x p) (e :: es) [] pos) (tMake (He.ga X.K x) sp [] E t) := by
  obtain ⟨fd, F, hb⟩ := g.fn
  exact pe_make M F hr hg hm hb .nil hx ha hdb he hpl
theorem pe_lenY {k : Nat} {C : Str} {ps : List Str} {sp : Sp} (g : GoodM X.prog X.w X.K X.mg X.base k C "__len__" ps sp) (hr : Room (k + 1) X.A) (hg : Gl X "len") (hm : X.mg "len" = none) (ha : PA X [e] t)
    (he : starEach [e] X.env = [(false, eval e X.env)] := by rfl) : PE X (.Call (.Name "len" p) [e] [] pos) (tCB (rLenO (He.ga X.K C) sp) t) := by
  obtain ⟨fd, F, hb⟩ := g.fn
  exact pe_callB (es := []) (call_lenO F g.mt hr hb) hg hm boot_len ha (he := he)
/-! ### built-ins under short names -/
def uMax2 : List V → Hp → VK → Prop := fun xs H Q => ∃ i j, xs = [.int i, .int j] ∧ Q (.int (if j > i then j else i)) H
def uMin2 : List V → Hp → VK → Prop := fun xs H Q => ∃ i j, xs = [.int i, .int j] ∧ Q (.int (if j < i then j else i)) H
def rDivmod : List V → Hp → VK → Prop := fun xs H Q => ∃ i j, xs = [.int i, .int j] ∧ CDiv i j ∧ ∀ p, H p = none → Q (.ref p) (upd H p (.tup [.int (i / j), .int (i % j)]))
def rInt : List V → Hp → VK → Prop := fun xs H Q => (∃ i, xs = [.int i] ∧ Q (.int i) H) ∨ ∃ k, xs = [.bl k] ∧ Q (.int (if k then 1 else 0)) H
def rStrI : List V → Hp → VK → Prop := fun xs H Q => ∃ i, xs = [.int i] ∧ i.natAbs.log2 < 1920 ∧ Q (.str (toString i)) H
/-! ### the text of a value -/
def uRepr (K : PySem.W.Frag) : List V → Hp → VK → Prop := fun xs H Q => match xs with
  | [.int i] => i.natAbs.log2 < 1920 ∧ Q (.str (toString i)) H
  | [.non] => Q (.str "None") H
  | [.bl b] => Q (.str (if b then "True" else "False")) H
  | [.str z] => (reprText z).length ≤ sizeLine ∧ Q (.str (reprText z)) H
  | [.ref a] => ∃ d, Dp K H (.ref a) d ∧ d.showable = true ∧ d.hasDict = false ∧ d.depth ≤ 60 ∧ d.shown.length ≤ sizeLine ∧ Q (.str d.shown) H
  | _ => False
theorem call_uRepr (hA : X.A.guards = some []) (hu : X.A.units + 64 < cLine) : CallR X (.builtin "repr") (uRepr X.K) := by
  intro ps s σ H xs us R I r h
  match xs, h with
  | [.int i], h =>
    obtain ⟨_, rfl, t, rfl⟩ := vals1 r
    exact PySem.P.repr_of_int h.1 ⟨.str _, H, I.tok _, ⟨_, rfl⟩, h.2⟩
  | [.non], h =>
    obtain ⟨_, rfl, same⟩ := vals1 r
    cases same
    exact PySem.P.repr_of_none ⟨.str _, H, I.tok _, ⟨_, rfl⟩, h⟩
  | [.bl b], h =>
    obtain ⟨_, rfl, same⟩ := vals1 r
    cases same
    refine PySem.P.repr_of_bool ⟨.str _, H, I.tok _, ⟨s.toks, ?_⟩, h⟩
    cases b <;> rfl
  | [.str z], h =>
    obtain ⟨_, rfl, t, rfl⟩ := vals1 r
    exact PySem.P.repr_of_str ⟨.str _, H, I.tok _, ⟨_, rfl⟩, h.2⟩ h.1
  | [.ref a], h =>
    obtain ⟨_, rfl, same⟩ := vals1 r
    cases same
    obtain ⟨d, hd, hs, hn, hz, hl, q⟩ := h
    obtain ⟨as, rr⟩ := Dp.reads I d (.ref a) (.ref a) hd rfl
    exact repr_of_reads' rr hs (fun z => by rw [hn] at z; cases z) hA (by omega) (fun _ _ z => z) (fun h' u tk k => ⟨.str _, H, I.kept (t' := tk) k, ⟨_, rfl⟩, q⟩) hl
/-! ### methods of texts -/
def rSIdx : V → List V → Hp → VK → Prop := fun x xs H Q => ∃ (a b : Str) (k : Nat), x = .str a ∧ xs = [.str b] ∧ Txt.index0 a b = some k ∧ Q (.int (k : Nat)) H
theorem mt_sidx : MtR X "str.index" rSIdx := by
  intro ps s σ H x xs v us R I rx rs h
  obtain ⟨a, b, k, rfl, rfl, hk, q⟩ := h
  obtain ⟨t, rfl⟩ := rx
  obtain ⟨u, rfl, t', rfl⟩ := vals1 rs
  unfold Txt.index0 at hk
  generalize e : Builtin.Str.occurrences a b 0 a.length 1 = oc at hk
  match oc, e, hk with
  | i :: rest, e, hk =>
    have hk2 : i = k := Option.some.inj hk
    subst hk2
    exact PySem.SC.index e ⟨.int (i : Nat), H, I.tok _, ⟨_, rfl⟩, q⟩
def rTIdx (K : PySem.W.Frag) : V → List V → Hp → VK → Prop := fun x xs H Q => ∃ p, ∃ ys : List Str, ∃ z j, x = .ref p ∧ xs = [.str z] ∧ SqT K H p (ys.map V.str) ∧ ys[j]? = some z ∧ (∀ m, m < j → ys[m]? ≠ some z) ∧ Q (.int (j : Nat)) H
theorem mt_tidx : MtR X "tuple.index" (rTIdx X.K) := mt_tup_index
def rUpper : V → List V → Hp → VK → Prop := fun x xs H Q => ∃ a, x = .str a ∧ xs = [] ∧ a.length ≤ 5592405 ∧ Q (.str (Txt.upper a)) H
def rJoin (K : PySem.W.Frag) : V → List V → Hp → VK → Prop := fun x xs H Q => ∃ a p, ∃ ys : List Str, x = .str a ∧ xs = [.ref p] ∧ (SqL K H p (ys.map V.str) ∨ SqT K H p (ys.map V.str)) ∧ (ys.map (·.length)).sum + ys.length * a.length ≤ 16777216 ∧ Q (.str (Txt.join a ys)) H
/-- sep.join(e), one argument: told over the argument list -/
def tJoin (K : PySem.W.Frag) (to : TE) (te : TE) : TE := tM1 (rJoin K) to te
theorem pe_joinU (ho : PE X o te) {td : TE} (he : PE X e td) (hs : starEach [e] X.env = [(false, eval e X.env)] := by rfl) (hbase : attributeBase o "join" X.env (eval o X.env) = eval o X.env := by rfl) (hline : (apos.endLine == pos.line) = true := by rfl) :
    PE X (.Call (.Attribute o "join" apos) [e] [] pos) (tJoin X.K te td) := pe_join ho he hs hbase hline
theorem pe_upperU (ho : PE X o te) (hbase : attributeBase o "upper" X.env (eval o X.env) = eval o X.env := by rfl) (hline : (apos.endLine == pos.line) = true := by rfl) :
    PE X (.Call (.Attribute o "upper" apos) [] [] pos) (tM0 rUpper te) := pe_upper ho hbase hline
/-! ### list(..), tuple(..) -/
def strL (z : Str) : List V := z.cps.toList.map fun c => .str ⟨#[c]⟩
def uLst (K : PySem.W.Frag) : List V → Hp → VK → Prop := fun xs H Q => match xs with
  | [.ref p] => ∃ ys, (SqL K H p ys ∨ SqT K H p ys) ∧ ∀ l, H l = none → Q (.ref l) (upd H l (.lst ys))
  | [.str z] => z.length ≤ 100000 ∧ ∀ l, H l = none → Q (.ref l) (upd H l (.lst (strL z)))
  | _ => False
theorem vals_signs {z : Str} {acc : Array Value} (h : ItemsOf (SignAt z) acc z.cps.size) : Vals (strL z) acc.toList := by
  refine vals_of_at ?_ fun j x u hx hu => ?_
  · unfold strL
    rw [List.length_map, Array.length_toList, Array.length_toList, h.1]
  · unfold strL at hx
    rw [List.getElem?_map] at hx
    obtain ⟨c, hc, rfl⟩ := Option.map_eq_some_iff.mp hx
    obtain ⟨c', u', h1, h2⟩ := h.2 j u (by rw [← Array.getElem?_toList]; exact hu)
    rw [Array.getElem?_toList, h1] at hc
    cases hc
    exact ⟨u', h2⟩
theorem call_uLst (hc : X.calm = true) : CallR X (.type "list") (uLst X.K) := by
  intro ps s σ H xs us R I r h
  match xs, h with
  | [.ref p], ⟨ys, hs, q⟩ => exact call_list_of ps s σ H _ us R I r ⟨p, ys, rfl, hs, q⟩
  | [.str z], ⟨hz, q⟩ =>
    obtain ⟨_, rfl, t, rfl⟩ := vals1 r
    have hs := sizeLine_eq
    have hz' : z.cps.size ≤ 100000 := hz
    refine PySem.call_list_str (I.ok.hd hc) z t (fun h' tk acc c kp e it => ?_) (by omega)
    refine ⟨.ref s.heap.objs.size, _, I.laid (t' := tk) kp (Nat.le_refl _) (show ObjOk X.prog X.w _ h' _ (.lst (strL z)) from ⟨?_, acc.toList, c, vals_signs it, e⟩), rfl, q _ (I.hok.fresh (Nat.le_refl _))⟩
    unfold strL
    simp only [List.length_map, Array.length_toList]
    omega
def uTup (K : PySem.W.Frag) : List V → Hp → VK → Prop := fun xs H Q => match xs with
  | [.ref p] => ∃ ys, (SqL K H p ys ∧ ∀ l, H l = none → Q (.ref l) (upd H l (.tup ys))) ∨ (SqT K H p ys ∧ Q (.ref p) H)
  | [.str z] => z.length ≤ 100000 ∧ ∀ l, H l = none → Q (.ref l) (upd H l (.tup (strL z)))
  | _ => False
theorem call_uTup (hc : X.calm = true) : CallR X (.type "tuple") (uTup X.K) := by
  intro ps s σ H xs us R I r h
  match xs, h with
  | [.ref p], ⟨ys, h⟩ => exact call_tuple_of ps s σ H _ us R I r ⟨p, ys, rfl, h⟩
  | [.str z], ⟨hz, q⟩ =>
    obtain ⟨_, rfl, t, rfl⟩ := vals1 r
    have hs := sizeLine_eq
    have hz' : z.cps.size ≤ 100000 := hz
    refine PySem.call_tuple_str (I.ok.hd hc) z t (fun h' tk acc kp it => ?_) (by omega)
    have I1 := I.kept (h' := h') (t' := s.toks) kp
    have I2 : Inv X ps σ (upd H h'.objs.size (.tup (strL z))) { s with heap := h'.push { cls := .type "tuple", data := .seq acc }, toks := tk } :=
      I1.laid (t' := tk) (fun b o e => Heap.get?_push_of_some _ e) (Nat.le_refl _) (show ObjOk X.prog X.w _ _ _ (.tup (strL z)) from ⟨by
        unfold strL
        simp only [List.length_map, Array.length_toList]
        omega, acc.toList, vals_signs it, IsTup.new _ _⟩)
    refine ⟨.ref h'.objs.size, _, I2, rfl, ?_⟩
    exact q _ (I1.hok.fresh (Nat.le_refl _))
/-! ### what a for walks: a list or a tuple -/
def iSeq (K : PySem.W.Frag) (tl : TE) : TI := fun σ H R => iList K tl σ H R ∨ iTup K tl σ H R
theorem pi_seq {tg l : Expr} {tl : TE} (hl : PE X l tl) : PI X tg l (iSeq X.K tl) := by
  refine .mk ?_
  intro pins s σ H R I h
  rcases h with h | h
  · exact (pi_list hl).run pins s σ H R I h
  · exact (pi_tup hl).run pins s σ H R I h
def tTruth (K : PySem.W.Frag) (ta : TE) : TT := fun σ H Q => ta σ H fun x H' => ∃ k, TruV K x H' k ∧ Q k H'

end
end U
namespace U
open PySem PySem.Spec PyProof.Rows L2

/-! ### enumerate(text) -/
def IteS (z : Str) : It :=
  ⟨fun i _ => i < z.cps.size, fun i H v H' => ∃ T c, v = .ref T ∧ H T = none ∧ z.cps[i]? = some c ∧ H' = upd H T (.tup [.int (i : Nat), .str ⟨#[c]⟩]), fun i _ => i = z.cps.size⟩
/-- the text's own iterator at it, at its i-th sign -/
def SIt (it : Addr) (z : Str) (t : Tok) (i : Nat) (h : Heap) : Prop := h.IsStrIter it (strIterType z) z t i
theorem draws_str {P : Program} {w : World} {A : Around} (hh : A.handled = none) (it : Addr) (z : Str) (t : Tok) :
    Draws P w A it [it] z.cps.size (fun i v => ∃ c u, z.cps[i]? = some c ∧ v = .str ⟨#[c]⟩ u) (SIt it z t) := by
  unfold SIt strIterType
  split
  · exact Draws.strAscii hh it z t
  · exact Draws.strWide hh it z t
theorem turn_enumS {P : Program} {w : World} {K : PySem.W.Frag} {el : List Expr} {kk : Nat} {tp : Pos} (z : Str) (t : Tok) (e it : Addr) :
    Turn P w K (.Tuple el kk tp) (IteS z) [e, it] e (fun i h => (∃ old, IsEnum h e it ((i : Nat) : Int) old) ∧ SIt it z t i h ∧ e ≠ it) where
  mem := by simp
  obj := fun i h st b hb => by
    obtain ⟨⟨last, he⟩, itr, _⟩ := st
    obtain ⟨o, ho, hc, hd⟩ := itr
    rcases (show b = e ∨ b = it by simpa using hb) with q | q
    · subst q
      exact ⟨_, he, fun v q => nomatch q⟩
    · subst q
      exact ⟨o, ho, fun v q => by rw [hd] at q; cases q⟩
  keep := fun i h h' st k => by
    obtain ⟨⟨old, he⟩, ⟨o, ho, r⟩, ne⟩ := st
    exact ⟨⟨old, k e (by simp) _ he⟩, ⟨o, k it (by simp) o ho, r⟩, ne⟩
  item := by
    intro X hP hw hK hc
    intro i pins s σ H E I hf st hg
    subst hP hw hK
    obtain ⟨⟨old, he⟩, hit, ne⟩ := st
    have le := Heap.lt_size he
    have li : it < s.heap.objs.size := by
      obtain ⟨_, q, _⟩ := id hit
      exact Heap.lt_size q
    refine wpAny_pyNext_enum_itemD (draws_str (A := X.A.in1) (I.ok.hd hc) it z t) he hit hg ne (by simpa using ne) fun x h1 tk hx ho hit1 hT hz1 k1 => ?_
    obtain ⟨c, u, hcz, rfl⟩ := hx
    refine ⟨_, rfl, wpAny_letOwnedTupleGo_enum (s := { s with heap := h1, toks := tk + 1 }) ho fun h2 he2 sb => ?_⟩
    have T2 : h2.get? s.heap.objs.size = some { cls := .type "tuple", data := .seq #[.int i tk, .str ⟨#[c]⟩ u] } := (sb.2 _ (Nat.ne_of_gt le)).trans hT
    have new : ObjOk X.prog X.w (upd H s.heap.objs.size (.tup [.int (i : Nat), .str ⟨#[c]⟩])) h2 s.heap.objs.size (.tup [.int (i : Nat), .str ⟨#[c]⟩]) :=
      ⟨by show 2 ≤ sizeLine; decide, [.int i tk, .str ⟨#[c]⟩ u], .cons ⟨_, rfl⟩ (.cons ⟨_, rfl⟩ .nil), ⟨_, T2, rfl, _, rfl⟩⟩
    have I1 : Inv X pins σ (upd H s.heap.objs.size (.tup [.int (i : Nat), .str ⟨#[c]⟩])) { s with heap := h2, toks := tk + 1 } :=
      I.turnedNew (ch := [e, it]) (fun b ob hb q => (sb.2 b (fun y => hb (by simp [y]))).trans (k1 b ob (fun y => hb (by simp [y])) (fun y => hb (by simp [y])) q)) hf (Nat.le_refl _) new
    refine ⟨.ref s.heap.objs.size, _, I1, rfl, ⟨_, c, rfl, I.hok.fresh (Nat.le_refl _), hcz, rfl⟩, ⟨⟨.str ⟨#[c]⟩ u, ?_⟩, ?_, ne⟩, fun b hb => ?_⟩
    · rw [show ((i + 1 : Nat) : Int) = i + 1 by omega]
      exact he2
    · obtain ⟨o, q1, q2⟩ := hit1
      exact ⟨o, (sb.2 it (Ne.symm ne)).trans q1, q2⟩
    · have below : b < s.heap.objs.size := by
        rcases (show b = e ∨ b = it by simpa using hb) with q | q
        · rw [q]; exact le
        · rw [q]; exact li
      rw [upd_ne (Nat.ne_of_lt below)]
      exact (hf b hb).1
  done := by
    intro X hP hw hK hc
    intro i pins s σ H E I hf st hg
    subst hP hw hK
    obtain ⟨⟨old, he⟩, hit, ne⟩ := st
    obtain ⟨f0, f1, _, f3, f4, f5⟩ := hf it (by simp)
    have hi : i = z.cps.size := hg
    subst hi
    exact wpAny_pyNext_enum_endD (draws_str (A := X.A.in1) (I.ok.hd hc) it z t) he hit fun h' eb => ⟨rfl, I.turned (t' := s.toks) (fun b o hb q => eb b o hb q) f0 f1 f3 f4 f5⟩
  self := fun _ _ _ _ _ st h => by
    obtain ⟨⟨_, he⟩, _⟩ := st
    exact wpAny_pyIter_enum he h

def iEnumS (ta : TA) : TI := fun σ H R => ta σ H fun vs H1 => ∃ z, vs = [.str z] ∧ R (IteS z) H1
theorem pi_enumS {X : Cx} {e : Expr} {ta : TA} {p pos tpos : Pos} {elts : List Expr} {kk : Nat} (hg : Gl X "enumerate") (hm : X.mg "enumerate" = none) (ha : PA X [e] ta) (hs : starEach [e] X.env = [(false, eval e X.env)] := by rfl) :
    PI X (.Tuple elts kk tpos) (.Call (.Name "enumerate" p) [e] [] pos) (iEnumS ta) := by
  refine .mk ?_
  intro pins s σ H R I h
  refine Call_ (ld_blt I hg hm boot_enumerate (PyProof.Rows.callWith_type1 (thn (ha.run pos pins s σ H _ I h) fun us s1 z => ?_) hs rfl))
  obtain ⟨vs, H1, I1, r1, z, ex, q⟩ := z
  subst ex
  obtain ⟨u, rfl, t, rfl⟩ := vals1 r1
  refine PySem.call_enumerate_str fun h' he hit hsz hk => wpAny_pyIter_enum he ?_
  have I2 : Inv X pins σ H1 { s1 with heap := h' } := by
    exact I1.kept (t' := s1.toks) hk
  refine ⟨s1.heap.objs.size + 1, [s1.heap.objs.size + 1, s1.heap.objs.size], _, _, H1, rfl, I2, turn_enumS z t (s1.heap.objs.size + 1) s1.heap.objs.size, ⟨⟨.none, he⟩, hit, Nat.succ_ne_self _⟩, fun b hb => ?_, q⟩
  have hb2 : s1.heap.objs.size ≤ b := by
    rcases (show b = s1.heap.objs.size + 1 ∨ b = s1.heap.objs.size by simpa using hb) with q | q
    · exact q ▸ Nat.le_succ _
    · exact q ▸ Nat.le_refl _
  exact I1.fpOk hb2 (I1.hok.fresh hb2)
def iEnumU (K : PySem.W.Frag) (ta : TA) : TI := fun σ H R => iEnum K ta σ H R ∨ iEnumS ta σ H R
theorem pi_enumU {X : Cx} {e : Expr} {ta : TA} {p pos tpos : Pos} {elts : List Expr} {kk : Nat} (hg : Gl X "enumerate") (hm : X.mg "enumerate" = none) (ha : PA X [e] ta) (hs : starEach [e] X.env = [(false, eval e X.env)] := by rfl) :
    PI X (.Tuple elts kk tpos) (.Call (.Name "enumerate" p) [e] [] pos) (iEnumU X.K ta) := by
  refine .mk ?_
  intro pins s σ H R I h
  rcases h with h | h
  · exact (pi_enum hg hm ha hs).run pins s σ H R I h
  · exact (pi_enumS hg hm ha hs).run pins s σ H R I h
/-! ### comprehensions and loops, seen from their turns -/
/-- what an element does to the list under way at D -/
def Snoc (D : Addr) (N : Hp → Prop) : VK := fun y H => ∃ acc : List V, H D = some (.lst acc) ∧ acc.length < sizeLine ∧ N (upd H D (.lst (acc ++ [y])))
/-- one turn of a comprehension -/
def lcT (g : TG) (tt : TT) (te : TE) (vs : List Nat) (σ : L2.St) (D : Addr) (N : Hp → Prop) (x : V) (H : Hp) : Prop :=
  g x (wipe σ vs) H fun τ H2 => wipe τ vs = wipe σ vs ∧ tt τ H2 fun b H3 => if b = true then te τ H3 (Snoc D N) else N H3
/-- turns of an iterator to its end: B x H N is a turn behind which N holds -/
def Laps (J : It) (H0 : Hp) (fin : Hp → Prop) (B : V → Hp → (Hp → Prop) → Prop) : Prop :=
  ∃ W : Nat → Nat → Hp → Prop, (∃ m, W 0 m H0) ∧ ∀ (i m : Nat) (H : Hp), W i m H →
    (J.stop i H ∧ fin H) ∨ (J.go i H ∧ ∃ N : Hp → Prop, (∀ H', N H' → ∃ l, l < m ∧ W (i + 1) l H') ∧ ∀ x H', J.yld i H x H' → B x H' N)
def LcB (J : It) (g : TG) (tt : TT) (te : TE) (vs : List Nat) (σ : L2.St) (H : Hp) (D : Addr) (fin : Hp → Prop) : Prop :=
  Laps J (upd H D (.lst [])) fin fun x H' N => lcT g tt te vs σ D N x H'
/-- a comprehension over such pairs: Pv by the turn and the heap -/
theorem lc_enumS {z : Str} {g : TG} {tt : TT} {te : TE} {vs : List Nat} {σ : L2.St} {H1 : Hp} {D : Addr} {Qd : Hp → Prop} (Pv : Nat → Hp → Prop) (h0 : Pv 0 (upd H1 D (.lst [])))
    (hs : ∀ i c H T, z.cps[i]? = some c → Pv i H → H T = none → lcT g tt te vs σ D (Pv (i + 1)) (.ref T) (upd H T (.tup [.int (i : Nat), .str ⟨#[c]⟩])))
    (hd : ∀ H, Pv z.cps.size H → Qd H) : LcB (IteS z) g tt te vs σ H1 D Qd := by
  refine ⟨fun i m H => m = z.cps.size - i ∧ i ≤ z.cps.size ∧ Pv i H, ⟨z.cps.size, by simp, Nat.zero_le _, h0⟩, ?_⟩
  rintro i m H ⟨rfl, hi, p⟩
  by_cases lt : i < z.cps.size
  · refine .inr ⟨lt, Pv (i + 1), fun H' p' => ⟨z.cps.size - (i + 1), by omega, rfl, lt, p'⟩, fun x H' y => ?_⟩
    obtain ⟨T, c, rfl, hT, hc, rfl⟩ := y
    exact hs i c H T hc p hT
  · have e : i = z.cps.size := by omega
    subst e
    exact .inl ⟨rfl, hd H p⟩
theorem tLc_enumS {K : PySem.W.Frag} {ta : TA} {σ : L2.St} {g : TG} {tt : TT} {te : TE} {vs : List Nat} {Q : VK} {H : Hp} {z : Str} (h : ∀ R : List V → Hp → Prop, R [.str z] H → ta σ H R)
    (hc : ∀ D, H D = none → LcB (IteS z) g tt te vs σ H D (Q (.ref D))) : tLc (iEnumU K ta) g tt te vs σ H Q := .inr (h _ ⟨z, rfl, hc⟩)
end U
namespace U
open PySem PySem.Spec PyProof.Rows L2

/-! ### text[::-1] -/
def tRevS (te : TE) : TE := fun σ H Q => te σ H fun x H1 => ∃ z, x = .str z ∧ z.length ≤ sizeLine ∧ ∀ u, Q (.str (Txt.sliceBy z none none (-1, u))) H1
theorem pe_revS {X : Cx} {e : Expr} {te : TE} {k : Nat} {p1 p2 p3 pos : Pos} (he : PE X e te) : PE X (.Subscript e (.Slice none none (some (.UnaryOp .USub (.Constant (.int 1) k p1) p2)) p3) pos) (tRevS te) := by
  refine ⟨fun pins s σ H Q I h => ?_⟩
  refine Subscript_ (thn (he.run pins s σ H _ I h) fun v s1 z => ?_)
  obtain ⟨x, H1, I1, r1, y, ex, hz, q⟩ := z
  subst ex
  obtain ⟨t, rfl⟩ := r1
  have neg1 : PO X (some (.UnaryOp .USub (.Constant (.int 1) k p1) p2)) (tPart (tUn (rU fun i => .int (-i)) (tC (.int 1)))) := po_some (pe_un un_neg pe_int)
  rw [show eval (.Slice none none (some (.UnaryOp .USub (.Constant (.int 1) k p1) p2)) p3) X.env = eval (.Slice none none (some (.UnaryOp .USub (.Constant (.int 1) k p1) p2)) p3) X.env from rfl]
  refine wpAny_Slice ?_
  rw [evalPart_none]
  apply wpAny_pure
  apply wpAny_pure
  refine thn (neg1.run pins s1 σ H1 (fun o H4 => o = some (-1) ∧ H4 = H1) I1 ⟨1, rfl, -1, rfl, rfl, rfl⟩) fun vs s4 z => ?_
  obtain ⟨o, H4, I4, ps, eo, e4⟩ := z
  subst eo e4
  obtain ⟨l, el, em⟩ := IsPart.raw ps
  obtain ⟨u, rfl⟩ : ∃ u, l = some (-1, u) := by
    cases l with
    | none => cases em
    | some pr =>
      obtain ⟨a, u⟩ := pr
      have e2 : a = -1 := Option.some.inj em
      exact ⟨u, by rw [e2]⟩
  subst el
  refine tail_any (ops := [.ref s4.heap.objs.size, .str y t]) (typeIs_str _ _ _) F.slot_str_getitem.lookup
    (wpAny_getItem_str_slice (l := none) (u := none) (st := some (-1, u)) ⟨_, Heap.get?_push_size _ rfl, rfl, rfl⟩ rfl ?_) (by with_unfolding_all rfl)
  exact post_val_or_str ⟨Nat.le_trans (Txt.sliceBy_le y _ _ (-1, u) (by show (-1 : Int) ≠ 0; decide)) hz, fun t' c => ⟨.str (Txt.sliceBy y none none (-1, u)), H4, I4.kept (t' := c) fun b ob z => Heap.get?_push_of_some _ z, ⟨_, rfl⟩, q u⟩⟩
/-! ### raise C(e) of one's own exceptions, whose __init__ keeps one field -/
/-- what the written part says of such a class -/
def oexB (K : PySem.W.Frag) (C : Addr) : Bool := match K.lookup C with
  | some ⟨.type "type", dd, .cls cd, sl⟩ => (match cd.mro, sl.toList with
    | .ref C' :: bm, [_, _, _, _, some (.builtin n), _] => (C' == C && n == "ValueError.__new__") && (!cd.hasDel && cd.hasDict && PySem.HandSPX.refsVE bm)
    | _, _ => false)
  | _ => false
theorem oexB_ok {K : PySem.W.Frag} {C : Addr} (q : oexB K C = true) : ∃ nm qn N bs bm sn sub ab col dd k0 k1 k2 k3 k5, K.lookup C = some (excClassObj nm qn C N bs bm true sn sub ab col dd k0 k1 k2 k3 k5 "ValueError.__new__") ∧ PySem.HandSPX.refsVE bm = true := by
  unfold oexB at q
  split at q
  · rename_i dd cd sl ho
    split at q
    · rename_i own rest a0 a1 a2 a3 maker a5 order cells
      simp only [Bool.not_eq_true', beq_iff_eq, Bool.and_eq_true] at q
      obtain ⟨⟨eo, em⟩, ⟨nodel, dict1⟩, ground⟩ := q
      subst eo em
      obtain ⟨name, bases, line, space, qname, hasd, sl1, sl2, abst, coll, dels⟩ := cd
      dsimp only at order nodel dict1
      subst order nodel dict1
      have row : sl = #[a0, a1, a2, a3, some (.builtin "ValueError.__new__"), a5] := by
        obtain ⟨l⟩ := sl
        exact congrArg Array.mk cells
      subst row
      exact ⟨name, qname, space, bases, rest, sl1, sl2, abst, coll, dd, a0, a1, a2, a3, a5, ho, ground⟩
    · cases q
  · cases q
/-- all that the head tells of an exception class -/
def excB (K : PySem.W.Frag) (x f : Str) : Bool := oexB K (He.ga K x) && (He.eqO (PySem.W.findIn K (.ref (He.ga K x)) "__setattr__") (some (some (.builtin "object.__setattr__"))) && (decide (PySem.W.subIn K (.ref (He.ga K x)) (.type "BaseException") = some true) &&
  (decide (PySem.W.typeIn K (.ref (He.ga K x)) = some (.type "type")) && (PySem.W.keepIn K (.ref (He.ga K x)) && (He.eqO (PySem.W.findIn K (.ref (He.ga K x)) f) (some none) &&
  (He.eqO (PySem.W.findIn K (.ref (He.ga K x)) "__init__") (some (some (.ref (He.ma K (He.ga K x) "__init__")))) && decide (PySem.W.typeIn K (.ref (He.ma K (He.ga K x) "__init__")) = some (.type "function"))))))))
structure ExcT (K : PySem.W.Frag) (x f : Str) : Prop where
  oc : OexC K (He.ga K x)
  nf : PySem.W.findIn K (.ref (He.ga K x)) f = some none
  ini : PySem.W.findIn K (.ref (He.ga K x)) "__init__" = some (some (.ref (He.ma K (He.ga K x) "__init__")))
  fn : PySem.W.typeIn K (.ref (He.ma K (He.ga K x) "__init__")) = some (.type "function")
theorem excB_ok {K : PySem.W.Frag} {x f : Str} (h : excB K x f = true) : ExcT K x f := by
  unfold excB at h
  simp only [decide_eq_true_eq, Bool.and_eq_true] at h
  obtain ⟨h1, h2, h3, h4, h5, h6, h7, h8⟩ := h
  exact ⟨⟨oexB_ok h1, He.eqO_ok h2, h3, h4, h5⟩, He.eqO_ok h6, He.eqO_ok h7, h8⟩
/-- the exception's dict holds what it was made with -/
def spExc (f : Str) : Sp := fun vs H Q _ => ∃ (a C : Addr) (v : V), vs = [.ref a, v] ∧ H a = some (exo a C none) ∧ ∀ dx, H dx = none → dx ≠ a → Q .non (upd (upd H dx (exd dx [(f, v)])) a (exo a C (some dx)))
/-- the promise of its __init__ -/
def spExcI (K : PySem.W.Frag) (x f : Str) : Sp := fun vs H Q _ => ∃ (a : Addr) (v : V), vs = [.ref a, v] ∧ H a = some (exo a (He.ga K x) none) ∧ ∀ dx, H dx = none → dx ≠ a → Q .non (upd (upd H dx (exd dx [(f, v)])) a (exo a (He.ga K x) (some dx)))
theorem spExcI_len {K : PySem.W.Frag} {x f : Str} {n : Str} : ∀ vs H Q E, spExcI K x f vs H Q E → vs.length = (["self", n] : List Str).length := by
  intro vs H Q E h
  obtain ⟨a, v, rfl, _⟩ := h
  rfl
theorem read_excI {K : PySem.W.Frag} {x f : Str} (T : ExcT K x f) {vs : List V} {H : Hp} {Q : VK} {E : XK} (h : spExcI K x f vs H Q E) {n : Str} :
    tOst K f (tVar 0) (tVar 1) { nx := fun _ H' => Q .non H', rt := Q } (start ["self", n] vs) H := by
  obtain ⟨a, v, rfl, ha, q⟩ := h
  exact ⟨v, rfl, .ref a, rfl, a, He.ga K x, rfl, T.oc, T.nf, .inl ⟨ha, q⟩⟩
/-- an own exception class that may be raised -/
structure GoodX (P : Program) (w : World) (K : PySem.W.Frag) (mg : Str → Option Value) (base : Heap) (x f : Str) : Prop where
  fn : ∃ fd, FnOk P w K mg base (L2.CX P w) 1 (He.ma K (He.ga K x) "__init__") fd ["self", f] (spExcI K x f) ∧ Binds K fd ["self", f] []
  t : ExcT K x f
  mg : mg x = some (.ref (He.ga K x))
def tRse (K : PySem.W.Frag) (c f : Str) (E : XK) (ta : TA) : TS := fun _ σ H => tMkO (He.ga K c) (spExcI K c f) [] ta σ H fun cls d H' => E cls d H'
theorem back_one {H1 : Hp} {a dx : Addr} {fs : List (Str × V)} {o1 o2 o3 : HO} (ha : H1 a = none) (hne : dx ≠ a) : upd (del (upd (upd (upd H1 a o1) dx o2) a o3) a) dx (.xd fs) = upd H1 dx (.xd fs) := by
  funext b
  unfold upd del
  by_cases h1 : b = dx
  · rw [if_pos h1, if_pos h1]
  · rw [if_neg h1, if_neg h1]
    by_cases h2 : b = a
    · rw [if_pos h2, h2, ha]
    · simp only [if_neg h2, if_neg h1]
theorem ps_rse {X : Cx} {c f : Str} {E : XK} {e : Expr} {ta : TA} {p pos pos2 : Pos} (g : GoodX X.prog X.w X.K X.mg X.base c f) (hr : Room 2 X.A) (hc : X.calm = true) (tk : Takes X fun cls d _ H => E cls d H) (hg : Gl X c) (ha : PA X [e] ta)
    (hdb : (c == ("__debug__" : Str)) = false := by decide) (he : starEach [e] X.env = [(false, eval e X.env)] := by rfl) :
    PS X (.Raise (some (.Call (.Name c p) [e] [] pos)) none pos2) (tRse X.K c f E ta) := by
  obtain ⟨fd, F, hb⟩ := g.fn
  exact ps_raise hc tk (pmk_oex (es := []) g.t.oc g.t.ini g.t.fn F hr hb .nil passL hg g.mg ha hdb he)
/-- what is asked behind the argument of such a raise -/
theorem rse_of {K : PySem.W.Frag} {c f : Str} {E : XK} {v : V} {H1 : Hp} (h : ∀ d, H1 d = none → E (.ref (He.ga K c)) (some d) (upd H1 d (.xd [(f, v)]))) :
    [v].length ≤ 1000 ∧ ∀ a, H1 a = none → spExcI K c f (.ref a :: ([v] ++ [])) (upd H1 a (exo a (He.ga K c) none))
      (fun x H2 => x = .non ∧ ∃ (d : Addr) (fs : List (Str × V)), H2 a = some (exo a (He.ga K c) (some d)) ∧ H2 d = some (exd d fs) ∧ H1 d = none ∧ E (.ref (He.ga K c)) (some d) (upd (del H2 a) d (.xd fs))) (fun _ _ _ => False) := by
  refine ⟨by simp, fun a ha => ⟨a, v, rfl, upd_same, fun dx hd hne => ?_⟩⟩
  rw [upd_ne hne] at hd
  refine ⟨rfl, dx, [(f, v)], upd_same, ?_, hd, ?_⟩
  · rw [upd_ne hne, upd_same]
  · rw [back_one ha hne]
    exact h dx hd
end U
namespace U
open PySem PySem.Spec PyProof.Rows L2

/-! ### a def of the module, wherever it is called from -/
structure GoodO (P : Program) (w : World) (K : PySem.W.Frag) (mg : Str → Option Value) (base : Heap) (k : Nat) (x : Str) (ps : List Str) (sp : Sp) : Prop where
  fn : ∃ fd, FnOk P w K mg base (L2.CX P w) k (He.ga K x) fd ps sp ∧ Binds K fd ps []
  mg : mg x = some (.ref (He.ga K x))
  kp : PySem.W.keepIn K (.ref (He.ga K x)) = true
section
variable {X : Cx} {k : Nat} {x m : Str} {ps : List Str} {sp : Sp} {E : XK} {p pos apos : Pos} {e o : Expr} {es : List Expr} {ta : TE} {t : TA}
theorem tFn_eq (sp : Sp) (E : XK) (t : TA) : tCall sp [] E t = tFn sp E t := by
  unfold tCall tFn
  simp only [List.append_nil]
theorem pe_fo (g : GoodO X.prog X.w X.K X.mg X.base k x ps sp) (hr : Room k X.A) (hg : Gl X x) (hx : Passes (L2.CX X.prog X.w) X E)
    (hpl : (backTo pos (starEach es X.env)).any (·.1) = false := by rfl) (he : starEach (e :: es) X.env = (false, eval e X.env) :: starEach es X.env := by rfl) (ha : PA X (e :: es) t)
    (hdb : (x == ("__debug__" : Str)) = false := by decide) :
    PE X (.Call (.Name x p) (e :: es) [] pos) (tFn sp E t) := by
  obtain ⟨fd, F, hb⟩ := g.fn
  exact tFn_eq sp E t ▸ pe_call F hr hg g.mg g.kp hb .nil hx ha hdb he hpl
theorem pe_fo0 (g : GoodO X.prog X.w X.K X.mg X.base k x ps sp) (hr : Room k X.A) (hg : Gl X x) (hx : Passes (L2.CX X.prog X.w) X E)
    (hdb : (x == ("__debug__" : Str)) = false := by decide) : PE X (.Call (.Name x p) [] [] pos) (tFn sp E tNil) := by
  obtain ⟨fd, F, hb⟩ := g.fn
  exact tFn_eq sp E tNil ▸ pe_call0 F hr hg g.mg g.kp hb .nil hx hdb
end
/-! ### promises by the number of arguments -/
def sp1 (f : V → Hp → VK → XK → Prop) : Sp := fun vs H Q E => match vs with
  | [x] => f x H Q E
  | _ => False
def sp2 (f : V → V → Hp → VK → XK → Prop) : Sp := fun vs H Q E => match vs with
  | [x, y] => f x y H Q E
  | _ => False
def sp3 (f : V → V → V → Hp → VK → XK → Prop) : Sp := fun vs H Q E => match vs with
  | [x, y, z] => f x y z H Q E
  | _ => False
def sp4 (f : V → V → V → V → Hp → VK → XK → Prop) : Sp := fun vs H Q E => match vs with
  | [x, y, z, u] => f x y z u H Q E
  | _ => False
theorem sp1_len {f : V → Hp → VK → XK → Prop} {a : Str} : ∀ vs H Q E, sp1 f vs H Q E → vs.length = ([a] : List Str).length := fun vs H Q E h => match vs, h with
  | [_], _ => rfl
theorem sp2_len {f : V → V → Hp → VK → XK → Prop} {a b : Str} : ∀ vs H Q E, sp2 f vs H Q E → vs.length = ([a, b] : List Str).length := fun vs H Q E h => match vs, h with
  | [_, _], _ => rfl
theorem sp3_len {f : V → V → V → Hp → VK → XK → Prop} {a b c : Str} : ∀ vs H Q E, sp3 f vs H Q E → vs.length = ([a, b, c] : List Str).length := fun vs H Q E h => match vs, h with
  | [_, _, _], _ => rfl
theorem sp4_len {f : V → V → V → V → Hp → VK → XK → Prop} {a b c d : Str} : ∀ vs H Q E, sp4 f vs H Q E → vs.length = ([a, b, c, d] : List Str).length := fun vs H Q E h => match vs, h with
  | [_, _, _, _], _ => rfl
/-! ### kinds of values -/
inductive Ty where
  | non | bl | int | str | lst | tup | dct | yard
  deriving DecidableEq
def Ty.v (K : PySem.W.Frag) : Ty → Value
  | .non => .type "NoneType"
  | .bl => .type "bool"
  | .int => .type "int"
  | .str => .type "str"
  | .lst => .type "list"
  | .tup => .type "tuple"
  | .dct => .type "dict"
  | .yard => .ref (He.ga K "Yard")
def Ty.all : List Ty := [.non, .bl, .int, .str, .lst, .tup, .dct, .yard]
theorem Ty.mem_all (a : Ty) : a ∈ Ty.all := by cases a <;> decide
def Ty.sub (a b : Ty) : Bool := decide (a = b) || (decide (a = .bl) && decide (b = .int))
/-- a value of a kind -/
def Is (K : PySem.W.Frag) (H : Hp) (x : V) (a : Ty) : Prop := TyX K H x (a.v K)
/-- a tuple of the module without a dict -/
def tupO (K : PySem.W.Frag) (x : Str) : Bool := match K.lookup (He.ga K x) with
  | some o => decide (o.cls = .type "tuple") && o.dict.isNone
  | none => false
theorem tupO_ok {K : PySem.W.Frag} {x : Str} (h : tupO K x = true) (H : Hp) : tyV K "tuple" (.ref (He.ga K x)) H := by
  unfold tupO at h
  split at h
  · rename_i o ho
    simp only [Bool.and_eq_true, decide_eq_true_eq, Option.isNone_iff_eq_none] at h
    exact .inr (.inl ⟨rfl, o, ho, h.1, h.2⟩)
  · cases h
/-- what the head tells, whatever the law -/
def kfB (K : PySem.W.Frag) : Bool := (Ty.all.all fun a => Ty.all.all fun b => decide (PySem.W.kitOne K (a.v K) (b.v K) = some (a.sub b))) &&
  (He.tupB K "PLACES" [.str "a", .str "b", .str "c"] && (He.tupB K "WAYS" [.str "ab", .str "ac", .str "ba", .str "bc", .str "ca", .str "cb"] &&
  ((He.Fa.cls "Yard").ok K && ((He.Fa.noat "Yard" "_rows").ok K && (He.eqO (PySem.W.findIn K (.ref (He.ga K "Yard")) "__class__") (some (some (.builtin "object.__class__"))) &&
  (He.eqO (PySem.W.specialIn K (.builtin "object.__class__") "__get__") (some (some (.builtin "getset_descriptor.__get__"))) && (decide (PySem.W.takesIn K (.builtin "object.__class__") = some true) && (decide (PySem.W.mroIn K (He.ga K "Yard") (.type "object") = some true) && (tupO K "PLACES" && (tupO K "WAYS" && (He.Fa.noat "Yard" "_reckoning").ok K))))))))))
structure KF (K : PySem.W.Frag) : Prop where
  kit : ∀ a b : Ty, PySem.W.kitOne K (a.v K) (b.v K) = some (a.sub b)
  places : ∀ H, SqT K H (He.ga K "PLACES") [.str "a", .str "b", .str "c"]
  ways : ∀ H, SqT K H (He.ga K "WAYS") [.str "ab", .str "ac", .str "ba", .str "bc", .str "ca", .str "cb"]
  cl : Cls K (He.ga K "Yard")
  na : NoAttr K (He.ga K "Yard") "_rows"
  c1 : PySem.W.findIn K (.ref (He.ga K "Yard")) "__class__" = some (some (.builtin "object.__class__"))
  c2 : PySem.W.specialIn K (.builtin "object.__class__") "__get__" = some (some (.builtin "getset_descriptor.__get__"))
  c3 : PySem.W.takesIn K (.builtin "object.__class__") = some true
  c4 : PySem.W.mroIn K (He.ga K "Yard") (.type "object") = some true
  pO : ∀ H, tyV K "tuple" (.ref (He.ga K "PLACES")) H
  wO : ∀ H, tyV K "tuple" (.ref (He.ga K "WAYS")) H
  na2 : NoAttr K (He.ga K "Yard") "_reckoning"
theorem kfB_ok {K : PySem.W.Frag} (h : kfB K = true) : KF K := by
  unfold kfB at h
  simp only [decide_eq_true_eq, Bool.and_eq_true] at h
  obtain ⟨h1, h2, h3, h4, h5, h6, h7, h8, h9, h10, h11, h12⟩ := h
  refine ⟨fun a b => ?_, fun H => He.tupB_ok h2 H, fun H => He.tupB_ok h3 H, He.cls_ok h4, He.noat_ok h5, He.eqO_ok h6, He.eqO_ok h7, h8, h9, fun H => tupO_ok h10 H, fun H => tupO_ok h11 H, He.noat_ok h12⟩
  have := List.all_eq_true.mp (List.all_eq_true.mp h1 a a.mem_all) b b.mem_all
  exact of_decide_eq_true this
section
variable {K : PySem.W.Frag} {H : Hp} {x : V}
theorem is_non : Is K H .non .non := .base .non
theorem is_bl (b : Bool) : Is K H (.bl b) .bl := .base (.bl b)
theorem is_int (i : Int) : Is K H (.int i) .int := .base (.int i)
theorem is_str (z : Str) : Is K H (.str z) .str := .base (.str z)
theorem is_lst {p : Addr} {xs : List V} (h : H p = some (.lst xs)) : Is K H (.ref p) .lst := .base (.lst h)
theorem is_tup {p : Addr} {xs : List V} (h : H p = some (.tup xs)) : Is K H (.ref p) .tup := .base (.tup h)
theorem is_dct {p : Addr} {xs : List (Key × V)} (h : H p = some (.dK xs)) : Is K H (.ref p) .dct := .base (.dK h)
theorem is_sqL {p : Addr} {xs : List V} (h : SqL K H p xs) : Is K H (.ref p) .lst := by
  rcases h with (h | ⟨o, h⟩) | ⟨o, its, n, h, hc, _⟩
  · exact .base (.lst h)
  · exact .base (.frz h)
  · exact .kList h hc
theorem is_sqT {p : Addr} {xs : List V} (h : SqT K H p xs) : Is K H (.ref p) .tup := by
  rcases h with (h | ⟨o, h⟩) | ⟨o, its, n, h, hc, _⟩
  · exact .base (.tup h)
  · exact .fTuple h
  · exact .kTuple h hc
theorem is_yard (F : KF K) {p dx : Addr} {fs : List (Str × V)} (h : H p = some (.ins (He.ga K "Yard") dx fs)) : Is K H (.ref p) .yard := .base (.ins h F.cl F.c1 F.c2 F.c3 F.c4)
/-- only texts are texts, only integers are integers, and so on -/
theorem Is.str_inv (h : Is K H x .str) : ∃ z, x = .str z := by
  have key : ∀ t, TyX K H x t → t = .type "str" → ∃ z, x = .str z := by
    intro t h e
    cases h with
    | base b => cases b <;> first | exact ⟨_, rfl⟩ | (injection e with e; exact absurd e (by decide)) | cases e
    | _ => injection e with e; exact absurd e (by decide)
  exact key _ h rfl
theorem Is.int_inv (h : Is K H x .int) : ∃ z, x = .int z := by
  have key : ∀ t, TyX K H x t → t = .type "int" → ∃ z, x = .int z := by
    intro t h e
    cases h with
    | base b => cases b <;> first | exact ⟨_, rfl⟩ | (injection e with e; exact absurd e (by decide)) | cases e
    | _ => injection e with e; exact absurd e (by decide)
  exact key _ h rfl
theorem Is.bl_inv (h : Is K H x .bl) : ∃ z, x = .bl z := by
  have key : ∀ t, TyX K H x t → t = .type "bool" → ∃ z, x = .bl z := by
    intro t h e
    cases h with
    | base b => cases b <;> first | exact ⟨_, rfl⟩ | (injection e with e; exact absurd e (by decide)) | cases e
    | _ => injection e with e; exact absurd e (by decide)
  exact key _ h rfl
theorem Is.non_inv (h : Is K H x .non) : x = .non := by
  have key : ∀ t, TyX K H x t → t = .type "NoneType" → x = .non := by
    intro t h e
    cases h with
    | base b => cases b <;> first | rfl | (injection e with e; exact absurd e (by decide)) | cases e
    | _ => injection e with e; exact absurd e (by decide)
  exact key _ h rfl
theorem Is.ref_inv {a : Ty} (h : Is K H x a) (ha : a ≠ .non ∧ a ≠ .bl ∧ a ≠ .int ∧ a ≠ .str) : ∃ p, x = .ref p := by
  have key : ∀ t, TyX K H x t → t = a.v K → ∃ p, x = .ref p := by
    intro t h e
    cases h with
    | base b =>
      cases b <;> first
        | exact ⟨_, rfl⟩
        | (exfalso; cases a <;> first | exact ha.1 rfl | exact ha.2.1 rfl | exact ha.2.2.1 rfl | exact ha.2.2.2 rfl | (injection e with e; exact absurd e (by decide)) | cases e)
    | byt b => exfalso; cases a <;> first | (injection e with e; exact absurd e (by decide)) | cases e
    | _ => exact ⟨_, rfl⟩
  exact key _ h rfl
end
/-! ### heaps that keep what they have -/
theorem same_new {H : Hp} {p : Addr} {o : HO} (h : H p = none) : Same H (upd H p o) := fun b u e => by
  rw [upd_ne (ne_of_none e h)]
  exact e
theorem Same.sqT {K : PySem.W.Frag} {H H' : Hp} {a : Addr} {xs : List V} (e : Same H H') (h : SqT K H a xs) : SqT K H' a xs :=
  h.imp (Or.imp (e _ _) fun ⟨o, z⟩ => ⟨o, e _ _ z⟩) id
/-- a new object, its address and its heap by what is known of them -/
theorem new_of {H : Hp} {o : HO} {Q : VK} (h : ∀ p H', H p = none → Same H H' → H' p = some o → Q (.ref p) H') : ∀ p, H p = none → Q (.ref p) (upd H p o) := fun p hp => h p _ hp (same_new hp) upd_same
end U
namespace U
open PySem PySem.Spec PyProof.Rows L2

/-! ### the module's table of thirds -/
def thirds : List (Str × Str) := [("ab", "c"), ("ac", "b"), ("ba", "c"), ("bc", "a"), ("ca", "b"), ("cb", "a")]
def ThK (K : PySem.W.Frag) (w : World) : Prop := ∀ q ∈ thirds, KDct K w (He.ga K "THIRDS") q.1 (.str q.2)
def rThird (K : PySem.W.Frag) : R2 := fun x y H Q => ∃ z v, x = .ref (He.ga K "THIRDS") ∧ y = .str z ∧ (z, v) ∈ thirds ∧ Q (.str v) H
theorem ix_third {X : Cx} (h : ThK X.K X.w) : IxR X (rThird X.K) := by
  intro ea eb pins s σ H x y u v Q I rx ry q
  obtain ⟨z, t, rfl, rfl, hm, q⟩ := q
  exact ix_kdict ea eb pins s σ H _ _ u v Q I rx ry ⟨_, z, _, rfl, rfl, h _ hm, q⟩
def thB (K : PySem.W.Frag) : Bool := He.valsB K (He.ga K "THIRDS") (thirds.map fun q => (q.1, He.Dv.str q.2))
theorem thK_of {K : PySem.W.Frag} {w : World} (hd : ∃ es n, KDict K w (He.ga K "THIRDS") es n) (hv : thB K = true) : ThK K w := by
  obtain ⟨es, n, h1, h2, h3⟩ := hd
  intro q hq
  obtain ⟨u, e, r⟩ := He.valsB_ok hv (List.mem_map.mpr ⟨q, hq, rfl⟩)
  exact ⟨es, n, u, h1, h2, e, r⟩
end U
namespace U
open PySem PySem.Spec PyProof.Rows L2

/-! ### sorted(d.values()), fewer than 64 integers -/
def tSortVals (td : TE) : TE := fun σ H Q => td σ H fun x H1 => ∃ (d : Addr) (tab : List (Key × V)) (is : List Int), x = V.ref d ∧ H1 d = some (.dK tab) ∧ tab.map (·.2) = is.map V.int ∧ is.length < 64 ∧
  ∀ (ys : List Int) (l : Addr), H1 l = none → ys.Perm is → ys.Pairwise (· ≤ ·) → Q (.ref l) (upd H1 l (.lst (ys.map V.int)))
/-- the texts of the values of such a table are integers -/
theorem vals_int {tab : List (Key × V)} {raw : List (Key × Value)} {is : List Int} (rel : KV tab raw) (nums : tab.map (·.2) = is.map V.int) : raw.length = is.length ∧ ∀ (j : Nat) (v : Value), (∃ k, raw[j]? = some (k, v)) → ∃ (i : Int) (t : Tok), is[j]? = some i ∧ v = .int i t := by
  refine ⟨?_, fun j v ⟨k, hk⟩ => ?_⟩
  · have two : tab.length = is.length := by simpa using congrArg List.length nums
    exact (KV.length rel).symm.trans two
  · obtain ⟨x, atj, same⟩ := KV.at' rel hk
    have third : (tab.map (·.2))[j]? = some x := by simp [atj]
    rw [nums, List.getElem?_map] at third
    obtain ⟨i, hi, ex⟩ := Option.map_eq_some_iff.mp third
    subst ex
    obtain ⟨t, ev⟩ := same
    exact ⟨i, t, hi, ev⟩
theorem pe_sortVals {X : Cx} {o : Expr} {p pos apos mpos : Pos} {td : TE} (calm : X.calm = true) (glob : Gl X "sorted") (free : X.mg "sorted" = none) (hd : PE X o td)
    (base : attributeBase o "values" X.env (eval o X.env) = eval o X.env := by rfl) (line : (apos.endLine == mpos.line) = true := by rfl)
    (alone : starEach [.Call (.Attribute o "values" apos) [] [] mpos] X.env = [(false, eval (.Call (.Attribute o "values" apos) [] [] mpos) X.env)] := by rfl) :
    PE X (.Call (.Name "sorted" p) [.Call (.Attribute o "values" apos) [] [] mpos] [] pos) (tSortVals td) := by
  refine .mk ?_
  intro ps s σ H R I h
  apply wpAny_Call_Name_kw
  refine ld_blt I glob free (u := .builtin "sorted") (by decide +kernel) ?_ (by decide +kernel) (by decide +kernel)
  rw [alone]
  apply PySem.callWith_builtin1
  refine wpAny_Call_method0_late base line (thn (hd.run ps s σ H _ I h) ?_)
  rintro v s1 ⟨x, H1, I1, r1, d, tab, is, rfl, at_, nums, few, q⟩
  cases r1
  have ⟨_, notSys, raw, rel, of⟩ := dk_of I1.hok at_
  have ⟨ep, dict⟩ := of.dictAt
  have ⟨ob, _, got, kind, _⟩ := id dict
  have ⟨len, int⟩ := vals_int rel nums
  have fits : raw.length ≤ sizeLine := Nat.le_trans (Nat.le_of_lt (len ▸ few)) (show 64 ≤ sizeLine by decide)
  refine ⟨_, _, F.plainAttrs_dict, F.slot_dict_values, F.type_dict_values, ⟨ob, got, kind.1⟩, ?_, ?_⟩
  · intro b e
    injection e with e
    exact ⟨ob, e ▸ got, kind.2.1⟩
  refine Calls.callWith_builtin rfl (PySem.evalArgs_none ?_)
  refine call_meetsIn F.slot_dict_values ⟨ob, got, kind.1⟩ F.entry_dict_values (F.args_dict_values_1 _) (meets_dict_values (mixKind X.prog X.w) d notSys) ⟨⟨raw, of⟩, ?_⟩
  -- the view lies at the end of the heap
  have old : ∀ b u, s1.heap.get? b = some u → (s1.heap.push (Obj.mk (.type "dict_values") none (.fields #[.ref d]) #[])).get? b = some u := fun _ _ => Heap.get?_push_of_some _
  have view : (s1.heap.push (Obj.mk (.type "dict_values") none (.fields #[.ref d]) #[])).get? s1.heap.objs.size = some (Obj.mk (.type "dict_values") none (.fields #[.ref d]) #[]) := Heap.get?_push_size _ rfl
  have I2 := I1.kept (t' := s1.toks) old
  have dict2 := dict.keep old
  apply Calls.call_function_entry kind_sorted plain_sorted entry_sorted (args_sorted1 _)
  unfold Builtin.«sorted»
  refine wpAny_bind (m := checkCount _ 1 1 _) ?_
  apply wpAny_pure
  apply wpAny_bind
  refine PySem.W.kdu_collect (A := X.A.in1) (PySem.W.kdl_values (knd := mixKind X.prog X.w) (kvs := raw) (ep := ep) (d := d) (r := s1.heap.objs.size)) (I2.ok.hd calm) ⟨⟨_, view, rfl, rfl⟩, dict2⟩ fits ?_
  intro h2 tk acc kept each
  have len2 : acc.toList.length = is.length := by rw [Array.length_toList, each.1, len]
  have are : IntsAre acc.toList is := ints_each len2 fun j v e => int j v (each.2 j v (by rwa [← Array.getElem?_toList]))
  have I3 : Inv X ps σ H1 { s1 with heap := h2, toks := tk } := by exact I2.kept kept
  apply wpAny_bind
  refine wpAny_newList ?_ (Nat.le_trans (Nat.le_of_lt (len2 ▸ few)) (show 64 ≤ sizeLine by decide))
  have fresh : (h2.push (seqObj "list" acc.toList.toArray 0)).get? h2.objs.size = some (seqObj "list" acc.toList.toArray 0) := by exact Heap.get?_push_size _ rfl
  show wpAny _ _ _ _ _ { s1 with toks := tk, heap := h2.push (seqObj "list" acc.toList.toArray 0) }
  apply wpAny_bind
  apply wpAny_holding
  refine wpAny_call_entry slot_list_sort ⟨_, fresh, rfl⟩ entry_list_sort (list_sort_tree (s := { s1 with toks := tk, heap := h2.push (seqObj "list" acc.toList.toArray 0) }) fresh are (by rw [len2]; exact few) ?_) (args_list_sort _)
  intro out ys shown perm rising
  refine ⟨_, rfl, ?_⟩
  have ⟨cap, now⟩ := sortedHeap_at (vs := acc.toList) (out := out) fresh
  have short : (ys.map V.int).length ≤ sizeLine := by
    rw [List.length_map]
    exact Nat.le_trans (perm.length_eq ▸ Nat.le_of_lt few) (show 64 ≤ sizeLine by decide)
  apply wpAny_pure
  refine ⟨_, rfl, .ref h2.objs.size, _, I3.laid (o := .lst (ys.map V.int)) (t' := tk) ?_ (Nat.le_refl _) ⟨short, out.toList, cap, vals_of_ints shown, by rw [Array.toArray_toList]; exact now⟩, rfl, q ys _ (I3.hok.fresh (Nat.le_refl _)) perm rising⟩
  intro b u e
  have lt := Heap.lt_size e
  rw [sortedHeap_old (Nat.ne_of_lt lt) (size_push' _ _ ▸ Nat.lt_succ_of_lt lt)]
  exact Heap.get?_push_of_some _ (by exact e)
end U
namespace U
open PySem PySem.Spec PyProof.Rows L2

/-! ### len(set(text)) -/
/-- the unlike signs of a text, in the order in which they are met -/
def metS (l : List Nat) : List Nat := l.foldl (fun m c => if c ∈ m then m else m ++ [c]) []
theorem metS_snoc (l : List Nat) (c : Nat) : metS (l ++ [c]) = if c ∈ metS l then metS l else metS l ++ [c] := by
  unfold metS
  rw [List.foldl_append]
  rfl
def inM (l : List Nat) (t : Str) : Bool := l.any fun c => decide (t = ⟨#[c]⟩)
theorem inM_sign (l : List Nat) (c : Nat) : inM l ⟨#[c]⟩ = decide (c ∈ l) := by
  unfold inM
  rw [Bool.eq_iff_iff, List.any_eq_true, decide_eq_true_iff]
  constructor
  · rintro ⟨d, hd, e⟩
    have e := of_decide_eq_true e
    injection e with e
    have e2 : c = d := by simpa using congrArg Array.toList e
    exact e2 ▸ hd
  · exact fun h => ⟨c, h, decide_eq_true rfl⟩
theorem metS_le (l : List Nat) : (metS l).length ≤ l.length := by
  have key : ∀ (l m : List Nat), (l.foldl (fun m c => if c ∈ m then m else m ++ [c]) m).length ≤ m.length + l.length := by
    intro l
    induction l with
    | nil => intro m; exact Nat.le_refl _
    | cons c r ih =>
      intro m
      rw [List.length_cons, List.foldl_cons]
      refine Nat.le_trans (ih _) ?_
      split
      · omega
      · have e : (m ++ [c]).length = m.length + 1 := by simp
        omega
  have q := key l []
  rw [List.length_nil, Nat.zero_add] at q
  exact q
theorem setOf_in {P : Program} {w : World} {h h' : Heap} {D : Addr} {S S' : Str → Bool} {n n' : Nat} (q : h.SetOf (strKind P w) D S n) (k : ∀ o, h.get? D = some o → h'.get? D = some o) (e : ∀ t, S t = S' t) (en : n = n') : h'.SetOf (strKind P w) D S' n' := by
  obtain rfl : S = S' := funext e
  subst en
  obtain ⟨o, es, ep, tb, at_, more⟩ := q
  exact ⟨o, es, ep, tb, k o at_, more⟩
section
variable {P : Program} {w : World} {A : Around} {E : Value → Shared → Prop} {z : Str}
theorem signs_loop {R : Result → Shared → Prop} {it D : Addr} {fp wr : List Addr} {St : Nat → Heap → Prop} (W : Walks P w A.in1 it fp wr z.cps.size (SignAt z) St) (off : D ∉ fp) (few : z.cps.size + 1 < scanBound) :
    ∀ (k i : Nat) (s : Shared), i + k = z.cps.size → St i s.heap → s.heap.SetOf (strKind P w) D (inM (metS (z.cps.toList.take i))) (metS (z.cps.toList.take i)).length →
      (∀ h tk, (∀ b o, b ≠ D → b ∉ wr → s.heap.get? b = some o → h.get? b = some o) → h.SetOf (strKind P w) D (inM (metS z.cps.toList)) (metS z.cps.toList).length → R (.ok (.ret .none)) { s with heap := h, toks := tk }) →
      codeAny (model P w) A (.builtin "set.update.loop" ⟨[.ref D, .ref it], []⟩) R s := by
  have offw : D ∉ wr := fun m => off (W.sub _ m)
  intro k
  induction k with
  | zero =>
    intro i s hi st now fin
    obtain rfl : i = z.cps.size := hi
    refine codeAny_builtin (PyProof.Rows.F.entry_set_update_loop) (by
      rw [Around.under_plainId (PyProof.Rows.F.plain_set_update_loop) _]
      refine wpAny_bind (m := pyNext (.ref it)) (W.done s _ _ st fun h' tk' kept => ?_)
      refine wpAny_pure (fin h' tk' (fun b o _ nw e => kept b o nw e) ?_)
      rw [List.take_of_length_le (by rw [Array.length_toList]; exact Nat.le_refl _)] at now
      exact setOf_in now (fun o e => kept D o offw e) (fun _ => rfl) rfl)
  | succ k more =>
    intro i s hi st now fin
    have lt : i < z.cps.size := by omega
    refine codeAny_builtin (PyProof.Rows.F.entry_set_update_loop) (by
      rw [Around.under_plainId (PyProof.Rows.F.plain_set_update_loop) _]
      refine wpAny_bind (m := pyNext (.ref it)) (W.item i s _ _ lt st fun v h1 tk1 sign st1 kept => ?_)
      obtain ⟨c, u, hc, rfl⟩ := sign
      have now1 := setOf_in now (fun o e => kept D o offw e) (fun _ => rfl) rfl
      have short : (metS (z.cps.toList.take i)).length + 1 < scanBound := by
        have le1 := metS_le (z.cps.toList.take i)
        have le2 : (z.cps.toList.take i).length ≤ z.cps.size := by rw [List.length_take, Array.length_toList]; exact Nat.min_le_right _ _
        exact Nat.lt_of_le_of_lt (Nat.add_le_add_right (Nat.le_trans le1 le2) 1) few
      have hc' : z.cps.toList[i]? = some c := by rw [Array.getElem?_toList]; exact hc
      refine wpAny_bind (m := holding [Value.str ⟨#[c]⟩ u] (setAdd D (.str ⟨#[c]⟩ u))) (wpAny_holding ?_)
      refine wpAny_holding (m := _) (wpAny_bind ((strKind P w).pyHash (k := (⟨#[c]⟩ : Str)) (by exact strKind_is _ _ _ _) ?_))
      refine wpAny_setAddHashed_of (s := { s with heap := h1, toks := tk1 + 1 }) (knd := strKind P w) (by exact strKind_is _ _ _ _) rfl now1 short fun h2 but now2 => ?_
      have now3 : h2.SetOf (strKind P w) D (inM (metS (z.cps.toList.take (i + 1)))) (metS (z.cps.toList.take (i + 1))).length := by
        rw [List.take_succ, hc', Option.toList_some, metS_snoc]
        refine setOf_in now2 (fun o e => e) (fun t => ?_) ?_
        · by_cases m : c ∈ metS (z.cps.toList.take i)
          · rw [if_pos m]
            by_cases e : t = ⟨#[c]⟩
            · subst e
              rw [inM_sign, decide_eq_true m]
              rfl
            · rw [decide_eq_false e, Bool.or_false]
          · rw [if_neg m]
            simp only [inM, List.any_append, List.any_cons, List.any_nil, Bool.or_false]
        · rw [inM_sign]
          by_cases m : c ∈ metS (z.cps.toList.take i)
          · simp only [m, decide_true, if_true]
          · simp only [m, decide_false, if_false, List.length_append, List.length_singleton]
            rfl
      refine wpAny_pure ⟨plainId_quiet (PyProof.Rows.F.plain_set_update_loop) _, more (i + 1) _ (by omega) (W.frame _ h1 _ st1 fun b hb o e => ?_) now3 fun h3 tk3 kept3 now4 => ?_⟩
      · rw [but.2 b fun e : b = D => off (e ▸ hb)]
        exact e
      · refine fin h3 tk3 (fun b o nD nw e => kept3 b o nD nw ?_) now4
        rw [but.2 b nD]
        exact kept b o nw e)
theorem str_no_set : pure false = isSubtype (.type "str") (.type "set") := by rw [isSubtype_type]; kernel_rfl
theorem sub_str_fz : isSubtype (.type "str") (.type "frozenset") = pure false := by rw [isSubtype_type]; kernel_rfl
local macro_rules | `(tactic| walk_at "g") => `(tactic| repeat (any_goals (first | assumption | wp_step)))
theorem set_text {u : Tok} {s : Shared} {Q : Value → Shared → Prop} (calm : A.handled = none) (few : z.cps.size + 1 < scanBound)
    (h : ∀ (h' : Heap) (tk : Nat), h'.SetOf (strKind P w) s.heap.objs.size (inM (metS z.cps.toList)) (metS z.cps.toList).length → (∀ b o, s.heap.get? b = some o → h'.get? b = some o) → Q (.ref s.heap.objs.size) { s with heap := h', toks := tk }) :
    wpAny (model P w) A (call (.type "set") [.str z u]) Q E s := by
  obtain ⟨cd, rest, mro⟩ := PySem.F.called_set.mro
  have made := PySem.F.called_set.made; have sub := PySem.F.called_set.sub; have f1 := PySem.F.called_set.notType
  have f2 := PySem.F.called_set.canCreate; have f3 := PySem.F.typeCall_set_1 (.str z u)
  refine wpAny_call (M := model P w) (codeAny_of_tree ?_); show wpAny _ _ (callAny (.type "set") _) _ _ _
  refine wpAny_pure ⟨Code.quiet_builtin _ (by decide +kernel), codeAny_builtin (PySem.F.entry_type_call) ?_⟩
  rw [Around.under_plain (weight_type_call_type "set" [.str z u] []) rfl]
  walk_at "g"
  refine codeAny_mono (code_set_new_1 (.str z u) (E := E) (Q₁ := fun ob s1 => ∃ led : Bool, ob = .ref s.heap.objs.size ∧ s1 = { s with heap := s.heap.push { cls := .type "set", dict := none, data := .set #[] 0 (.fresh 0 0 led) } }) fun led => ⟨led, rfl, rfl⟩) fun r s1 hr => ?_
  match r, hr with
  | .error e, hr => exact hr
  | .ok .next, hr => exact hr.elim
  | .ok .brk, hr => exact hr.elim
  | .ok .cont, hr => exact hr.elim
  | .ok (.ret ob), hr =>
    obtain ⟨led, rfl, rfl⟩ := hr
    have new : (s.heap.push { cls := .type "set", dict := none, data := .set #[] 0 (.fresh 0 0 led) }).get? s.heap.objs.size = some { cls := .type "set", dict := none, data := .set #[] 0 (.fresh 0 0 led) } := Heap.get?_push_size _ rfl
    have ty : Shared.TypeIs { s with heap := s.heap.push { cls := .type "set", dict := none, data := .set #[] 0 (.fresh 0 0 led) } } (.ref s.heap.objs.size) "set" := ⟨_, new, rfl⟩
    have g1 := PySem.F.called_set.init.lookup; have g2 := PySem.F.called_set.init.bind (.ref s.heap.objs.size)
    walk_at "g"
    refine codeAny_mono (codeAny_call_builtin (R := wants (fun r s2 => r = .none ∧ ∃ h' tk, s2 = { s with heap := h', toks := tk } ∧ h'.SetOf (strKind P w) s.heap.objs.size (inM (metS z.cps.toList)) (metS z.cps.toList).length ∧ ∀ b o, s.heap.get? b = some o → h'.get? b = some o) E)
      PySem.F.called_set.init.plain PySem.F.entry_set_init (check_set_init_1 ty ?_)) fun r2 s2 hr2 => ?_
    · have k1 := str_no_set.symm; have k2 := sub_str_fz
      have k3 : (Value.type "str" == Value.type "dict") = false := by decide
      unfold Builtin.«set.__init__» Builtin.Frozenset.updateFrom noKeywords
      generalize walkOf : pyIter = PI
      wp_walk
      subst walkOf
      refine wpAny_pyIter_str fun o St W st0 => wpAny_bind (wpAny_runValue ?_)
      have ne : s.heap.objs.size ∉ [(s.heap.push { cls := .type "set", dict := none, data := .set #[] 0 (.fresh 0 0 led) }).objs.size] := by
        rw [Heap.size_push, List.mem_singleton]
        exact Nat.ne_of_lt (Nat.lt_succ_self _)
      refine signs_loop (W _ (by simp [calm])) ne few z.cps.size 0 _ (Nat.zero_add _) st0 ?_ fun h2 tk2 kept now => ?_
      · exact setOf_in ((setObjOf_fresh (knd := strKind P w) led).setOf (Heap.get?_push_of_some _ new) (by unfold scanBound; omega)) (fun o e => e) (fun _ => rfl) rfl
      · show wpAny _ _ _ _ _ _
        refine wpAny_pure ?_
        change wpAny _ _ (ret Value.none) _ _ _
        refine wpAny_pure ⟨rfl, h2, tk2, rfl, now, fun b o' e => ?_⟩
        have lt := Heap.lt_size e
        refine kept b o' (Nat.ne_of_lt lt) ?_ (Heap.get?_push_of_some _ (Heap.get?_push_of_some _ e))
        rw [Heap.size_push, List.mem_singleton]
        exact Nat.ne_of_lt (Nat.lt_succ_of_lt lt)
    · match r2, hr2 with
      | .error e, hr2 => exact hr2
      | .ok .next, hr2 => exact hr2.elim
      | .ok .brk, hr2 => exact hr2.elim
      | .ok .cont, hr2 => exact hr2.elim
      | .ok (.ret ob), hr2 =>
        obtain ⟨rfl, h', tk, rfl, now, kept⟩ := hr2
        walk_at "g"
        exact h _ _ now kept
end
section
variable {X : Cx} {p p2 q pos : Pos} {a : Expr} {ta : TE}
def tLenSet (ta : TE) : TE := fun σ H Q => ta σ H fun x H1 => ∃ z : Str, x = .str z ∧ z.length ≤ 4000 ∧ Q (.int ((metS z.cps.toList).length : Nat)) H1
theorem pe_lenSet (calm : X.calm = true) (gl : Gl X "len") (free : X.mg "len" = none) (gl2 : Gl X "set") (free2 : X.mg "set" = none) (ha : PE X a ta)
    (alone : starEach [a] X.env = (false, eval a X.env) :: starEach [] X.env := by rfl) : PE X (.Call (.Name "len" p) [.Call (.Name "set" p2) [a] [] q] [] pos) (tLenSet ta) := by
  refine .mk ?_
  intro ps s σ H R I h
  refine Call_ (ld_blt I gl free boot_len (callWith_builtin1 (args_cons ?_ rfl) rfl rfl))
  refine Call_ (ld_blt I gl2 free2 boot_set (callWith_type1 (args_cons (thn (ha.run ps s σ H _ I h) fun v s1 out => args_nil ?_) alone) alone rfl))
  obtain ⟨x, H1, I1, rx, z, rfl, hz, want⟩ := out
  obtain ⟨u, rfl⟩ := rx
  have hz' : z.cps.size ≤ 4000 := hz
  have le : (metS z.cps.toList).length ≤ z.cps.size := Nat.le_trans (metS_le z.cps.toList) (by rw [Array.length_toList]; exact Nat.le_refl _)
  refine set_text (I1.ok.hd calm) (by unfold scanBound; omega) fun h' tk now kept => args_nil ?_
  obtain ⟨o, es, ep, tb, at_, ex, dat, _, _, _, fit, num⟩ := now
  have I2 : Inv X ps σ H1 { s1 with heap := h', toks := tk } := I1.kept fun b o e => kept b o e
  exact call_len_set at_ ex dat fit (by rw [num]; omega) ⟨.int (metS z.cps.toList).length, H1, I2.tok _, ⟨_, by rw [num]⟩, want⟩
end
end U
namespace U
open PySem PySem.Spec PyProof.Rows L2

/-! ### the module's table of columns -/
def columns : List (Str × Int) := [("ab", 0), ("ac", 1), ("ba", 2), ("bc", 3), ("ca", 4), ("cb", 5)]
def ColK (K : PySem.W.Frag) (w : World) : Prop := ∀ q ∈ columns, KDct K w (He.ga K "COLUMNS") q.1 (.int q.2)
def rCol (K : PySem.W.Frag) : R2 := fun x y H Q => ∃ z v, x = .ref (He.ga K "COLUMNS") ∧ y = .str z ∧ (z, v) ∈ columns ∧ Q (.int v) H
theorem ix_col {X : Cx} (h : ColK X.K X.w) : IxR X (rCol X.K) := by
  intro ea eb pins s σ H x y u v Q I rx ry q
  obtain ⟨z, t, rfl, rfl, hm, q⟩ := q
  exact ix_kdict ea eb pins s σ H _ _ u v Q I rx ry ⟨_, z, _, rfl, rfl, h _ hm, q⟩
def colB (K : PySem.W.Frag) : Bool := He.valsB K (He.ga K "COLUMNS") (columns.map fun q => (q.1, He.Dv.int q.2))
theorem colK_of {K : PySem.W.Frag} {w : World} (hd : ∃ es n, KDict K w (He.ga K "COLUMNS") es n) (hv : colB K = true) : ColK K w := by
  obtain ⟨es, n, h1, h2, h3⟩ := hd
  intro q hq
  obtain ⟨u, e, r⟩ := He.valsB_ok hv (List.mem_map.mpr ⟨q, hq, rfl⟩)
  exact ⟨es, n, u, h1, h2, e, r⟩
/-! ### text.strip(signs), text.rfind(sign) -/
def rStrip : V → List V → Hp → VK → Prop := fun x xs H Q => ∃ a b, x = .str a ∧ xs = [.str b] ∧ a.length ≤ sizeLine ∧ Q (.str (Txt.stripChars a b)) H
theorem mt_stripU {X : Cx} : MtR X "str.strip" rStrip := mt_stripChars
def rRfind : V → List V → Hp → VK → Prop := fun x xs H Q => ∃ a b, x = .str a ∧ xs = [.str b] ∧ Q (.int (Txt.rfind a b)) H
theorem mt_rfindU {X : Cx} : MtR X "str.rfind" rRfind := mt_rfind
theorem tw_mem {g : Nat → Bool} {l : List Nat} {x : Nat} (h : x ∈ l.takeWhile g) : g x = true := by
  induction l with
  | nil => cases h
  | cons a r ih =>
    rw [List.takeWhile_cons] at h
    split at h
    · rename_i e
      rcases List.mem_cons.mp h with rfl | hr
      · exact e
      · exact ih hr
    · cases h
theorem dw_nil {g : Nat → Bool} {l : List Nat} (h : ∀ x ∈ l, g x = true) : l.dropWhile g = [] := by
  induction l with
  | nil => rfl
  | cons a r ih =>
    rw [List.dropWhile_cons, if_pos (h a List.mem_cons_self)]
    exact ih fun x m => h x (List.mem_cons_of_mem _ m)
theorem strip_nil (a b : Str) : Txt.stripChars a b = "" ↔ ∀ c ∈ a.cps.toList, b.cps.contains c = true := by
  unfold Txt.stripChars
  rw [PySem.W.stripBy_eq]
  show Builtin.Str.strSub a (stripLo b.cps.contains true a) (stripHi b.cps.contains true a (stripLo b.cps.contains true a)) = "" ↔ _
  have el : stripLo b.cps.contains true a = (a.cps.toList.takeWhile b.cps.contains).length := rfl
  have eh : stripHi b.cps.contains true a (stripLo b.cps.contains true a) = a.length - ((a.cps.toList.drop (stripLo b.cps.contains true a)).reverse.takeWhile b.cps.contains).length := rfl
  have en : a.length = a.cps.toList.length := by show a.cps.size = _; simp
  rw [eh, el, en, strSub_mk]
  generalize a.cps.toList = L
  generalize b.cps.contains = g
  have e0 : ∀ l : List Nat, (⟨l.toArray⟩ : Str) = "" ↔ l = [] := fun l => by
    constructor
    · intro h
      have h2 : l.toArray = (#[] : Array Nat) := congrArg Str.cps h
      exact congrArg Array.toList h2
    · rintro rfl
      rfl
  rw [e0]
  have hd : L = L.takeWhile g ++ L.dropWhile g := (List.takeWhile_append_dropWhile).symm
  have e1 : L.drop (L.takeWhile g).length = L.dropWhile g := by
    conv => lhs; rw [hd]
    rw [List.drop_append_of_le_length (by simp), List.drop_of_length_le (by simp), List.nil_append]
  have hl : L.length = (L.takeWhile g).length + (L.dropWhile g).length := by
    conv => lhs; rw [hd]
    exact List.length_append
  rw [e1]
  constructor
  · intro h
    cases hD : L.dropWhile g with
    | nil =>
      rw [hD, List.append_nil] at hd
      intro c hc
      rw [hd] at hc
      exact tw_mem hc
    | cons d r =>
      exfalso
      have hgd : g d = false := by
        have := List.head?_dropWhile_not g L
        rw [hD] at this
        simpa using this
      have hlt : ((d :: r).reverse.takeWhile g).length ≤ r.length := by
        rw [List.reverse_cons]
        have hle := (List.takeWhile_prefix (p := g) (l := r.reverse ++ [d])).length_le
        rcases Nat.lt_or_ge ((r.reverse ++ [d]).takeWhile g).length (r.length + 1) with q | q
        · omega
        · have pe := (List.takeWhile_prefix (p := g) (l := r.reverse ++ [d])).eq_of_length (by simp at hle ⊢; omega)
          have hm : d ∈ (r.reverse ++ [d]).takeWhile g := by rw [pe]; simp
          rw [tw_mem hm] at hgd
          cases hgd
      rw [hD] at h hl
      rw [List.take_eq_nil_iff] at h
      rcases h with h | h
      · rw [List.length_cons] at hl
        omega
      · cases h
  · intro h
    have : L.dropWhile g = [] := dw_nil h
    rw [this]
    simp
end U
namespace U
open PySem PySem.Spec PyProof.Rows L2

/-! ### xs[k] += n -/
def rGetN : V → V → Hp → VK → Prop := fun x y H Q => ∃ (p : Addr) (xs : List V) (k : Nat) (v : V), x = .ref p ∧ y = .int (k : Nat) ∧ H p = some (.lst xs) ∧ xs[k]? = some v ∧ Q v H
theorem pget_listN {X : Cx} : PGet X rGetN := by
  intro pins s σ H o i ov iv Q I r1 r2 h
  obtain ⟨p, xs, k, v, rfl, rfl, hq, he, q⟩ := h
  cases r1
  obtain ⟨t, rfl⟩ := r2
  obtain ⟨its, r, pl, hz⟩ := I.list (show SqL X.K H p xs from .inl (.inl hq))
  obtain ⟨w, ew, rw'⟩ := r.get he
  have hl := r.length
  have hn := line63
  have lt : k < its.length := (List.getElem?_eq_some_iff.mp ew).1
  exact wpAny_getItem_list pl.isList (Int.natCast_nonneg k) (by omega) (by simpa using ew) ⟨v, H, I, rw', q⟩
/-! ### zip(list, tuple) -/
def ItzM (K : PySem.W.Frag) (a b : Addr) : It :=
  ⟨fun i H => ∃ xs ys x y, SqL K H a xs ∧ (SqT K H b ys ∧ (xs[i]? = some x ∧ ys[i]? = some y)),
    fun i H v H' => ∃ T x y, v = .ref T ∧ (H T = none ∧ (H' = upd H T (.tup [x, y]) ∧ ((∀ xs, SqL K H a xs → xs[i]? = some x) ∧ ∀ ys, SqT K H b ys → ys[i]? = some y))),
    fun i H => ∃ xs ys, SqL K H a xs ∧ (SqT K H b ys ∧ (i ≤ xs.length ∧ (i ≤ ys.length ∧ (i = xs.length ∨ i = ys.length))))⟩
/-- the five cells of such a zip, and the two that it reads -/
structure ZCells (z TI TO i1 i2 a b : Addr) : Prop where
  n1 : TI ≠ z
  n2 : TO ≠ z
  n3 : TI ≠ TO
  n4 : TI ≠ i1
  n5 : TI ≠ i2
  n6 : z ≠ i1
  n7 : z ≠ i2
  n8 : TO ≠ i1
  n9 : TO ≠ i2
  n10 : i1 ≠ i2
  a1 : a ≠ z
  a2 : a ≠ TO
  a3 : a ≠ i1
  a4 : a ≠ i2
  b1 : b ≠ z
  b2 : b ≠ TO
  b3 : b ≠ i1
  b4 : b ≠ i2
theorem ZCells.sep {z TI TO i1 i2 a b : Addr} (c : ZCells z TI TO i1 i2 a b) : ZipSep2 z TI TO i1 i2 [i1, a] [i2, b] where
  TIz := c.n1
  TOz := c.n2
  TITO := c.n3
  TIi1 := c.n4
  mem1 := List.mem_cons_self
  zf1 := by simp [c.n6, c.a1.symm]
  Tf1 := by simp [c.n8, c.a2.symm]
  TIi2 := c.n5
  mem2 := List.mem_cons_self
  zf2 := by simp [c.n7, c.b1.symm]
  Tf2 := by simp [c.n9, c.b2.symm]
  sep1_2 := by simp [c.n10, c.b3.symm]
  sep2_1 := by simp [c.n10.symm, c.a4.symm]
theorem zcells_new (n a b : Nat) (la : a < n) (lb : b < n) : ZCells (n + 4) (n + 2) (n + 3) n (n + 1) a b := by
  constructor <;> (show ¬ ((_ : Nat) = _)) <;> omega
theorem five {z TI TO i1 i2 q : Addr} (h : q ∈ [z, TI, TO, i1, i2]) : q = z ∨ (q = TI ∨ (q = TO ∨ (q = i1 ∨ q = i2))) := by simpa using h
theorem turn_zipM {P : Program} {w : World} {K : PySem.W.Frag} {el : List Expr} {kk : Nat} {tp : Pos} {a b z TI TO i1 i2 : Addr} (C : ZCells z TI TO i1 i2 a b) :
    Turn P w K (.Tuple el kk tp) (ItzM K a b) [z, TI, TO, i1, i2] z (fun i h => IsZip h z TI TO .none ∧ (IsTupOf2 h TI (.ref i1) (.ref i2) ∧ ((∃ x y, IsTupOf2 h TO x y) ∧ (h.IsListIter i1 a i ∧ h.IsTupleIter i2 b i)))) where
  mem := by simp
  obj := fun i h st c hc => by
    obtain ⟨g1, g2, ⟨u, v, g3⟩, ⟨o1, e1, _, d1⟩, ⟨o2, e2, _, d2⟩⟩ := st
    rcases five hc with q | q | q | q | q <;> rw [q]
    · exact ⟨_, g1, fun v q => nomatch q⟩
    · exact ⟨_, g2, fun v q => nomatch q⟩
    · exact ⟨_, g3, fun v q => nomatch q⟩
    · refine ⟨o1, e1, fun v q => ?_⟩
      rw [d1] at q
      cases q
    · refine ⟨o2, e2, fun v q => ?_⟩
      rw [d2] at q
      cases q
  keep := fun i h h' st k => by
    obtain ⟨g1, g2, ⟨u, v, g3⟩, g4, g5⟩ := st
    exact ⟨k _ (by simp) _ g1, k _ (by simp) _ g2, ⟨u, v, k _ (by simp) _ g3⟩, g4.at fun o y => k _ (by simp) o y, g5.at fun o y => k _ (by simp) o y⟩
  item := by
    intro X hP hw hK hc
    intro i pins s σ H E I hf st hg
    subst hP hw hK
    obtain ⟨g1, g2, ⟨x0, y0, g3⟩, g4, g5⟩ := st
    obtain ⟨xs, ys, x, y, qx, qy, hx, hy⟩ := hg
    obtain ⟨us, r1, p1, _⟩ := I.list qx
    obtain ⟨vs, r2, p2, _⟩ := I.tuple qy
    obtain ⟨u, hu, ru⟩ := r1.get hx
    obtain ⟨v, hv, rv⟩ := r2.get hy
    have zl : z < s.heap.objs.size := Heap.lt_size g1
    have D1 := Draws.list (prog := X.prog) (w := X.w) (A := X.A.in1) (I.ok.hd hc) i1 a C.a3 us.toArray
    have D2 := Draws.tuple (prog := X.prog) (w := X.w) (A := X.A.in1) (I.ok.hd hc) i2 b C.b4 vs.toArray
    have lu : i < us.toArray.size := by simpa using (List.getElem?_eq_some_iff.mp hu).1
    have lv : i < vs.toArray.size := by simpa using (List.getElem?_eq_some_iff.mp hv).1
    refine wpAny_pyNext_zipD2_item C.sep D1 D2 g1 g2 g3 ⟨g4, p1.isList⟩ ⟨g5, p2⟩ lu lv fun x1 x2 h1 tk ex ey z1 t1 s1 s2 hT hsz hk => ?_
    obtain rfl : x1 = u := by
      have ex : us.toArray[i]? = some x1 := ex
      simp [hu] at ex
      exact ex.symm
    obtain rfl : x2 = v := by
      have ey : vs.toArray[i]? = some x2 := ey
      simp [hv] at ey
      exact ey.symm
    refine ⟨_, rfl, wpAny_letOwnedTupleGo_zip (s := { s with heap := h1, toks := tk }) z1 fun h2 z2 sb => ?_⟩
    have T2 : h2.get? s.heap.objs.size = some { cls := .type "tuple", data := .seq #[x1, x2] } := (sb.2 _ (Nat.ne_of_gt zl)).trans hT
    have new : ObjOk X.prog X.w (upd H s.heap.objs.size (.tup [x, y])) h2 s.heap.objs.size (.tup [x, y]) := ⟨by show 2 ≤ sizeLine; decide, [x1, x2], .cons ru (.cons rv .nil), ⟨_, T2, rfl, _, rfl⟩⟩
    have k2 : ∀ c o, c ≠ z → c ≠ TO → c ≠ i1 → c ≠ i2 → s.heap.get? c = some o → h2.get? c = some o := fun c o c1 c2 c3 c4 e => (sb.2 c c1).trans (hk c o c1 c2 c3 c4 e)
    have I1 : Inv X pins σ (upd H s.heap.objs.size (.tup [x, y])) { s with heap := h2, toks := tk } :=
      I.turnedNew (ch := [z, TI, TO, i1, i2]) (fun c o hb => k2 c o (fun e => hb (by simp [e])) (fun e => hb (by simp [e])) (fun e => hb (by simp [e])) fun e => hb (by simp [e])) hf (Nat.le_refl _) new
    refine ⟨.ref s.heap.objs.size, _, I1, rfl, ⟨_, x, y, rfl, I.hok.fresh (Nat.le_refl _), rfl, fun l hl => ?_, fun l hl => ?_⟩, ⟨z2, k2 _ _ C.n1 C.n3 C.n4 C.n5 g2, ⟨x1, x2, (sb.2 _ C.n2).trans t1⟩, ?_, ?_⟩, fun c hcm => ?_⟩
    · rw [I.list_inj hl qx]
      exact hx
    · rw [I.tuple_inj hl qy]
      exact hy
    · exact s1.1.at fun o q => (sb.2 _ C.n6.symm).trans q
    · exact s2.1.at fun o q => (sb.2 _ C.n7.symm).trans q
    · have below : c < s.heap.objs.size := by
        rcases five hcm with q | q | q | q | q
        · exact q ▸ zl
        · exact q ▸ Heap.lt_size g2
        · exact q ▸ Heap.lt_size g3
        · obtain ⟨_, e, _⟩ := g4
          exact q ▸ Heap.lt_size e
        · obtain ⟨_, e, _⟩ := g5
          exact q ▸ Heap.lt_size e
      rw [upd_ne (Nat.ne_of_lt below)]
      exact (hf c hcm).1
  done := by
    intro X hP hw hK hc
    intro i pins s σ H E I hf st hg
    subst hP hw hK
    obtain ⟨g1, g2, ⟨x0, y0, g3⟩, g4, g5⟩ := st
    obtain ⟨xs, ys, qx, qy, l1, l2, l3⟩ := hg
    obtain ⟨us, r1, p1, _⟩ := I.list qx
    obtain ⟨vs, r2, p2, _⟩ := I.tuple qy
    have e1 := r1.length
    have e2 := r2.length
    have D1 := Draws.list (prog := X.prog) (w := X.w) (A := X.A.in1) (I.ok.hd hc) i1 a C.a3 us.toArray
    have D2 := Draws.tuple (prog := X.prog) (w := X.w) (A := X.A.in1) (I.ok.hd hc) i2 b C.b4 vs.toArray
    refine wpAny_pyNext_zipD2_end C.sep D1 D2 g1 g2 g3 ⟨g4, p1.isList⟩ ⟨g5, p2⟩ (by simp; omega) (by simp; omega) (by simp; omega) fun h1 tk hk => ⟨rfl, I.turnedL (ch := [z, TI, TO, i1, i2]) (fun c o hb => hk c o (fun e => hb (by simp [e])) (fun e => hb (by simp [e])) (fun e => hb (by simp [e])) fun e => hb (by simp [e])) hf⟩
  self := fun _ _ _ _ _ st h => wpAny_pyIter_zip st.1 h
def iZipM (K : PySem.W.Frag) (ta : TA) : TI := fun σ H R => ta σ H fun vs H1 => ∃ a b xs ys, vs = [.ref a, .ref b] ∧ (SqL K H1 a xs ∧ (SqT K H1 b ys ∧ R (ItzM K a b) H1))
theorem pi_zipM {X : Cx} {f1 f2 : Expr} {ta : TA} {p pos tpos : Pos} {elts : List Expr} {kk : Nat} (hg : Gl X "zip") (hm : X.mg "zip" = none) (ha : PA X [f1, f2] ta)
    (hs : starEach [f1, f2] X.env = (false, eval f1 X.env) :: starEach [f2] X.env := by rfl) (hpl : (backTo pos (starEach [f2] X.env)).any (·.1) = false := by rfl) :
    PI X (.Tuple elts kk tpos) (.Call (.Name "zip" p) [f1, f2] [] pos) (iZipM X.K ta) := by
  refine .mk ?_
  intro pins s σ H R I h
  refine Call_ (ld_blt I hg hm boot_zip (PyProof.Rows.callWith_type1 (thn (ha.run pos pins s σ H _ I h) fun us s1 q0 => ?_) hs hpl))
  obtain ⟨vs, H1, I1, r1, a, b, xs, ys, ex, qx, qy, q⟩ := q0
  subst ex
  obtain ⟨v1, v2, rfl, rfl, rfl⟩ : ∃ v1 v2, us = [v1, v2] ∧ v1 = .ref a ∧ v2 = .ref b := by
    cases r1 with
    | cons r r2 =>
      cases r2 with
      | cons r' r3 =>
        cases r3
        cases r
        cases r'
        exact ⟨_, _, rfl, rfl, rfl⟩
  obtain ⟨xv, rv, p1, _⟩ := I1.list qx
  obtain ⟨yv, rw', p2, _⟩ := I1.tuple qy
  have lta : a < s1.heap.objs.size := p1.lt
  have lb : b < s1.heap.objs.size := by
    obtain ⟨o, ho, _⟩ := id p2
    exact Heap.lt_size ho
  refine zip_begins2 (begins_list a xv.toArray) (begins_tuple b yv.toArray) p1.isList p2 fun h1 hz hTI hTO g1 g2 hsz hk => wpAny_pyIter_zip hz ?_
  have I2 : Inv X pins σ H1 { s1 with heap := h1 } := I1.kept (t' := s1.toks) hk
  have C : ZCells (s1.heap.objs.size + 4) (s1.heap.objs.size + 2) (s1.heap.objs.size + 3) s1.heap.objs.size (s1.heap.objs.size + 1) a b := zcells_new s1.heap.objs.size a b lta lb
  refine ⟨s1.heap.objs.size + 4, [s1.heap.objs.size + 4, s1.heap.objs.size + 2, s1.heap.objs.size + 3, s1.heap.objs.size, s1.heap.objs.size + 1], _, _, H1, rfl, I2, turn_zipM C, ⟨hz, hTI, ⟨_, _, hTO⟩, ⟨_, g1, rfl, rfl⟩, ⟨_, g2, rfl, rfl⟩⟩, fun c hcm => ?_, q⟩
  have above : s1.heap.objs.size ≤ c := by
    rcases five hcm with e | e | e | e | e <;> rw [e]
    · exact Nat.le_add_right _ 4
    · exact Nat.le_add_right _ 2
    · exact Nat.le_add_right _ 3
    · exact Nat.le_refl _
    · exact Nat.le_add_right _ 1
  exact I1.fpOk above (I1.hok.fresh above)
/-- zip of a list and a list or a tuple -/
def iZipU (K : PySem.W.Frag) (ta : TA) : TI := fun σ H R => iZip K ta σ H R ∨ iZipM K ta σ H R
theorem pi_zipU {X : Cx} {f1 f2 : Expr} {ta : TA} {p pos tpos : Pos} {elts : List Expr} {kk : Nat} (hg : Gl X "zip") (hm : X.mg "zip" = none) (ha : PA X [f1, f2] ta)
    (hs : starEach [f1, f2] X.env = (false, eval f1 X.env) :: starEach [f2] X.env := by rfl) (hpl : (backTo pos (starEach [f2] X.env)).any (·.1) = false := by rfl) :
    PI X (.Tuple elts kk tpos) (.Call (.Name "zip" p) [f1, f2] [] pos) (iZipU X.K ta) := by
  refine .mk ?_
  intro pins s σ H R I h
  rcases h with h | h
  · exact (pi_zip hg hm ha hs hpl).run pins s σ H R I h
  · exact (pi_zipM hg hm ha hs hpl).run pins s σ H R I h
/-- what yields pairs -/
structure Zipped (J : It) (xs ys : List V) (G : Hp → Prop) : Prop where
  go : ∀ i H, G H → i < xs.length → i < ys.length → J.go i H
  yld : ∀ i H v H', G H → J.yld i H v H' → ∃ T x y, v = .ref T ∧ H T = none ∧ H' = upd H T (.tup [x, y]) ∧ xs[i]? = some x ∧ ys[i]? = some y
  stop : ∀ i H, G H → i ≤ xs.length → i ≤ ys.length → (i = xs.length ∨ i = ys.length) → J.stop i H
theorem zipped_LL {K : PySem.W.Frag} {a b : Addr} {xs ys : List V} : Zipped (Itz K a b) xs ys fun H => SqL K H a xs ∧ SqL K H b ys where
  go := fun i H g l1 l2 => ⟨xs, ys, xs[i], ys[i], g.1, g.2, List.getElem?_eq_getElem l1, List.getElem?_eq_getElem l2⟩
  yld := fun i H v H' g ⟨T, x, y, h1, h2, h3, h4, h5⟩ => ⟨T, x, y, h1, h2, h3, h4 xs g.1, h5 ys g.2⟩
  stop := fun i H g l1 l2 e => ⟨xs, ys, g.1, g.2, by omega⟩
theorem zipped_LT {K : PySem.W.Frag} {a b : Addr} {xs ys : List V} : Zipped (ItzM K a b) xs ys fun H => SqL K H a xs ∧ SqT K H b ys where
  go := fun i H g l1 l2 => ⟨xs, ys, xs[i], ys[i], g.1, g.2, List.getElem?_eq_getElem l1, List.getElem?_eq_getElem l2⟩
  yld := fun i H v H' g ⟨T, x, y, h1, h2, h3, h4, h5⟩ => ⟨T, x, y, h1, h2, h3, h4 xs g.1, h5 ys g.2⟩
  stop := fun i H g l1 l2 e => ⟨xs, ys, g.1, g.2, l1, l2, e⟩
/-- a comprehension over such pairs -/
theorem lc_zip {J : It} {xs ys : List V} {G : Hp → Prop} (Z : Zipped J xs ys G) {g : TG} {tt : TT} {te : TE} {vs : List Nat} {σ : L2.St} {H1 : Hp} {D : Addr} {Qd : Hp → Prop} (Pv : Nat → Hp → Prop) (h0 : Pv 0 (upd H1 D (.lst []))) (hG : ∀ i H, Pv i H → G H)
    (hs : ∀ i x y T H, xs[i]? = some x → ys[i]? = some y → Pv i H → H T = none → lcT g tt te vs σ D (Pv (i + 1)) (.ref T) (upd H T (.tup [x, y]))) (hd : ∀ H, Pv (min xs.length ys.length) H → Qd H) : LcB J g tt te vs σ H1 D Qd := by
  refine ⟨fun i m H => m = min xs.length ys.length - i ∧ i ≤ min xs.length ys.length ∧ Pv i H, ⟨_, rfl, Nat.zero_le _, h0⟩, ?_⟩
  rintro i m H ⟨rfl, hi, p⟩
  by_cases lt : i < min xs.length ys.length
  · refine .inr ⟨Z.go i H (hG i H p) (by omega) (by omega), Pv (i + 1), fun H' p' => ⟨min xs.length ys.length - (i + 1), by omega, rfl, lt, p'⟩, fun v H' yd => ?_⟩
    obtain ⟨T, x, y, rfl, hT, rfl, e1, e2⟩ := Z.yld i H v H' (hG i H p) yd
    exact hs i x y T H e1 e2 p hT
  · have e : i = min xs.length ys.length := by omega
    subst e
    exact .inl ⟨Z.stop _ H (hG _ H p) (by omega) (by omega) (by omega), hd H p⟩
end U
namespace U
open PySem PySem.Spec PyProof.Rows L2

/-! ### lists of small integers: their texts, and whether they are alike -/
def shownI (ns : List Int) : Str := (PyData.list (ns.map PyData.int)).shown
theorem dp_ints {K : PySem.W.Frag} {H : Hp} {p : Addr} {ns : List Int} (h : SqL K H p (ns.map V.int)) : Dp K H (.ref p) (.list (ns.map PyData.int)) := by
  refine .lst h ?_
  clear h
  induction ns with
  | nil => exact .nil
  | cons n r ih => exact .cons (.int n) ih
theorem small_log {n : Int} (h0 : 0 ≤ n) (h1 : n < 1000000) : n.natAbs.log2 < 1920 := by
  by_cases e : n.natAbs = 0
  · rw [e]; decide
  · have : n.natAbs.log2 < 20 := (Nat.log2_lt e).mpr (by omega)
    omega
theorem hasDict_ints : ∀ ns : List Int, PyData.hasDictAll (ns.map PyData.int) = false
  | [] => by simp [PyData.hasDictAll]
  | _ :: r => by simp [PyData.hasDictAll, PyData.hasDict, hasDict_ints r]
theorem shownI_len {ns : List Int} (hb : ∀ n ∈ ns, 0 ≤ n ∧ n < 1000000) (hl : ns.length ≤ 1000) : (shownI ns).length ≤ sizeLine := by
  have key : ∀ l : List Int, (∀ n ∈ l, 0 ≤ n ∧ n < 1000000) → ((l.map fun n => ((toString n : String) : Str)).map (·.length)).sum ≤ 13 * l.length := by
    intro l
    induction l with
    | nil => intro _; simp
    | cons a r ih =>
      intro h
      have h1 := ih fun n m => h n (List.mem_cons_of_mem _ m)
      have ha := h a List.mem_cons_self
      have h2 := PyData.shown_int_le2 (i := a) (by omega) (by omega)
      rw [PyData.shown_int] at h2
      simp only [List.sum_cons, List.length_cons, List.map_cons]
      omega
  unfold shownI
  rw [PyData.shown_list, PyData.shownAll_ints]
  have h1 := StrLaws.join_length_le ", " (ns.map fun n => ((toString n : String) : Str))
  have h2 := key ns hb
  rw [List.length_map] at h1
  have h3 : (", " : Str).length = 2 := by decide
  rw [h3] at h1
  have e : ∀ a b c : Str, (a ++ b ++ c).length = a.length + b.length + c.length := fun a b c => by
    show (a.cps ++ b.cps ++ c.cps).size = a.cps.size + b.cps.size + c.cps.size
    simp only [Array.size_append]
  rw [e]
  have h4 : ("[" : Str).length = 1 := by decide
  have h5 : ("]" : Str).length = 1 := by decide
  rw [h4, h5]
  exact Nat.le_trans (show _ ≤ 20000 by omega) (by decide)
section
variable {K : PySem.W.Frag} {H : Hp} {Q : VK} {p p' : Addr} {ns ms : List Int}
theorem repr_ints (h : SqL K H p (ns.map V.int)) (hb : ∀ n ∈ ns, 0 ≤ n ∧ n < 1000000) (hl : ns.length ≤ 1000) (q : Q (.str (shownI ns)) H) : uRepr K [.ref p] H Q := by
  refine ⟨_, dp_ints h, ?_, ?_, ?_, shownI_len hb hl, q⟩
  · simp only [PyData.showable]
    exact PyData.showableAll_ints ns fun n m => small_log (hb n m).1 (hb n m).2
  · simp only [PyData.hasDict]
    exact hasDict_ints ns
  · simp [PyData.depth, PySem.W.ke_depthAll]
theorem ne_ints (h : SqL K H p (ns.map V.int)) (h' : SqL K H p' (ms.map V.int)) (q : Q (.bl (!decide (ns = ms))) H) : uNe K (.ref p) (.ref p') H Q := by
  refine ⟨_, _, dp_ints h, dp_ints h', PySem.W.ke_shaped_ints _, PySem.W.ke_shaped_ints _, ?_⟩
  rw [PyData.eqv, PySem.W.ked_eqvAll]
  exact q
end
/-! ### lists of texts -/
section
variable {K : PySem.W.Frag} {H : Hp}
theorem dp_strs {p : Addr} {xs : List Str} (h : SqL K H p (xs.map V.str)) : Dp K H (.ref p) (.list (xs.map PyData.str)) := by
  refine .lst h ?_
  clear h
  induction xs with
  | nil => exact .nil
  | cons n r ih => exact .cons (.str n) ih
theorem strs_eqv (as bs : List Str) : PyData.eqv (.list (as.map PyData.str)) (.list (bs.map PyData.str)) = decide (as = bs) := by
  rw [PyData.eqv]
  induction as generalizing bs with
  | nil => cases bs <;> simp [PyData.eqvAll]
  | cons a r ih =>
    cases bs with
    | nil => simp [PyData.eqvAll]
    | cons b t =>
      simp only [List.map_cons, PyData.eqvAll, ih, PyData.eqv]
      rw [Bool.eq_iff_iff]
      simp
theorem strs_shaped {xs : List Str} (h : ∀ x ∈ xs, PyData.strOk x = true) : SeqAt.shaped (.list (xs.map PyData.str)) = true := by
  have h1 : PyData.canLayAll0 (xs.map PyData.str) = true := by
    induction xs with
    | nil => rfl
    | cons a r ih =>
      have i1 := ih fun x m => h x (List.mem_cons_of_mem _ m)
      have i2 := h a List.mem_cons_self
      simp [PyData.canLayAll0, PyData.canLay0, i1, i2]
  have h2 : PyData.depthAll (xs.map PyData.str) = 0 := by
    clear h h1
    induction xs with
    | nil => rfl
    | cons a r ih => simp [PyData.depthAll, PyData.depth, ih]
  unfold SeqAt.shaped
  rw [PyData.canLay0, h1, PyData.depth, h2]
  decide
end
theorem ne_strs {K : PySem.W.Frag} {H : Hp} {Q : VK} {p q : Addr} {xs ys : List Str} (h : SqL K H p (xs.map V.str)) (h' : SqL K H q (ys.map V.str)) (ok : ∀ x ∈ xs, PyData.strOk x = true) (ok' : ∀ x ∈ ys, PyData.strOk x = true) (r : Q (.bl (!decide (xs = ys))) H) : uNe K (.ref p) (.ref q) H Q :=
  ⟨_, _, dp_strs h, dp_strs h', strs_shaped ok, strs_shaped ok', by rw [strs_eqv]; exact r⟩
theorem eq_strs {K : PySem.W.Frag} {H : Hp} {Q : VK} {p q : Addr} {xs ys : List Str} (h : SqL K H p (xs.map V.str)) (h' : SqL K H q (ys.map V.str)) (ok : ∀ x ∈ xs, PyData.strOk x = true) (ok' : ∀ x ∈ ys, PyData.strOk x = true) (r : Q (.bl (decide (xs = ys))) H) : uEq K (.ref p) (.ref q) H Q :=
  ⟨_, _, dp_strs h, dp_strs h', strs_shaped ok, strs_shaped ok', by rw [strs_eqv]; exact r⟩
end U
namespace U
open PySem PySem.Spec PyProof.Rows L2

/-! ### yards -/
def pV : Option Int → V
  | none => .non
  | some i => .int i
def SqA (K : PySem.W.Frag) (H : Hp) (p : Addr) (xs : List V) : Prop := SqL K H p xs ∨ SqT K H p xs
def okP : Option Int → Bool
  | none => true
  | some i => decide (0 < i)
/-- at y a yard of these rows -/
def Yd (K : PySem.W.Frag) (H : Hp) (y : Addr) (rows : List (List (Option Int))) : Prop :=
  ∃ (dx t : Addr) (as : List Addr), H y = some (.ins (He.ga K "Yard") dx [("_rows", .ref t), ("_reckoning", .non)]) ∧ SqT K H t (as.map V.ref) ∧ as.length = rows.length ∧ rows.length ≤ 60 ∧ 1 ≤ rows.length ∧
    (∀ (i : Nat) (a : Addr) (r : List (Option Int)), as[i]? = some a → rows[i]? = some r → SqT K H a (r.map pV)) ∧ ∀ r ∈ rows, r.length = 6 ∧ r.all okP = true
section
variable {K : PySem.W.Frag} {H H' : Hp}
theorem SqA.same {p : Addr} {xs : List V} (e : Same H H') (h : SqA K H p xs) : SqA K H' p xs := h.imp (Same.seq e) (Same.sqT e)
theorem Yd.same {y : Addr} {rows : List (List (Option Int))} (e : Same H H') (h : Yd K H y rows) : Yd K H' y rows := by
  obtain ⟨dx, t, as, h1, h2, h3, h4, h5, h6, h7⟩ := h
  exact ⟨dx, t, as, e _ _ h1, Same.sqT e h2, h3, h4, h5, fun i a r q1 q2 => Same.sqT e (h6 i a r q1 q2), h7⟩
theorem Is.same {x : V} {a : Ty} (e : Same H H') (h : Is K H x a) : Is K H' x a := by
  have key : ∀ t, TyX K H x t → TyX K H' x t := by
    intro t h
    cases h with
    | base b =>
      refine .base ?_
      cases b with
      | non => exact .non
      | bl b => exact .bl b
      | int i => exact .int i
      | str z => exact .str z
      | flt z => exact .flt z
      | lst q => exact .lst (e _ _ q)
      | frz q => exact .frz (e _ _ q)
      | tup q => exact .tup (e _ _ q)
      | dK q => exact .dK (e _ _ q)
      | dT q => exact .dT (e _ _ q)
      | ins q a b c d f => exact .ins (e _ _ q) a b c d f
    | byt b => exact .byt b
    | set q => exact .set (e _ _ q)
    | kList q c => exact .kList q c
    | kTuple q c => exact .kTuple q c
    | kDict q c => exact .kDict q c
    | fTuple q => exact .fTuple (e _ _ q)
    | fDict q => exact .fDict (e _ _ q)
  exact key _ h
end
/-- an exception c with the value v, from any later heap -/
def Rz (K : PySem.W.Frag) (c f : Str) (v : V) (H : Hp) (E : XK) : Prop := ∀ d H', Same H H' → H' d = none → E (.ref (He.ga K c)) (some d) (upd H' d (.xd [(f, v)]))
theorem Rz.same {K : PySem.W.Frag} {c f : Str} {v : V} {H H' : Hp} {E : XK} (e : Same H H') (h : Rz K c f v H E) : Rz K c f v H' E := fun d H2 s n => h d H2 (e.trans s) n
/-- raise C(x), x the i-th name -/
theorem rse_var {K : PySem.W.Frag} {c f : Str} {E : XK} {i : Nat} {v : V} {σ : L2.St} {H : Hp} {D : Ends} (hv : σ[i]? = some (some v)) (h : Rz K c f v H E) : tRse K c f E (tCons (tVar i) tNil) D σ H :=
  ⟨v, hv, rse_of fun d hd => h d H (Same.refl H) hd⟩

/-! ### what the small judges answer -/
def isPl : V → Bool
  | .str z => decide (z = "a") || decide (z = "b") || decide (z = "c")
  | _ => false
def wayL : List Str := ["ab", "ac", "ba", "bc", "ca", "cb"]
def isWy : V → Bool
  | .str z => decide (z ∈ wayL)
  | _ => false
def isI : V → Bool
  | .int _ => true
  | _ => false
def isIn (x : V) (l h : Int) : Bool := match x with
  | .int i => decide (l ≤ i) && decide (i ≤ h)
  | _ => false
def isPr : V → Bool
  | .int i => decide (0 < i)
  | _ => false
def isPB : V → Bool
  | .non => true
  | .int i => decide (0 < i)
  | _ => false
def sp_is_place (K : PySem.W.Frag) : Sp := sp1 fun x H Q _ => ∃ a, Is K H x a ∧ Q (.bl (isPl x)) H
def sp_is_way (K : PySem.W.Frag) : Sp := sp1 fun x H Q _ => ∃ a, Is K H x a ∧ Q (.bl (isWy x)) H
def sp_is_integer (K : PySem.W.Frag) : Sp := sp1 fun x H Q _ => ∃ a, Is K H x a ∧ Q (.bl (isI x)) H
def sp_is_integer_within (K : PySem.W.Frag) : Sp := sp3 fun x lo hi H Q _ => ∃ a l h, Is K H x a ∧ lo = .int l ∧ hi = .int h ∧ Q (.bl (isIn x l h)) H
def sp_is_price (K : PySem.W.Frag) : Sp := sp1 fun x H Q _ => ∃ a, Is K H x a ∧ Q (.bl (isPr x)) H
def sp_check_place (K : PySem.W.Frag) : Sp := sp1 fun x H Q E => ∃ a, Is K H x a ∧ (isPl x = true → Q .non H) ∧ (isPl x = false → Rz K "InvalidPlace" "value" x H E)
def sp_check_way (K : PySem.W.Frag) : Sp := sp1 fun x H Q E => ∃ a, Is K H x a ∧ (isWy x = true → Q .non H) ∧ (isWy x = false → Rz K "InvalidWay" "value" x H E)
def sp_check_yard (K : PySem.W.Frag) : Sp := sp1 fun x H Q E => ∃ a, Is K H x a ∧ (a = .yard → Q .non H) ∧ (a ≠ .yard → Rz K "InvalidYard" "value" x H E)
def sp_Yard_len (K : PySem.W.Frag) : Sp := sp1 fun x H Q _ => ∃ y rows, x = .ref y ∧ Yd K H y rows ∧ Q (.int (rows.length : Int)) H
/-- the tuple of a yard's rows -/
def Ys (K : PySem.W.Frag) (H : Hp) (t : Addr) (rows : List (List (Option Int))) : Prop := ∃ as : List Addr, SqT K H t (as.map V.ref) ∧ as.length = rows.length ∧ ∀ (i : Nat) (a : Addr) (r : List (Option Int)), as[i]? = some a → rows[i]? = some r → SqT K H a (r.map pV)
def sp_Yard_price_rows (K : PySem.W.Frag) : Sp := sp1 fun x H Q _ => ∃ y rows, x = .ref y ∧ Yd K H y rows ∧ ∀ t, Ys K H t rows → Q (.ref t) H
def t_is_place (K : PySem.W.Frag) (E : XK) : TS := (tRet (tAndV (tCB (uIsi K) (tCons (tVar 0) (tCons (tC (.ty "str")) tNil))) (tOp (uIn K false) (tVar 0) (tC (.ref (He.ga K "PLACES"))))))
def t_is_way (K : PySem.W.Frag) (E : XK) : TS := (tRet (tAndV (tCB (uIsi K) (tCons (tVar 0) (tCons (tC (.ty "str")) tNil))) (tOp (uIn K false) (tVar 0) (tC (.ref (He.ga K "WAYS"))))))
def t_is_integer (K : PySem.W.Frag) (E : XK) : TS := (tRet (tAndV (tCB (uIsi K) (tCons (tVar 0) (tCons (tC (.ty "int")) tNil))) (tNotV (tCB (uIsi K) (tCons (tVar 0) (tCons (tC (.ty "bool")) tNil))))))
def t_is_integer_within (K : PySem.W.Frag) (E : XK) : TS := (tRet (tAndV (tFn (sp_is_integer K) E (tCons (tVar 0) tNil)) (tChain uLe uLe (tVar 1) (tVar 0) (tVar 2))))
def t_is_price (K : PySem.W.Frag) (E : XK) : TS := (tRet (tAndV (tFn (sp_is_integer K) E (tCons (tVar 0) tNil)) (tOp uGt (tVar 0) (tC (.int 0)))))
def t_Yard_price_rows (K : PySem.W.Frag) (E : XK) : TS := (tRet (tFld K (tVar 0) "_rows"))
def t_check_place (K : PySem.W.Frag) (E : XK) : TS := (tIfS (tNot (tB (tFn (sp_is_place K) E (tCons (tVar 0) tNil)))) (tRse K "InvalidPlace" "value" E (tCons (tVar 0) tNil)) tNext)
def t_check_way (K : PySem.W.Frag) (E : XK) : TS := (tIfS (tNot (tB (tFn (sp_is_way K) E (tCons (tVar 0) tNil)))) (tRse K "InvalidWay" "value" E (tCons (tVar 0) tNil)) tNext)
def t_check_yard (K : PySem.W.Frag) (E : XK) : TS := (tIfS (tNot (tB (tCB (uIsi K) (tCons (tVar 0) (tCons (tC (.ref (He.ga K "Yard"))) tNil))))) (tRse K "InvalidYard" "value" E (tCons (tVar 0) tNil)) tNext)
def t_Yard_len (K : PySem.W.Frag) (E : XK) : TS := (tRet (tCB (uLen K) (tCons (tFld K (tVar 0) "_rows") tNil)))
section
variable {K : PySem.W.Frag} (F : KF K) {vs : List V} {H : Hp} {Q : VK} {E : XK}
theorem isi_ty {x : V} {a b : Ty} {T : String} (F : KF K) (hT : b.v K = .type T) (h : Is K H x a) (q : Q (.bl (a.sub b)) H) : uIsi K [x, .ty T] H Q := by
  have k := F.kit a b
  rw [hT] at k
  exact ⟨a.v K, a.sub b, h, k, q⟩
theorem Is.of_str {z : Str} {a : Ty} (h : Is K H (.str z) a) : a = .str := by
  have key : ∀ t, TyX K H (.str z) t → t = a.v K → a = .str := by
    intro t h e
    cases h with
    | base b =>
      cases b
      cases a <;> first | rfl | (injection e with e; exact absurd e (by decide)) | cases e
  exact key _ h rfl
theorem Is.of_int {z : Int} {a : Ty} (h : Is K H (.int z) a) : a = .int := by
  have key : ∀ t, TyX K H (.int z) t → t = a.v K → a = .int := by
    intro t h e
    cases h with
    | base b =>
      cases b
      cases a <;> first | rfl | (injection e with e; exact absurd e (by decide)) | cases e
  exact key _ h rfl
theorem Is.of_bl {z : Bool} {a : Ty} (h : Is K H (.bl z) a) : a = .bl := by
  have key : ∀ t, TyX K H (.bl z) t → t = a.v K → a = .bl := by
    intro t h e
    cases h with
    | base b =>
      cases b
      cases a <;> first | rfl | (injection e with e; exact absurd e (by decide)) | cases e
  exact key _ h rfl
theorem Is.of_non {a : Ty} (h : Is K H .non a) : a = .non := by
  have key : ∀ t, TyX K H .non t → t = a.v K → a = .non := by
    intro t h e
    cases h with
    | base b =>
      cases b
      cases a <;> first | rfl | (injection e with e; exact absurd e (by decide)) | cases e
  exact key _ h rfl
/-! one step of a reading -/
local macro_rules | `(tactic| walk_at "w") => `(tactic| simp only [tRet, tAndV, tOrV, tNotV, tCB, tCons, tVar, tNil, tC, tOp, tSeq, tAsg, gName, tIfS, tDrop, tFn, tTup, tLst, tNext, tB, tTest, tNot, tAnd, tOr, tIf, tChain, tUn, rU, tFld,
  L2.start, List.map_cons, List.map_nil, List.length_cons, List.length_nil, List.replicate_succ, List.replicate_zero, List.append_nil, List.nil_append, List.cons_append, List.singleton_append, Nat.sub_self, Nat.zero_add, Nat.reduceAdd, Nat.reduceSub,
  List.getElem?_cons_zero, List.getElem?_cons_succ, List.set_cons_zero, List.set_cons_succ, Option.some.injEq, exists_eq_left, exists_eq_left', V.int.injEq, V.bl.injEq, V.str.injEq, V.ref.injEq,
  uAdd, uSub, uMul, uDiv, uMod, uPow, uCmp, uLt, uLe, uGt, uGe, uIs, uNis, sp1, sp2, sp3, sp4])

theorem eqV_str (a b : Str) : eqV (.str a) (.str b) = decide (a = b) := rfl
theorem in_places {z : Str} : inV (.str z) [.str "a", .str "b", .str "c"] = isPl (.str z) := by
  show (decide (("a" : Str) = z) || (decide (("b" : Str) = z) || (decide (("c" : Str) = z) || false))) = ((decide (z = "a") || decide (z = "b")) || decide (z = "c"))
  simp only [eq_comm, Bool.or_false, Bool.or_assoc]
theorem in_ways {z : Str} : inV (.str z) [.str "ab", .str "ac", .str "ba", .str "bc", .str "ca", .str "cb"] = isWy (.str z) := by
  show (wayL.map V.str).any (fun y => eqV y (.str z)) = decide (z ∈ wayL)
  rw [List.any_map, Bool.eq_iff_iff, List.any_eq_true, decide_eq_true_iff]
  constructor
  · rintro ⟨w, h1, h2⟩
    have : w = z := of_decide_eq_true h2
    exact this ▸ h1
  · intro h
    exact ⟨z, h, decide_eq_true rfl⟩
include F in
theorem read_is_place (h : sp_is_place K vs H Q E) : t_is_place K E { nx := fun _ H' => Q .non H', rt := Q } (start ["value"] vs) H := by
  match vs, h with
  | [x], ⟨a, ha, q⟩ =>
    unfold t_is_place
    walk_at "w"
    refine isi_ty (b := .str) F rfl ha ?_
    walk_at "w"
    by_cases e : a = .str
    · subst e
      obtain ⟨z, rfl⟩ := ha.str_inv
      simp only [Ty.sub, decide_true, Bool.true_or, if_true]
      exact ⟨_, _, rfl, .inr (F.places H), rfl, rfl, by simpa [in_places] using q⟩
    · rw [if_neg (by simp [Ty.sub, e])]
      have : isPl x = false := by cases x <;> first | rfl | exact absurd ha.of_str e
      rwa [this] at q
include F in
theorem read_is_way (h : sp_is_way K vs H Q E) : t_is_way K E { nx := fun _ H' => Q .non H', rt := Q } (start ["value"] vs) H := by
  match vs, h with
  | [x], ⟨a, ha, q⟩ =>
    unfold t_is_way
    walk_at "w"
    refine isi_ty (b := .str) F rfl ha ?_
    walk_at "w"
    by_cases e : a = .str
    · subst e
      obtain ⟨z, rfl⟩ := ha.str_inv
      simp only [Ty.sub, decide_true, Bool.true_or, if_true]
      exact ⟨_, _, rfl, .inr (F.ways H), rfl, rfl, by simpa [in_ways] using q⟩
    · rw [if_neg (by simp [Ty.sub, e])]
      have : isWy x = false := by cases x <;> first | rfl | exact absurd ha.of_str e
      rwa [this] at q
theorem isI_of {x : V} {a : Ty} (ha : Is K H x a) : isI x = (a.sub .int && !a.sub .bl) := by
  cases x with
  | int i => rw [ha.of_int]; rfl
  | bl b => rw [ha.of_bl]; rfl
  | _ =>
    have h1 : a ≠ .int := by
      rintro rfl
      obtain ⟨i, e⟩ := ha.int_inv
      cases e
    have h2 : a ≠ .bl := by
      rintro rfl
      obtain ⟨i, e⟩ := ha.bl_inv
      cases e
    simp [isI, Ty.sub, h1, h2]
include F in
theorem read_is_integer (h : sp_is_integer K vs H Q E) : t_is_integer K E { nx := fun _ H' => Q .non H', rt := Q } (start ["value"] vs) H := by
  match vs, h with
  | [x], ⟨a, ha, q⟩ =>
    unfold t_is_integer
    rw [isI_of ha] at q
    walk_at "w"
    refine isi_ty (b := .int) F rfl ha ?_
    walk_at "w"
    cases e : a.sub .int with
    | false => simpa [e] using q
    | true =>
      simp only [if_true]
      refine isi_ty (b := .bl) F rfl ha ?_
      simpa [e, TruV] using q
include F in
theorem read_is_integer_within (h : sp_is_integer_within K vs H Q E) : t_is_integer_within K E { nx := fun _ H' => Q .non H', rt := Q } (start ["value", "low", "high"] vs) H := by
  match vs, h with
  | [x, _, _], ⟨a, l, hi, ha, rfl, rfl, q⟩ =>
    unfold t_is_integer_within sp_is_integer
    walk_at "w"
    refine ⟨a, ha, ?_⟩
    cases x with
    | int i =>
      simp only [isI, V.bl.injEq, exists_eq_left', if_true]
      by_cases h1 : l ≤ i <;> by_cases h2 : i ≤ hi <;> simpa [isIn, h1, h2] using q
    | _ => simpa [isI, isIn] using q
include F in
theorem read_is_price (h : sp_is_price K vs H Q E) : t_is_price K E { nx := fun _ H' => Q .non H', rt := Q } (start ["value"] vs) H := by
  match vs, h with
  | [x], ⟨a, ha, q⟩ =>
    unfold t_is_price sp_is_integer
    walk_at "w"
    refine ⟨a, ha, ?_⟩
    cases x with
    | int i => simpa [isI, isPr] using q
    | _ => simpa [isI, isPr] using q
include F in
theorem read_check_place (h : sp_check_place K vs H Q E) : t_check_place K E { nx := fun _ H' => Q .non H', rt := Q } (start ["place"] vs) H := by
  match vs, h with
  | [x], ⟨a, ha, q1, q2⟩ =>
    unfold t_check_place sp_is_place
    walk_at "w"
    refine ⟨a, ha, ?_⟩
    cases e : isPl x with
    | true => exact q1 e
    | false => exact rse_var (K := K) (c := "InvalidPlace") (f := "value") (E := E) (σ := [some x]) (i := 0) (D := { nx := fun _ H' => Q .non H', rt := Q }) rfl (q2 e)
include F in
theorem read_check_way (h : sp_check_way K vs H Q E) : t_check_way K E { nx := fun _ H' => Q .non H', rt := Q } (start ["way"] vs) H := by
  match vs, h with
  | [x], ⟨a, ha, q1, q2⟩ =>
    unfold t_check_way sp_is_way
    walk_at "w"
    refine ⟨a, ha, ?_⟩
    cases e : isWy x with
    | true => exact q1 e
    | false => exact rse_var (K := K) (c := "InvalidWay") (f := "value") (E := E) (σ := [some x]) (i := 0) (D := { nx := fun _ H' => Q .non H', rt := Q }) rfl (q2 e)
include F in
theorem read_check_yard (h : sp_check_yard K vs H Q E) : t_check_yard K E { nx := fun _ H' => Q .non H', rt := Q } (start ["yard"] vs) H := by
  match vs, h with
  | [x], ⟨a, ha, q1, q2⟩ =>
    unfold t_check_yard
    walk_at "w"
    refine .inl ⟨a.v K, a.sub .yard, ha, F.kit a .yard, _, rfl, ?_⟩
    cases e : a.sub .yard with
    | true => exact q1 (by cases a <;> first | rfl | cases e)
    | false =>
      refine rse_var (K := K) (c := "InvalidYard") (f := "value") (E := E) (σ := [some x]) (i := 0) (D := { nx := fun _ H' => Q .non H', rt := Q }) rfl (q2 ?_)
      rintro rfl
      cases e
include F in
theorem read_Yard_price_rows (h : sp_Yard_price_rows K vs H Q E) : t_Yard_price_rows K E { nx := fun _ H' => Q .non H', rt := Q } (start ["self"] vs) H := by
  match vs, h with
  | [_], ⟨y, rows, rfl, ⟨dx, t, as, h1, h2, h3, h4, h5, h6, h7⟩, q⟩ =>
    unfold t_Yard_price_rows
    walk_at "w"
    exact ⟨y, _, _, _, .ref t, rfl, h1, F.cl, F.na, rfl, q t ⟨as, h2, h3, h6⟩⟩
include F in
theorem read_Yard_len (h : sp_Yard_len K vs H Q E) : t_Yard_len K E { nx := fun _ H' => Q .non H', rt := Q } (start ["self"] vs) H := by
  match vs, h with
  | [_], ⟨y, rows, rfl, ⟨dx, t, as, h1, h2, h3, h4, h5, h6⟩, q⟩ =>
    unfold t_Yard_len
    walk_at "w"
    refine ⟨y, _, _, _, .ref t, rfl, h1, F.cl, F.na, rfl, ?_⟩
    refine ⟨_, .inr h2, ?_⟩
    rw [List.length_map, h3]
    exact q
end
end U
namespace U
open PySem PySem.Spec PyProof.Rows L2

/-! ### heaps that keep all but one -/
def Off (D : Addr) (H H' : Hp) : Prop := ∀ b o, b ≠ D → H b = some o → H' b = some o
section
variable {K : PySem.W.Frag} {H H' H2 : Hp} {D a p : Addr} {xs l : List V} {o : HO}
theorem Off.refl : Off D H H := fun _ _ _ h => h
theorem Same.off (h : Same H H') : Off D H H' := fun b o _ e => h b o e
theorem Off.trans (h : Off D H H') (g : Off D H' H2) : Off D H H2 := fun b o n e => g b o n (h b o n e)
theorem off_upd : Off D H (upd H D o) := fun b u n e => by rw [upd_ne n]; exact e
theorem Off.same (h : Off D H H') (n : H D = none) : Same H H' := fun b o e => h b o (ne_of_none e n) e
theorem Off.sqT (h : Off D H H') (hD : H D = some (.lst l)) (q : SqT K H a xs) : SqT K H' a xs := by
  rcases q with (q | ⟨o, q⟩) | q
  · exact .inl (.inl (h _ _ (by rintro rfl; rw [hD] at q; cases q) q))
  · exact .inl (.inr ⟨o, h _ _ (by rintro rfl; rw [hD] at q; cases q) q⟩)
  · exact .inr q
theorem Off.sqL (h : Off D H H') (n : a ≠ D) (q : SqL K H a xs) : SqL K H' a xs := by
  rcases q with (q | ⟨o, q⟩) | q
  · exact .inl (.inl (h _ _ n q))
  · exact .inl (.inr ⟨o, h _ _ n q⟩)
  · exact .inr q
theorem Off.yd {y : Addr} {rows : List (List (Option Int))} (e : Off D H H') (hD : H D = some (.lst l)) (h : Yd K H y rows) : Yd K H' y rows := by
  obtain ⟨dx, t, as, h1, h2, h3, h4, h5, h6, h7⟩ := h
  exact ⟨dx, t, as, e _ _ (by rintro rfl; rw [hD] at h1; cases h1) h1, e.sqT hD h2, h3, h4, h5, fun i a r q1 q2 => e.sqT hD (h6 i a r q1 q2), h7⟩
end
/-! ### what is walked without a change of the heap -/
structure Plain (J : It) (xs : List V) (G : Hp → Prop) : Prop where
  go : ∀ i H, G H → i < xs.length → J.go i H
  yld : ∀ i H x H', G H → J.yld i H x H' → H' = H ∧ (i < xs.length → xs[i]? = some x)
  stop : ∀ i H, G H → i = xs.length → J.stop i H
section
variable {K : PySem.W.Frag} {a : Addr} {xs : List V}
theorem plain_L : Plain (Itl K a) xs fun H => SqL K H a xs :=
  ⟨fun i H h lt => ⟨xs, xs[i], h, List.getElem?_eq_getElem lt⟩, fun i H x H' h ⟨e, q⟩ => ⟨e, fun _ => q xs h⟩, fun i H h e => ⟨xs, h, Nat.le_of_eq e.symm⟩⟩
theorem plain_T : Plain (Itt K a) xs fun H => SqT K H a xs :=
  ⟨fun i H h lt => ⟨xs, xs[i], h, List.getElem?_eq_getElem lt⟩, fun i H x H' h ⟨e, q⟩ => ⟨e, fun _ => q xs h⟩, fun i H h e => ⟨xs, h, Nat.le_of_eq e.symm⟩⟩
theorem strL_len (z : Str) : (strL z).length = z.cps.size := by simp [strL]
theorem plain_S {z : Str} : Plain (Its z) (strL z) fun _ => True :=
  ⟨fun i H h lt => by rw [strL_len] at lt; exact lt, fun i H x H' h ⟨e, c, q1, q2⟩ => ⟨e, fun _ => by
    subst q2
    unfold strL
    rw [List.getElem?_map, Array.getElem?_toList, q1]
    rfl⟩, fun i H h e => by rw [strL_len] at e; exact Nat.le_of_eq e.symm⟩
def intsL (lo : Int) (n : Nat) : List V := (List.range n).map fun (i : Nat) => V.int (lo + (i : Int))
theorem plain_R {lo : Int} {n : Nat} : Plain (Itr lo n) (intsL lo n) fun _ => True :=
  ⟨fun i H h lt => by
    have lt : i < n := by simpa [intsL] using lt
    exact lt, fun i H x H' h ⟨e, q2⟩ => ⟨e, fun lt => by
    subst q2
    have lt : i < n := by simpa [intsL] using lt
    simp [intsL, lt]⟩, fun i H h e => by
    have : i = n := by simpa [intsL] using e
    exact Nat.le_of_eq this.symm⟩
/-- the ends of a loop's body: N behind it -/
abbrev turnE (D : Ends) (N : L2.St → Hp → Prop) : Ends := { D with nx := N, ct := N, bk := D.nx }
theorem for_plain {J : It} {G : Hp → Prop} (P : Plain J xs G) {wi : TI} {g : TG} {tb : TS} {D : Ends} {σ : L2.St} {H : Hp} (hw : ∀ R : It → Hp → Prop, R J H → wi σ H R) (Pv : Nat → L2.St → Hp → Prop) (h0 : Pv 0 σ H) (hG : ∀ i σ H, Pv i σ H → G H)
    (hs : ∀ i x τ H, xs[i]? = some x → Pv i τ H → g x τ H fun ρ H2 => tb (turnE D (Pv (i + 1))) ρ H2) (hd : ∀ τ H, Pv xs.length τ H → D.nx τ H) : tFor wi g tb D σ H := by
  refine hw _ ?_
  have start0 : xs.length = xs.length - 0 ∧ 0 ≤ xs.length ∧ Pv 0 σ H := ⟨rfl, Nat.zero_le _, h0⟩
  refine ⟨fun i m τ H => m = xs.length - i ∧ i ≤ xs.length ∧ Pv i τ H, ⟨_, start0⟩, ?_⟩
  rintro i m σ H ⟨rfl, hi, p⟩
  have q := hG i σ H p
  by_cases hlt : i < xs.length
  · refine .inr ⟨P.go i H q hlt, Pv (i + 1), fun σ' H' p' => ⟨xs.length - (i + 1), by omega, rfl, hlt, p'⟩, fun x H' y => ?_⟩
    obtain ⟨rfl, hx⟩ := P.yld i H x H' q y
    exact hs i x σ H' (hx hlt) p
  · have atEnd : i = xs.length := Nat.le_antisymm hi (Nat.le_of_not_lt hlt)
    exact .inl ⟨P.stop i H q atEnd, hd σ H (atEnd ▸ p)⟩
theorem it_plain {J : It} {G : Hp → Prop} (P : Plain J xs G) {B : V → Hp → (Hp → Prop) → Prop} {H0 : Hp} {fin : Hp → Prop} (Pv : Nat → Hp → Prop) (h0 : Pv 0 H0) (hG : ∀ i H, Pv i H → G H)
    (hs : ∀ i x H, xs[i]? = some x → Pv i H → B x H (Pv (i + 1))) (hd : ∀ H, Pv xs.length H → fin H) : Laps J H0 fin B := by
  have start0 : xs.length = xs.length - 0 ∧ 0 ≤ xs.length ∧ Pv 0 H0 := ⟨rfl, Nat.zero_le _, h0⟩
  refine ⟨fun i m H => m = xs.length - i ∧ i ≤ xs.length ∧ Pv i H, ⟨_, start0⟩, ?_⟩
  rintro i m H ⟨rfl, hi, p⟩
  have q := hG i H p
  by_cases hlt : i < xs.length
  · refine .inr ⟨P.go i H q hlt, Pv (i + 1), fun H' p' => ⟨xs.length - (i + 1), by omega, rfl, hlt, p'⟩, fun x H' y => ?_⟩
    obtain ⟨rfl, hx⟩ := P.yld i H x H' q y
    exact hs i x H' (hx hlt) p
  · have atEnd : i = xs.length := Nat.le_antisymm hi (Nat.le_of_not_lt hlt)
    exact .inl ⟨P.stop i H q atEnd, hd H (atEnd ▸ p)⟩
theorem lc_plain {J : It} {G : Hp → Prop} (P : Plain J xs G) {g : TG} {tt : TT} {te : TE} {vs : List Nat} {σ : L2.St} {H1 : Hp} {D : Addr} {Qd : Hp → Prop} (Pv : Nat → Hp → Prop) (h0 : Pv 0 (upd H1 D (.lst []))) (hG : ∀ i H, Pv i H → G H)
    (hs : ∀ i x H, xs[i]? = some x → Pv i H → lcT g tt te vs σ D (Pv (i + 1)) x H) (hd : ∀ H, Pv xs.length H → Qd H) : LcB J g tt te vs σ H1 D Qd :=
  it_plain P Pv h0 hG hs hd
/-- [te for name j in ..], whose turns only make new things -/
theorem lc_grow {J : It} {G : Hp → Prop} (P : Plain J xs G) {te : TE} {j : Nat} {σ : L2.St} {H1 : Hp} {D : Addr} {Qd : Hp → Prop} (R : List V → Hp → Prop) (hD : H1 D = none) (hlen : xs.length ≤ sizeLine)
    (hG : ∀ H, Same H1 H → G H) (h0 : ∀ H, Same H1 H → R [] H) (hup : ∀ acc l H H', H D = some (.lst l) → Off D H H' → R acc H → R acc H')
    (hs : ∀ i x acc H (Q : VK), xs[i]? = some x → Same H1 H → acc.length = i → R acc H → (∀ y H4, Same H H4 → R (acc ++ [y]) H4 → Q y H4) → te (σ.set j (some x)) H Q)
    (hd : ∀ acc H, acc.length = xs.length → Same H1 H → H D = some (.lst acc) → R acc H → Qd H) : LcB J (gName j) tYes te [j] σ H1 D Qd := by
  refine lc_plain P (fun i H => ∃ acc, acc.length = i ∧ H D = some (.lst acc) ∧ Same H1 H ∧ R acc H) ⟨[], rfl, upd_same, same_new hD, h0 _ (same_new hD)⟩ (fun i H ⟨_, _, _, s, _⟩ => hG H s) ?_ (fun H ⟨acc, h1, h2, h3, h4⟩ => hd acc H h1 h3 h2 h4)
  rintro i x H hx ⟨acc, h1, h2, h3, h4⟩
  show wipe _ [j] = wipe σ [j] ∧ _
  refine ⟨by simp only [wipe, List.set_set], ?_⟩
  show te ((σ.set j none).set j (some x)) H _
  rw [List.set_set]
  have lt : i < xs.length := by
    rcases Nat.lt_or_ge i xs.length with q | q
    · exact q
    · rw [List.getElem?_eq_none q] at hx; cases hx
  refine hs i x acc H _ hx h3 h1 h4 fun y H4 s r => ⟨acc, s _ _ h2, by omega, acc ++ [y], by simp [h1], upd_same, ?_, ?_⟩
  · exact (Off.trans (Same.off (h3.trans s)) off_upd).same hD
  · exact hup _ acc _ _ (s _ _ h2) off_upd r
theorem for_rng1 {ta : TA} {g : TG} {tb : TS} {D : Ends} {σ : L2.St} {H : Hp} {n : Nat} (h : ∀ R : List V → Hp → Prop, R [.int n] H → ta σ H R) (hn : n ≤ 1000000000) (Pv : Nat → L2.St → Hp → Prop) (h0 : Pv 0 σ H)
    (hs : ∀ (i : Nat) σ H, i < n → Pv i σ H → g (.int i) σ H fun σ2 H2 => tb (turnE D (Pv (i + 1))) σ2 H2) (hd : ∀ σ H, Pv n σ H → D.nx σ H) : tFor (iRng1 ta) g tb D σ H := by
  have e : (intsL 0 n).length = n := by simp [intsL]
  have hw : ∀ R : It → Hp → Prop, R (Itr 0 n) H → iRng1 ta σ H R := fun R r => h _ ⟨_, rfl, by omega, by omega, by rw [Int.toNat_natCast]; exact r⟩
  refine for_plain plain_R hw Pv h0 (fun _ _ _ _ => trivial) (fun i x σ H hx p => ?_) (by rw [e]; exact hd)
  have lt : i < n := e ▸ (List.getElem?_eq_some_iff.mp hx).1
  have : x = .int i := by
    simp [intsL, lt] at hx
    exact hx.symm
  subst this
  exact hs i σ H lt p
theorem for_strL {te : TE} {g : TG} {tb : TS} {D : Ends} {σ : L2.St} {H : Hp} {z : Str} (h : ∀ Q : VK, Q (.str z) H → te σ H Q) (Pv : Nat → L2.St → Hp → Prop) (h0 : Pv 0 σ H)
    (hs : ∀ (i : Nat) x σ H, (strL z)[i]? = some x → Pv i σ H → g x σ H fun σ2 H2 => tb (turnE D (Pv (i + 1))) σ2 H2) (hd : ∀ σ H, Pv (strL z).length σ H → D.nx σ H) : tFor (iStr te) g tb D σ H :=
  for_plain plain_S (fun R r => h _ ⟨z, rfl, r⟩) Pv h0 (fun _ _ _ _ => trivial) hs hd
end
end U
namespace U
open PySem PySem.Spec PyProof.Rows L2

theorem take_snoc {α : Type} (f : α → V) {acc : List V} {bs : List α} {i : Nat} {c : α} (ha : acc = (bs.take acc.length).map f) (hl : acc.length = i) (hc : bs[i]? = some c) : acc ++ [f c] = (bs.take (acc ++ [f c]).length).map f := by
  subst hl
  rw [List.length_append, List.length_singleton, List.take_succ, List.map_append, ← ha, hc]
  rfl
/-! ### rows of prices -/
def RowB (K : PySem.W.Frag) (H : Hp) (x : V) (b : Bool) : Prop := (∃ a, Is K H x a ∧ a ≠ .lst ∧ a ≠ .tup ∧ b = false) ∨
  ∃ p xs, x = .ref p ∧ SqA K H p xs ∧ (∀ v ∈ xs, ∃ a, Is K H v a) ∧ b = (decide (xs.length = 6) && xs.all isPB)
def RowsB (K : PySem.W.Frag) (H : Hp) (x : V) (b : Bool) : Prop := (∃ a, Is K H x a ∧ a ≠ .lst ∧ a ≠ .tup ∧ b = false) ∨
  ∃ (p : Addr) (xs : List V) (bs : List Bool), x = .ref p ∧ SqA K H p xs ∧ bs.length = xs.length ∧ (∀ (i : Nat) (v : V) (c : Bool), xs[i]? = some v → bs[i]? = some c → RowB K H v c) ∧ b = (decide (1 ≤ xs.length) && (decide (xs.length ≤ 60) && bs.all id))
section
variable {K : PySem.W.Frag} {H H' : Hp} {x : V} {b : Bool}
theorem RowB.same (e : Same H H') (h : RowB K H x b) : RowB K H' x b := by
  rcases h with ⟨a, h, r⟩ | ⟨p, xs, r, h, g, q⟩
  · exact .inl ⟨a, h.same e, r⟩
  · exact .inr ⟨p, xs, r, h.same e, fun v m => by
      obtain ⟨a, z⟩ := g v m
      exact ⟨a, z.same e⟩, q⟩
theorem RowsB.same (e : Same H H') (h : RowsB K H x b) : RowsB K H' x b := by
  rcases h with ⟨a, h, r⟩ | ⟨p, xs, bs, r, h, g, z, q⟩
  · exact .inl ⟨a, h.same e, r⟩
  · exact .inr ⟨p, xs, bs, r, h.same e, g, fun i v c h1 h2 => (z i v c h1 h2).same e, q⟩
theorem SqA.kind {p : Addr} {xs : List V} (h : SqA K H p xs) : ∃ a, Is K H (.ref p) a ∧ (a.sub .lst || a.sub .tup) = true := by
  rcases h with h | h
  · exact ⟨.lst, is_sqL h, rfl⟩
  · exact ⟨.tup, is_sqT h, rfl⟩
theorem isi_seq (F : KF K) {a : Ty} {p : Addr} {Q : VK} (hp : H p = some (.tup [.ty "list", .ty "tuple"])) (h : Is K H x a) (q : Q (.bl (a.sub .lst || a.sub .tup)) H) : uIsi K [x, .ref p] H Q := by
  refine .inr ⟨_, [.type "list", .type "tuple"], a.v K, _, hp, .cons (.ty _) (.cons (.ty _) .nil), h, ?_, q⟩
  show PySem.W.kitAny K (a.v K) [Ty.v K .lst, Ty.v K .tup] = _
  unfold PySem.W.kitAny
  rw [F.kit a .lst]
  cases a.sub .lst with
  | true => rfl
  | false =>
    show PySem.W.kitAny K (a.v K) [Ty.v K .tup] = _
    unfold PySem.W.kitAny
    rw [F.kit a .tup]
    cases a.sub .tup <;> rfl
theorem uLen_seq {p : Addr} {xs : List V} {Q : VK} (h : SqA K H p xs) (q : Q (.int xs.length) H) : uLen K [.ref p] H Q := ⟨xs, h, q⟩
theorem uEq_int {i j : Int} {Q : VK} : uEq K (.int i) (.int j) H Q = Q (.bl (decide (i = j))) H := rfl
theorem uEq_str {i j : Str} {Q : VK} : uEq K (.str i) (.str j) H Q = Q (.bl (decide (i = j))) H := rfl
theorem uNe_int {i j : Int} {Q : VK} : uNe K (.int i) (.int j) H Q = Q (.bl (!decide (i = j))) H := rfl
theorem uNe_str {i j : Str} {Q : VK} : uNe K (.str i) (.str j) H Q = Q (.bl (!decide (i = j))) H := rfl
theorem uAdd_int {i j : Int} {Q : VK} : uAdd (.int i) (.int j) H Q = Q (.int (i + j)) H := rfl
theorem uSub_int {i j : Int} {Q : VK} : uSub (.int i) (.int j) H Q = Q (.int (i - j)) H := rfl
theorem uMul_int {i j : Int} {Q : VK} : uMul (.int i) (.int j) H Q = (CMul i j ∧ Q (.int (i * j)) H) := rfl
theorem uDiv_int {i j : Int} {Q : VK} : uDiv (.int i) (.int j) H Q = (CDivW i j ∧ Q (.int (i / j)) H) := rfl
theorem uMod_int {i j : Int} {Q : VK} : uMod (.int i) (.int j) H Q = (0 < j ∧ Q (.int (i % j)) H) := rfl
theorem uPow_int {i j : Int} {Q : VK} : uPow (.int i) (.int j) H Q = (CPow i j ∧ Q (.int (i ^ j.toNat)) H) := rfl
theorem uLt_int {i j : Int} {Q : VK} : uLt (.int i) (.int j) H Q = Q (.bl (decide (i < j))) H := rfl
theorem uLe_int {i j : Int} {Q : VK} : uLe (.int i) (.int j) H Q = Q (.bl (decide (i ≤ j))) H := rfl
theorem uGt_int {i j : Int} {Q : VK} : uGt (.int i) (.int j) H Q = Q (.bl (decide (j < i))) H := rfl
theorem uGe_int {i j : Int} {Q : VK} : uGe (.int i) (.int j) H Q = Q (.bl (decide (j ≤ i))) H := rfl
theorem uAdd_str {i j : Str} {Q : VK} : uAdd (.str i) (.str j) H Q = (i.length + j.length ≤ sizeLine ∧ Q (.str (i ++ j)) H) := rfl
theorem uMul_str {i : Str} {n : Int} {Q : VK} : uMul (.str i) (.int n) H Q = (0 ≤ n ∧ n ≤ 1000 ∧ i.length ≤ 10000 ∧ Q (.str (Txt.mul i n)) H) := rfl
theorem uIs_non {Q : VK} : uIs x .non H Q = Q (.bl (decide (x = .non))) H := rfl
theorem uNis_non {Q : VK} : uNis x .non H Q = Q (.bl (!decide (x = .non))) H := rfl
theorem uIs_bl {a c : Bool} {Q : VK} : uIs (.bl a) (.bl c) H Q = Q (.bl (decide (a = c))) H := rfl
theorem uNis_bl {a c : Bool} {Q : VK} : uNis (.bl a) (.bl c) H Q = Q (.bl (!decide (a = c))) H := rfl
theorem uSl_str {z : Str} {lo hi : Option Int} {Q : VK} : uSl K (.str z) lo hi H Q = (z.length ≤ sizeLine ∧ Q (.str (cutS z lo hi)) H) := rfl
theorem uLen_str {z : Str} {Q : VK} : uLen K [.str z] H Q = (z.length ≤ sizeLine ∧ Q (.int z.length) H) := rfl
theorem seq_ {a b : TS} {D : Ends} {σ : L2.St} {H : Hp} (h : a { D with nx := b D } σ H) : tSeq a b D σ H := h
theorem tVar_eq {i : Nat} {σ : L2.St} {v : V} (h : σ[i]? = some (some v)) (Q : VK) : tVar i σ H Q = Q v H := by
  unfold tVar
  simp [h]
theorem tLc_str {t : TE} {σ : L2.St} {g : TG} {tt : TT} {te : TE} {vs : List Nat} {Q : VK} {z : Str} (ht : ∀ Q, t σ H Q = Q (.str z) H) (hc : ∀ D, H D = none → LcB (Its z) g tt te vs σ H D (Q (.ref D))) : tLc (iStr t) g tt te vs σ H Q := by
  show t σ H _
  rw [ht]
  exact ⟨z, rfl, hc⟩
theorem tLc_seq {t : TE} {σ : L2.St} {g : TG} {tt : TT} {te : TE} {vs : List Nat} {Q : VK} {p : Addr} {xs : List V} (h : SqA K H p xs) (ht : ∀ Q, t σ H Q = Q (.ref p) H)
    (hc : ∀ (J : It) (G : Hp → Prop), Plain J xs G → (∀ H', Same H H' → G H') → ∀ D, H D = none → LcB J g tt te vs σ H D (Q (.ref D))) : tLc (iSeq K t) g tt te vs σ H Q := by
  rcases h with h | h
  · refine .inl ?_
    show t σ H _
    rw [ht]
    exact ⟨p, rfl, ⟨xs, h⟩, hc _ _ plain_L fun H' e => Same.seq e h⟩
  · refine .inr ?_
    show t σ H _
    rw [ht]
    exact ⟨p, rfl, ⟨xs, h⟩, hc _ _ plain_T fun H' e => Same.sqT e h⟩
end
def sp__is_price_row (K : PySem.W.Frag) : Sp := sp1 fun x H Q _ => ∃ b, RowB K H x b ∧ ∀ H', Same H H' → Q (.bl b) H'
def sp__are_rows (K : PySem.W.Frag) : Sp := sp1 fun x H Q _ => ∃ b, RowsB K H x b ∧ ∀ H', Same H H' → Q (.bl b) H'
def t__is_price_row (K : PySem.W.Frag) (E : XK) : TS := (tRet (tAndV (tCB (uIsi K) (tCons (tVar 0) (tCons (tTup (tCons (tC (.ty "list")) (tCons (tC (.ty "tuple")) tNil))) tNil))) (tAndV (tOp (uEq K) (tCB (uLen K) (tCons (tVar 0) tNil)) (tCB (uLen K) (tCons (tC (.ref (He.ga K "WAYS"))) tNil))) (tCB (rAll K) (tCons (tLc (iSeq K (tVar 0)) (gName 1) tYes (tOrV (tOp uIs (tVar 1) (tC .non)) (tFn (sp_is_price K) E0 (tCons (tVar 1) tNil))) [1]) tNil)))))
def t__are_rows (K : PySem.W.Frag) (E : XK) : TS := (tRet (tAndV (tCB (uIsi K) (tCons (tVar 0) (tCons (tTup (tCons (tC (.ty "list")) (tCons (tC (.ty "tuple")) tNil))) tNil))) (tAndV (tChain uLe uLe (tC (.int 1)) (tCB (uLen K) (tCons (tVar 0) tNil)) (tC (.int 60))) (tCB (rAll K) (tCons (tLc (iSeq K (tVar 0)) (gName 1) tYes (tFn (sp__is_price_row K) E0 (tCons (tVar 1) tNil)) [1]) tNil)))))
section
variable {K : PySem.W.Frag} (F : KF K) {vs : List V} {H : Hp} {Q : VK} {E : XK}
local macro_rules | `(tactic| walk_at "w") => `(tactic| try simp only [turnE, lcT, Snoc, tRet, tRetN, tAndV, tOrV, tNotV, tCB, tCons, tVar, tNil, tC, tOp, tSeq, tAsg, gName, gSub, tIfS, tDrop, tFn, tTup, tLst, tNext, tB, tTest, tNot, tAnd, tOr, tIf, tChain, tUn, rU, tFld, tPart, tNoPart, L2.tSl, tBM, tPar, tPar3, tTruth, tDNewK,
  L2.start, List.map_cons, List.map_nil, List.length_cons, List.length_nil, List.replicate_succ, List.replicate_zero, List.append_nil, List.nil_append, List.cons_append, List.singleton_append, Nat.sub_self, Nat.zero_add, Nat.reduceAdd, Nat.reduceSub,
  List.getElem?_cons_zero, List.getElem?_cons_succ, List.set_cons_zero, List.set_cons_succ, Option.some.injEq, exists_eq_left, exists_eq_left', V.int.injEq, V.bl.injEq, V.str.injEq, V.ref.injEq,
  uAdd_int, uAdd_str, uSub_int, uMul_int, uMul_str, uDiv_int, uMod_int, uPow_int, uLt_int, uLe_int, uGt_int, uGe_int, uIs_non, uNis_non, uIs_bl, uNis_bl, sp1, sp2, sp3, sp4, uEq_int, uEq_str, uNe_int, uNe_str, uSl_str, uLen_str, decide_eq_true_eq])
local macro_rules | `(tactic| walk_at "1") => `(tactic| try simp only [turnE, lcT, Snoc, tRet, tRetN, tAndV, tOrV, tNotV, tCB, tCons, tVar, tNil, tC, tOp, tAsg, gName, gSub, tIfS, tDrop, tFn, tTup, tLst, tNext, tB, tTest, tNot, tAnd, tOr, tIf, tChain, tUn, rU, tFld, tPart, tNoPart, L2.tSl, tBM, tPar, tPar3, tTruth, tDNewK,
  L2.start, List.map_cons, List.map_nil, List.length_cons, List.length_nil, List.replicate_succ, List.replicate_zero, List.append_nil, List.nil_append, List.cons_append, List.singleton_append, Nat.sub_self, Nat.zero_add, Nat.reduceAdd, Nat.reduceSub,
  List.getElem?_cons_zero, List.getElem?_cons_succ, List.set_cons_zero, List.set_cons_succ, Option.some.injEq, exists_eq_left, exists_eq_left', V.int.injEq, V.bl.injEq, V.str.injEq, V.ref.injEq,
  uAdd_int, uAdd_str, uSub_int, uMul_int, uMul_str, uDiv_int, uMod_int, uPow_int, uLt_int, uLe_int, uGt_int, uGe_int, uIs_non, uNis_non, uIs_bl, uNis_bl, sp1, sp2, sp3, sp4, uEq_int, uEq_str, uNe_int, uNe_str, uSl_str, uLen_str, decide_eq_true_eq])
local macro_rules | `(tactic| walk_at "s") => `(tactic| ((try dsimp only [turnE]); with_reducible refine seq_ ?_))

include F in
theorem read__is_price_row (h : sp__is_price_row K vs H Q E) : t__is_price_row K E { nx := fun _ H' => Q .non H', rt := Q } (start ["value", "price"] vs) H := by
  match vs, h with
  | [x], ⟨b, hb, q⟩ =>
    unfold t__is_price_row
    walk_at "w"
    refine ⟨by decide, fun p hp => ?_⟩
    have e1 : Same H (upd H p (.tup [.ty "list", .ty "tuple"])) := same_new hp
    have hb1 := hb.same e1
    have hp1 : upd H p (.tup [.ty "list", .ty "tuple"]) p = some (.tup [.ty "list", .ty "tuple"]) := upd_same
    generalize upd H p (.tup [.ty "list", .ty "tuple"]) = H1 at *
    rcases hb1 with ⟨a, h1, h2, h3, rfl⟩ | ⟨r, xs, rfl, h1, h2, rfl⟩
    · refine isi_seq F hp1 h1 ?_
      have : (a.sub .lst || a.sub .tup) = false := by cases a <;> first | rfl | exact absurd rfl h2 | exact absurd rfl h3
      rw [this]
      exact ⟨_, rfl, q _ e1⟩
    · obtain ⟨a, ka, ks⟩ := h1.kind
      refine isi_seq F hp1 ka ?_
      rw [ks]
      refine ⟨_, rfl, ?_⟩
      rw [if_pos rfl]
      refine uLen_seq h1 (uLen_seq (.inr (F.ways H1)) ⟨_, rfl, ?_⟩)
      by_cases e : xs.length = 6
      · rw [decide_eq_true (by simp [e]), if_pos rfl]
        refine tLc_seq (p := r) h1 (tVar_eq rfl) fun J G P hG D hD => ?_
        refine lc_grow P (fun acc _ => acc = ((xs.map isPB).take acc.length).map V.bl) hD (by rw [e]; decide) hG (fun _ _ => rfl) (fun _ _ _ _ _ _ h => h) ?_ ?_
        · rintro i y acc H2 Q' hy s hl ha k
          obtain ⟨a, z⟩ := h2 y (List.mem_of_getElem? hy)
          have k := k (.bl (isPB y)) H2 (Same.refl _) (take_snoc V.bl ha hl (by simp [hy]))
          unfold sp_is_price
          walk_at "w"
          cases y with
          | non => simpa [isPB] using k
          | _ =>
            simp only [reduceCtorEq, decide_false, Bool.false_eq_true, if_false]
            refine ⟨a, z.same s, ?_⟩
            simpa [isPB, isPr] using k
        · rintro acc H2 hl s hD2 ha
          have hm : acc = (xs.map isPB).map V.bl := by
            rw [ha, hl, List.take_of_length_le (by simp)]
          refine ⟨D, xs.map isPB, rfl, .inl (.inl (by rw [hD2, hm])), ?_⟩
          have := q H2 (e1.trans s)
          simpa [e, List.all_map, Function.comp_def] using this
      · rw [decide_eq_false (by simp; omega)]
        simpa [e] using q _ e1
include F in
theorem read__are_rows (h : sp__are_rows K vs H Q E) : t__are_rows K E { nx := fun _ H' => Q .non H', rt := Q } (start ["value", "row"] vs) H := by
  match vs, h with
  | [x], ⟨b, hb, q⟩ =>
    unfold t__are_rows
    walk_at "w"
    refine ⟨by decide, fun p hp => ?_⟩
    have e1 : Same H (upd H p (.tup [.ty "list", .ty "tuple"])) := same_new hp
    have hb1 := hb.same e1
    have hp1 : upd H p (.tup [.ty "list", .ty "tuple"]) p = some (.tup [.ty "list", .ty "tuple"]) := upd_same
    generalize upd H p (.tup [.ty "list", .ty "tuple"]) = H1 at *
    rcases hb1 with ⟨a, h1, h2, h3, rfl⟩ | ⟨r, xs, bs, rfl, h1, hbl, h2, rfl⟩
    · refine isi_seq F hp1 h1 ?_
      have : (a.sub .lst || a.sub .tup) = false := by cases a <;> first | rfl | exact absurd rfl h2 | exact absurd rfl h3
      rw [this]
      exact ⟨_, rfl, q _ e1⟩
    · obtain ⟨a, ka, ks⟩ := h1.kind
      refine isi_seq F hp1 ka ?_
      rw [ks]
      refine ⟨_, rfl, ?_⟩
      rw [if_pos rfl]
      refine uLen_seq h1 ?_
      walk_at "w"
      by_cases l1 : 1 ≤ xs.length
      · rw [if_pos (show (1 : Int) ≤ xs.length by omega)]
        by_cases l2 : xs.length ≤ 60
        · rw [if_pos (show (xs.length : Int) ≤ 60 by omega)]
          refine tLc_seq (p := r) h1 (tVar_eq rfl) fun J G P hG D hD => ?_
          refine lc_grow P (fun acc _ => acc = (bs.take acc.length).map V.bl) hD (Nat.le_trans l2 (by decide)) hG (fun _ _ => rfl) (fun _ _ _ _ _ _ h => h) ?_ ?_
          · rintro i y acc H2 Q' hy s hl ha k
            have lt : i < xs.length := (List.getElem?_eq_some_iff.mp hy).1
            have hc : bs[i]? = some bs[i] := List.getElem?_eq_getElem (by omega)
            have z := (h2 i y _ hy hc).same s
            unfold sp__is_price_row
            walk_at "w"
            refine ⟨_, z, fun H3 s3 => k _ _ s3 ?_⟩
            exact take_snoc V.bl ha hl hc
          · rintro acc H2 hl s hD2 ha
            have hm : acc = bs.map V.bl := by rw [ha, hl, List.take_of_length_le (by omega)]
            refine ⟨D, bs, rfl, .inl (.inl (by rw [hD2, hm])), ?_⟩
            have := q H2 (e1.trans s)
            simpa [l1, l2] using this
        · rw [if_neg (show ¬ (xs.length : Int) ≤ 60 by omega)]
          simpa [l2] using q _ e1
      · rw [if_neg (show ¬ (1 : Int) ≤ xs.length by omega)]
        simpa [l1] using q _ e1
end
/-! ### making a yard -/
def RowV (K : PySem.W.Frag) (H : Hp) (x : V) (rows : List (List (Option Int))) : Prop := ∃ (p : Addr) (xs : List V), x = .ref p ∧ SqA K H p xs ∧ xs.length = rows.length ∧
  ∀ (i : Nat) (v : V) (r : List (Option Int)), xs[i]? = some v → rows[i]? = some r → ∃ q, v = .ref q ∧ SqA K H q (r.map pV)
def RowsOk (rows : List (List (Option Int))) : Prop := 1 ≤ rows.length ∧ rows.length ≤ 60 ∧ ∀ r ∈ rows, r.length = 6 ∧ r.all okP = true
theorem isPB_pV (p : Option Int) : isPB (pV p) = okP p := by cases p <;> rfl
theorem is_pV {K : PySem.W.Frag} {H : Hp} (p : Option Int) : ∃ a, Is K H (pV p) a := by
  cases p with
  | none => exact ⟨_, is_non⟩
  | some i => exact ⟨_, is_int i⟩
section
variable {K : PySem.W.Frag} {H H' : Hp} {x : V} {rows : List (List (Option Int))}
theorem RowV.same (e : Same H H') (h : RowV K H x rows) : RowV K H' x rows := by
  obtain ⟨p, xs, h1, h2, h3, h4⟩ := h
  refine ⟨p, xs, h1, h2.same e, h3, fun i v r g1 g2 => ?_⟩
  obtain ⟨q, z1, z2⟩ := h4 i v r g1 g2
  exact ⟨q, z1, z2.same e⟩
theorem RowV.rowsB (h : RowV K H x rows) (o : RowsOk rows) : RowsB K H x true := by
  obtain ⟨p, xs, h1, h2, h3, h4⟩ := h
  obtain ⟨o1, o2, o3⟩ := o
  refine .inr ⟨p, xs, xs.map fun _ => true, h1, h2, by simp, fun i v c g1 g2 => ?_, by simp; omega⟩
  rw [List.getElem?_map, g1] at g2
  cases g2
  have lt : i < rows.length := h3 ▸ (List.getElem?_eq_some_iff.mp g1).1
  obtain ⟨q, rfl, z⟩ := h4 i v rows[i] g1 (List.getElem?_eq_getElem lt)
  obtain ⟨k1, k2⟩ := o3 rows[i] (List.getElem_mem lt)
  refine .inr ⟨q, _, rfl, z, fun v m => ?_, ?_⟩
  · obtain ⟨p, _, rfl⟩ := List.mem_map.mp m
    exact is_pV p
  · rw [List.length_map, k1, List.all_map]
    have : (isPB ∘ pV) = okP := funext isPB_pV
    rw [this, k2]
    rfl
theorem Off.sqT_ins {a D : Addr} {xs : List V} {C dx : Addr} {fs : List (Str × V)} (h : Off D H H') (hD : H D = some (.ins C dx fs)) (q : SqT K H a xs) : SqT K H' a xs := by
  rcases q with (q | ⟨o, q⟩) | q
  · exact .inl (.inl (h _ _ (by rintro rfl; rw [hD] at q; cases q) q))
  · exact .inl (.inr ⟨o, h _ _ (by rintro rfl; rw [hD] at q; cases q) q⟩)
  · exact .inr q
end
def sp_Yard_init (K : PySem.W.Frag) : Sp := sp2 fun s x H Q E => ∃ a dx, s = .ref a ∧ H a = some (.ins (He.ga K "Yard") dx []) ∧
  ((∃ rows, RowV K H x rows ∧ RowsOk rows ∧ ∀ H', Off a H H' → Yd K H' a rows → Q .non H') ∨ (RowsB K H x false ∧ Rz K "InvalidYard" "value" x H E))
def t_Yard_init (K : PySem.W.Frag) (E : XK) : TS := (tSeq (tIfS (tNot (tB (tFn (sp__are_rows K) E (tCons (tVar 1) tNil)))) (tRse K "InvalidYard" "value" E (tCons (tVar 1) tNil)) tNext) (tSeq (sFld K (tVar 0) (tCB (uTup K) (tCons (tLc (iSeq K (tVar 1)) (gName 2) tYes (tCB (uTup K) (tCons (tVar 2) tNil)) [2]) tNil)) "_rows") (sFld K (tVar 0) (tC .non) "_reckoning")))
section
variable {K : PySem.W.Frag} (F : KF K) {vs : List V} {H : Hp} {Q : VK} {E : XK}
local macro_rules | `(tactic| walk_at "w") => `(tactic| try simp only [turnE, lcT, Snoc, tRet, tRetN, tAndV, tOrV, tNotV, tCB, tCons, tVar, tNil, tC, tOp, tSeq, tAsg, gName, gSub, tIfS, tDrop, tFn, tTup, tLst, tNext, tB, tTest, tNot, tAnd, tOr, tIf, tChain, tUn, rU, tFld, tPart, tNoPart, L2.tSl, tBM, tPar, tPar3, tTruth, tDNewK,
  L2.start, List.map_cons, List.map_nil, List.length_cons, List.length_nil, List.replicate_succ, List.replicate_zero, List.append_nil, List.nil_append, List.cons_append, List.singleton_append, Nat.sub_self, Nat.zero_add, Nat.reduceAdd, Nat.reduceSub,
  List.getElem?_cons_zero, List.getElem?_cons_succ, List.set_cons_zero, List.set_cons_succ, Option.some.injEq, exists_eq_left, exists_eq_left', V.int.injEq, V.bl.injEq, V.str.injEq, V.ref.injEq,
  uAdd_int, uAdd_str, uSub_int, uMul_int, uMul_str, uDiv_int, uMod_int, uPow_int, uLt_int, uLe_int, uGt_int, uGe_int, uIs_non, uNis_non, uIs_bl, uNis_bl, sp1, sp2, sp3, sp4, uEq_int, uEq_str, uNe_int, uNe_str, uSl_str, uLen_str, decide_eq_true_eq])
local macro_rules | `(tactic| walk_at "1") => `(tactic| try simp only [turnE, lcT, Snoc, tRet, tRetN, tAndV, tOrV, tNotV, tCB, tCons, tVar, tNil, tC, tOp, tAsg, gName, gSub, tIfS, tDrop, tFn, tTup, tLst, tNext, tB, tTest, tNot, tAnd, tOr, tIf, tChain, tUn, rU, tFld, tPart, tNoPart, L2.tSl, tBM, tPar, tPar3, tTruth, tDNewK,
  L2.start, List.map_cons, List.map_nil, List.length_cons, List.length_nil, List.replicate_succ, List.replicate_zero, List.append_nil, List.nil_append, List.cons_append, List.singleton_append, Nat.sub_self, Nat.zero_add, Nat.reduceAdd, Nat.reduceSub,
  List.getElem?_cons_zero, List.getElem?_cons_succ, List.set_cons_zero, List.set_cons_succ, Option.some.injEq, exists_eq_left, exists_eq_left', V.int.injEq, V.bl.injEq, V.str.injEq, V.ref.injEq,
  uAdd_int, uAdd_str, uSub_int, uMul_int, uMul_str, uDiv_int, uMod_int, uPow_int, uLt_int, uLe_int, uGt_int, uGe_int, uIs_non, uNis_non, uIs_bl, uNis_bl, sp1, sp2, sp3, sp4, uEq_int, uEq_str, uNe_int, uNe_str, uSl_str, uLen_str, decide_eq_true_eq])
local macro_rules | `(tactic| walk_at "s") => `(tactic| ((try dsimp only [turnE]); with_reducible refine seq_ ?_))

include F in
theorem read_Yard_init (h : sp_Yard_init K vs H Q E) : t_Yard_init K E { nx := fun _ H' => Q .non H', rt := Q } (start ["self", "rows", "row"] vs) H := by
  match vs, h with
  | [_, x], ⟨a, dx, rfl, ha, h⟩ =>
    unfold t_Yard_init sp__are_rows
    walk_at "w"
    rcases h with ⟨rows, hr, ho, q⟩ | ⟨hb, rz⟩
    · refine ⟨true, hr.rowsB ho, fun H1 s1 => ?_⟩
      simp only [Bool.not_true, Bool.false_eq_true, if_false, sFld, tCB]
      obtain ⟨p, xs, rfl, h2, h3, h4⟩ := hr.same s1
      refine tLc_seq (p := p) h2 (tVar_eq rfl) fun J G P hG D hD => ?_
      refine lc_grow P (fun acc H => ∃ as : List Addr, acc = as.map V.ref ∧ as.length ≤ rows.length ∧ ∀ (i : Nat) (a : Addr) (r : List (Option Int)), as[i]? = some a → rows[i]? = some r → SqT K H a (r.map pV)) hD
        (by rw [h3]; exact Nat.le_trans ho.2.1 (by decide)) hG (fun _ _ => ⟨[], rfl, Nat.zero_le _, fun i a r z => by simp at z⟩) ?_ ?_ ?_
      · rintro acc l H2 H3 hl o ⟨as, e1, e2, e3⟩
        exact ⟨as, e1, e2, fun i a r z1 z2 => o.sqT hl (e3 i a r z1 z2)⟩
      · rintro i y acc H2 Q' hy s hl ⟨as, e1, e2, e3⟩ k
        have lt : i < rows.length := h3 ▸ (List.getElem?_eq_some_iff.mp hy).1
        obtain ⟨b, rfl, z⟩ := h4 i y rows[i] hy (List.getElem?_eq_getElem lt)
        have z := z.same s
        walk_at "w"
        have hl2 : as.length = i := by rw [e1, List.length_map] at hl; exact hl
        have step : ∀ (c : Addr) (H3 : Hp), Same H2 H3 → SqT K H3 c (rows[i].map pV) → Q' (.ref c) H3 := fun c H3 s3 hc => by
          refine k _ _ s3 ⟨as ++ [c], by simp [e1], by simp; omega, fun j d r z1 z2 => ?_⟩
          by_cases e : j = i
          · subst e
            rw [List.getElem?_append_right (by omega), hl2] at z1
            simp at z1
            subst z1
            rw [List.getElem?_eq_getElem lt] at z2
            cases z2
            exact hc
          · have : j < as.length := by
              have := (List.getElem?_eq_some_iff.mp z1).1
              simp at this
              omega
            rw [List.getElem?_append_left this] at z1
            exact Same.sqT s3 (e3 j d r z1 z2)
        rcases z with z | z
        · exact ⟨_, .inl ⟨z, fun l hl => step l _ (same_new hl) (.inl (.inl upd_same))⟩⟩
        · exact ⟨_, .inr ⟨z, step b _ (Same.refl _) z⟩⟩
      · rintro acc H2 hl s hD2 ⟨as, e1, e2, e3⟩
        have hla : as.length = rows.length := by rw [e1, List.length_map] at hl; omega
        refine ⟨acc, .inl ⟨.inl (.inl hD2), fun t ht => ?_⟩⟩
        have st : Same H2 (upd H2 t (.tup acc)) := same_new ht
        have hat : upd H2 t (.tup acc) a = some (.ins (He.ga K "Yard") dx []) := st _ _ (s _ _ (s1 _ _ ha))
        have htt : upd H2 t (.tup acc) t = some (.tup acc) := upd_same
        have sall : Same H (upd H2 t (.tup acc)) := (s1.trans s).trans st
        have e3' : ∀ (i : Nat) (a : Addr) (r : List (Option Int)), as[i]? = some a → rows[i]? = some r → SqT K (upd H2 t (.tup acc)) a (r.map pV) := fun i a r z1 z2 => Same.sqT st (e3 i a r z1 z2)
        generalize upd H2 t (.tup acc) = H4 at *
        refine ⟨.ref a, rfl, a, _, dx, [], rfl, hat, F.cl, F.na, by simp, ?_⟩
        refine ⟨.ref a, rfl, a, _, dx, _, rfl, upd_same, F.cl, F.na2, by simp [putF], ?_⟩
        have of : Off a H4 (upd (upd H4 a (.ins (He.ga K "Yard") dx (putF "_rows" (.ref t) []))) a (.ins (He.ga K "Yard") dx (putF "_reckoning" .non (putF "_rows" (.ref t) [])))) := Off.trans off_upd off_upd
        refine q _ (Off.trans (Same.off sall) of) ⟨dx, t, as, upd_same, of.sqT_ins hat (.inl (.inl (by rw [htt, e1]))), hla, ho.2.1, ho.1, fun i b r z1 z2 => of.sqT_ins hat (e3' i b r z1 z2), ho.2.2⟩
    · refine ⟨false, hb, fun H1 s1 => ?_⟩
      simp only [if_true, Bool.not_false]
      exact rse_var (K := K) (c := "InvalidYard") (f := "value") (E := E) (i := 1) rfl (rz.same s1)
end
end U
namespace U
open PySem PySem.Spec PyProof.Rows L2

/-! ### arrangements as lists of digits -/
def pl (d : Nat) : Str := ⟨#[97 + d]⟩
def wd (ds : List Nat) : Str := ⟨(ds.map (97 + ·)).toArray⟩
def num (ds : List Nat) : Int := ds.foldl (fun (n : Int) (d : Nat) => n * 3 + (d : Int)) 0
def D3 (ds : List Nat) : Prop := ∀ d ∈ ds, d < 3
theorem pl_a : pl 0 = "a" := by decide
theorem pl_b : pl 1 = "b" := by decide
theorem pl_c : pl 2 = "c" := by decide
theorem pl_inj {a b : Nat} (h : pl a = pl b) : a = b := by
  have := congrArg Str.cps h
  simp [pl] at this
  omega
theorem strL_wd (ds : List Nat) : strL (wd ds) = ds.map fun d => V.str (pl d) := by
  simp [strL, wd, pl]
theorem wd_size (ds : List Nat) : (wd ds).cps.size = ds.length := by simp [wd]
theorem wd_length (ds : List Nat) : (wd ds).length = ds.length := wd_size ds
theorem wd_app (as bs : List Nat) : wd as ++ wd bs = wd (as ++ bs) := by
  show (⟨(wd as).cps ++ (wd bs).cps⟩ : Str) = _
  simp [wd]
theorem wd_pl (d : Nat) : wd [d] = pl d := rfl
theorem wd_inj {as bs : List Nat} (h : wd as = wd bs) : as = bs := by
  have := congrArg (fun z => z.cps.toList) h
  simp only [wd, List.toList_toArray] at this
  have h2 := congrArg (List.map (· - 97)) this
  simp only [List.map_map] at h2
  have e : ((fun x => x - 97) ∘ fun x => 97 + x) = (id : Nat → Nat) := by
    funext x
    simp
  rw [e, List.map_id, List.map_id] at h2
  exact h2
theorem num_snoc (ds : List Nat) (d : Nat) : num (ds ++ [d]) = num ds * 3 + d := by simp [num]
theorem num_nil : num [] = 0 := rfl
theorem isPl_pl {d : Nat} (h : d < 3) : isPl (.str (pl d)) = true := by
  match d, h with
  | 0, _ => decide
  | 1, _ => decide
  | 2, _ => decide
theorem isPl_inv {x : V} (h : isPl x = true) : ∃ d, d < 3 ∧ x = .str (pl d) := by
  cases x with
  | str z =>
    simp only [isPl, Bool.or_eq_true, decide_eq_true_eq] at h
    rcases h with (h | h) | h
    · exact ⟨0, by decide, by rw [h, pl_a]⟩
    · exact ⟨1, by decide, by rw [h, pl_b]⟩
    · exact ⟨2, by decide, by rw [h, pl_c]⟩
  | _ => cases h
/-- is a value an arrangement of n crates -/
def arrB (n : Nat) : V → Bool
  | .str z => decide (z.cps.size = n) && (strL z).all isPl
  | _ => false
theorem arrB_wd {n : Nat} {ds : List Nat} (h : ds.length = n) (h3 : D3 ds) : arrB n (.str (wd ds)) = true := by
  simp only [arrB, wd_size, h, decide_true, Bool.true_and, strL_wd, List.all_map, List.all_eq_true, Function.comp]
  exact fun d m => isPl_pl (h3 d m)
def Short (x : V) : Prop := ∀ z, x = .str z → z.length ≤ sizeLine
/-- a yard, or an InvalidYard -/
def YardOr (K : PySem.W.Frag) (H : Hp) (y : V) (E : XK) (k : List (List (Option Int)) → Prop) : Prop := ∃ a, Is K H y a ∧ (a ≠ .yard → Rz K "InvalidYard" "value" y H E) ∧ (a = .yard → ∃ p rows, y = .ref p ∧ Yd K H p rows ∧ k rows)
theorem yardOr_of {K : PySem.W.Frag} (F : KF K) {H : Hp} {p : Addr} {E : XK} {rows : List (List (Option Int))} {k : List (List (Option Int)) → Prop} (h : Yd K H p rows) (q : k rows) : YardOr K H (.ref p) E k := by
  obtain ⟨dx, t, as, h1, _⟩ := id h
  exact ⟨.yard, is_yard F h1, fun z => absurd rfl z, fun _ => ⟨p, rows, rfl, h, q⟩⟩
theorem YardOr.to {K : PySem.W.Frag} {H : Hp} {y : V} {E E' : XK} {k k' : List (List (Option Int)) → Prop} (h : YardOr K H y E k) (e : Rz K "InvalidYard" "value" y H E → Rz K "InvalidYard" "value" y H E') (f : ∀ p rows, y = .ref p → Yd K H p rows → k rows → k' rows) : YardOr K H y E' k' := by
  obtain ⟨a, h1, h2, h3⟩ := h
  refine ⟨a, h1, fun z => e (h2 z), fun z => ?_⟩
  obtain ⟨p, rows, r1, r2, r3⟩ := h3 z
  exact ⟨p, rows, r1, r2, f p rows r1 r2 r3⟩
theorem lenO_of {K : PySem.W.Frag} {H : Hp} {y : Addr} {rows : List (List (Option Int))} {Q : VK} (h : Yd K H y rows) (q : Q (.int rows.length) H) : rLenO (He.ga K "Yard") (sp_Yard_len K) [.ref y] H Q := by
  obtain ⟨dx, t, as, h1, h2, h3, h4, h5, h6⟩ := id h
  exact ⟨y, dx, _, rfl, h1, y, rows, rfl, h, rows.length, rfl, by omega, by omega, q⟩
def sp_is_arrangement (K : PySem.W.Frag) : Sp := sp2 fun y x H Q E => YardOr K H y E fun rows => ∃ b, Is K H x b ∧ Short x ∧ ∀ H', Same H H' → Q (.bl (arrB rows.length x)) H'
def sp_check_arrangement (K : PySem.W.Frag) : Sp := sp2 fun y x H Q E => YardOr K H y E fun rows => ∃ b, Is K H x b ∧ Short x ∧ (arrB rows.length x = true → ∀ H', Same H H' → Q .non H') ∧ (arrB rows.length x = false → Rz K "InvalidArrangement" "value" x H E)
def sp_tower (K : PySem.W.Frag) : Sp := sp2 fun y x H Q E => YardOr K H y E fun rows => ∃ b, Is K H x b ∧ (isPl x = false → Rz K "InvalidPlace" "value" x H E) ∧ (∀ d, d < 3 → x = .str (pl d) → Q (.str (wd (List.replicate rows.length d))) H)
def sp_how_many_arrangements (K : PySem.W.Frag) : Sp := sp1 fun y H Q _ => ∃ p rows, y = .ref p ∧ Yd K H p rows ∧ Q (.int (3 ^ rows.length)) H
def Arr (n : Nat) (x : V) (ds : List Nat) : Prop := x = .str (wd ds) ∧ ds.length = n ∧ D3 ds
/-- no arrangement, and so an InvalidArrangement -/
def NoArr (K : PySem.W.Frag) (H : Hp) (n : Nat) (x : V) (E : XK) : Prop := ∃ b, Is K H x b ∧ Short x ∧ arrB n x = false ∧ Rz K "InvalidArrangement" "value" x H E
def sp_number_of (K : PySem.W.Frag) : Sp := sp2 fun y x H Q E => YardOr K H y E fun rows => (∃ ds, Arr rows.length x ds ∧ ∀ H', Same H H' → Q (.int (num ds)) H') ∨ NoArr K H rows.length x E
def sp_arrangement_at (K : PySem.W.Frag) : Sp := sp2 fun y x H Q E => YardOr K H y E fun rows =>
  (∃ ds, x = .int (num ds) ∧ ds.length = rows.length ∧ D3 ds ∧ ∀ H', Same H H' → Q (.str (wd ds)) H') ∨ (∃ b, Is K H x b ∧ isIn x 0 (3 ^ rows.length - 1) = false ∧ Rz K "InvalidCount" "value" x H E)
/-- the crates, below n, on a place -/
def onsN (n : Nat) (ds : List Nat) (d : Nat) : List Int := ((List.range n).filter fun i => ds[i]? == some d).map Int.ofNat
def ons (ds : List Nat) (d : Nat) : List Int := onsN ds.length ds d
def sp_on_place (K : PySem.W.Frag) : Sp := sp3 fun y x z H Q E => YardOr K H y E fun rows => NoArr K H rows.length x E ∨ ∃ ds, Arr rows.length x ds ∧ ∃ b, Is K H z b ∧ (isPl z = false → Rz K "InvalidPlace" "value" z H E) ∧
  (∀ d, d < 3 → z = .str (pl d) → ∀ H' l, Same H H' → H l = none → H' l = some (.lst ((ons ds d).map V.int)) → Q (.ref l) H')
def topV (l : List Int) : V := match l.getLast? with
  | some i => .int i
  | none => .non
def sp_top_crate (K : PySem.W.Frag) : Sp := sp3 fun y x z H Q E => YardOr K H y E fun rows => NoArr K H rows.length x E ∨ ∃ ds, Arr rows.length x ds ∧ ∃ b, Is K H z b ∧ (isPl z = false → Rz K "InvalidPlace" "value" z H E) ∧
  (∀ d, d < 3 → z = .str (pl d) → ∀ H', Same H H' → Q (topV (ons ds d)) H')
def t_is_arrangement (K : PySem.W.Frag) (E : XK) : TS := (tSeq (tDrop (tFn (sp_check_yard K) E (tCons (tVar 0) tNil))) (tRet (tAndV (tCB (uIsi K) (tCons (tVar 1) (tCons (tC (.ty "str")) tNil))) (tAndV (tOp (uEq K) (tCB (uLen K) (tCons (tVar 1) tNil)) (tCB (rLenO (He.ga K "Yard") (sp_Yard_len K)) (tCons (tVar 0) tNil))) (tOp (uEq K) (tBM K "str" rStrip (tVar 1) (tCons (tC (.str "abc")) tNil)) (tC (.str "")))))))
def t_check_arrangement (K : PySem.W.Frag) (E : XK) : TS := (tIfS (tNot (tB (tFn (sp_is_arrangement K) E (tCons (tVar 0) (tCons (tVar 1) tNil))))) (tRse K "InvalidArrangement" "value" E (tCons (tVar 1) tNil)) tNext)
def t_tower (K : PySem.W.Frag) (E : XK) : TS := (tSeq (tDrop (tFn (sp_check_yard K) E (tCons (tVar 0) tNil))) (tSeq (tDrop (tFn (sp_check_place K) E (tCons (tVar 1) tNil))) (tRet (tOp uMul (tVar 1) (tCB (rLenO (He.ga K "Yard") (sp_Yard_len K)) (tCons (tVar 0) tNil))))))
def t_how_many_arrangements (K : PySem.W.Frag) (E : XK) : TS := (tSeq (tAsg (tC (.int 1)) (gName 1)) (tSeq (tFor (iRng1 (tCons (tCB (rLenO (He.ga K "Yard") (sp_Yard_len K)) (tCons (tVar 0) tNil)) tNil)) (gName 2) (tAsg (tOp uMul (tVar 1) (tCB (uLen K) (tCons (tC (.ref (He.ga K "PLACES"))) tNil))) (gName 1))) (tRet (tVar 1))))
def t_number_of (K : PySem.W.Frag) (E : XK) : TS := (tSeq (tDrop (tFn (sp_check_arrangement K) E (tCons (tVar 0) (tCons (tVar 1) tNil)))) (tSeq (tAsg (tC (.int 0)) (gName 2)) (tSeq (tFor (iStr (tVar 1)) (gName 3) (tAsg (tOp uAdd (tOp uMul (tVar 2) (tCB (uLen K) (tCons (tC (.ref (He.ga K "PLACES"))) tNil))) (tBM K "tuple" (rTIdx K) (tC (.ref (He.ga K "PLACES"))) (tCons (tVar 3) tNil))) (gName 2))) (tRet (tVar 2)))))
def t_arrangement_at (K : PySem.W.Frag) (E : XK) : TS := (tSeq (tDrop (tFn (sp_check_yard K) E (tCons (tVar 0) tNil))) (tSeq (tIfS (tNot (tB (tFn (sp_is_integer_within K) E (tCons (tVar 1) (tCons (tC (.int 0)) (tCons (tOp uSub (tFn (sp_how_many_arrangements K) E (tCons (tVar 0) tNil)) (tC (.int 1))) tNil)))))) (tRse K "InvalidCount" "value" E (tCons (tVar 1) tNil)) tNext) (tSeq (tAsg (tC (.str "")) (gName 2)) (tSeq (tAsg (tVar 1) (gName 3)) (tSeq (tFor (iRng1 (tCons (tCB (rLenO (He.ga K "Yard") (sp_Yard_len K)) (tCons (tVar 0) tNil)) tNil)) (gName 4) (tSeq (tAsg (tCB rDivmod (tCons (tVar 3) (tCons (tCB (uLen K) (tCons (tC (.ref (He.ga K "PLACES"))) tNil)) tNil))) (gTup K 2 (gCons (gName 3) (gCons (gName 5) gNil)))) (tAsg (tOp uAdd (tOp (uIx K) (tC (.ref (He.ga K "PLACES"))) (tVar 5)) (tVar 2)) (gName 2)))) (tRet (tVar 2)))))))
def t_on_place (K : PySem.W.Frag) (E : XK) : TS := (tSeq (tDrop (tFn (sp_check_arrangement K) E (tCons (tVar 0) (tCons (tVar 1) tNil)))) (tSeq (tDrop (tFn (sp_check_place K) E (tCons (tVar 2) tNil))) (tRet (tLc (iEnumU K (tCons (tVar 1) tNil)) (gTup K 2 (gCons (gName 3) (gCons (gName 4) gNil))) (tTest (tOp (uEq K) (tVar 4) (tVar 2))) (tVar 3) [3, 4]))))
def t_top_crate (K : PySem.W.Frag) (E : XK) : TS := (tSeq (tAsg (tFn (sp_on_place K) E (tCons (tVar 0) (tCons (tVar 1) (tCons (tVar 2) tNil)))) (gName 3)) (tRet (tIf (tTruth K (tVar 3)) (tOp (uIx K) (tVar 3) (tUn (rU fun i => .int (-i)) (tC (.int 1)))) (tC .non))))
section
variable {K : PySem.W.Frag} (F : KF K) {vs : List V} {H : Hp} {Q : VK} {E : XK}
local macro_rules | `(tactic| walk_at "w") => `(tactic| try simp only [turnE, lcT, Snoc, tRet, tRetN, tAndV, tOrV, tNotV, tCB, tCons, tVar, tNil, tC, tOp, tSeq, tAsg, gName, gSub, tIfS, tDrop, tFn, tTup, tLst, tNext, tB, tTest, tNot, tAnd, tOr, tIf, tChain, tUn, rU, tFld, tPart, tNoPart, L2.tSl, tBM, tPar, tPar3, tTruth, tDNewK,
  L2.start, List.map_cons, List.map_nil, List.length_cons, List.length_nil, List.replicate_succ, List.replicate_zero, List.append_nil, List.nil_append, List.cons_append, List.singleton_append, Nat.sub_self, Nat.zero_add, Nat.reduceAdd, Nat.reduceSub,
  List.getElem?_cons_zero, List.getElem?_cons_succ, List.set_cons_zero, List.set_cons_succ, Option.some.injEq, exists_eq_left, exists_eq_left', V.int.injEq, V.bl.injEq, V.str.injEq, V.ref.injEq,
  uAdd_int, uAdd_str, uSub_int, uMul_int, uMul_str, uDiv_int, uMod_int, uPow_int, uLt_int, uLe_int, uGt_int, uGe_int, uIs_non, uNis_non, uIs_bl, uNis_bl, sp1, sp2, sp3, sp4, uEq_int, uEq_str, uNe_int, uNe_str, uSl_str, uLen_str, decide_eq_true_eq])
local macro_rules | `(tactic| walk_at "1") => `(tactic| try simp only [turnE, lcT, Snoc, tRet, tRetN, tAndV, tOrV, tNotV, tCB, tCons, tVar, tNil, tC, tOp, tAsg, gName, gSub, tIfS, tDrop, tFn, tTup, tLst, tNext, tB, tTest, tNot, tAnd, tOr, tIf, tChain, tUn, rU, tFld, tPart, tNoPart, L2.tSl, tBM, tPar, tPar3, tTruth, tDNewK,
  L2.start, List.map_cons, List.map_nil, List.length_cons, List.length_nil, List.replicate_succ, List.replicate_zero, List.append_nil, List.nil_append, List.cons_append, List.singleton_append, Nat.sub_self, Nat.zero_add, Nat.reduceAdd, Nat.reduceSub,
  List.getElem?_cons_zero, List.getElem?_cons_succ, List.set_cons_zero, List.set_cons_succ, Option.some.injEq, exists_eq_left, exists_eq_left', V.int.injEq, V.bl.injEq, V.str.injEq, V.ref.injEq,
  uAdd_int, uAdd_str, uSub_int, uMul_int, uMul_str, uDiv_int, uMod_int, uPow_int, uLt_int, uLe_int, uGt_int, uGe_int, uIs_non, uNis_non, uIs_bl, uNis_bl, sp1, sp2, sp3, sp4, uEq_int, uEq_str, uNe_int, uNe_str, uSl_str, uLen_str, decide_eq_true_eq])
local macro_rules | `(tactic| walk_at "s") => `(tactic| ((try dsimp only [turnE]); with_reducible refine seq_ ?_))

theorem in_pl {z : Str} {H : Hp} {Q : VK} (F : KF K) (q : Q (.bl (isPl (.str z))) H) : uIn K false (.str z) (.ref (He.ga K "PLACES")) H Q :=
  ⟨_, _, rfl, .inr (F.places H), rfl, rfl, by simpa [in_places] using q⟩
/-- check_yard(y), and then -/
theorem chk_yard {y : V} {H : Hp} {k : List (List (Option Int)) → Prop} {Q : VK} (h : YardOr K H y E k) (q : ∀ p rows, y = .ref p → Yd K H p rows → k rows → Q .non H) : sp_check_yard K [y] H Q E := by
  obtain ⟨a, h1, h2, h3⟩ := h
  refine ⟨a, h1, fun e => ?_, h2⟩
  obtain ⟨p, rows, z1, z2, z3⟩ := h3 e
  exact q p rows z1 z2 z3
theorem abc_one (c : Nat) : ("abc" : Str).cps.contains c = true ↔ isPl (.str ⟨#[c]⟩) = true := by
  have e : ("abc" : Str).cps = #[97, 98, 99] := by decide
  rw [e]
  constructor
  · intro h
    have h : c = 97 ∨ c = 98 ∨ c = 99 := by simpa using h
    rcases h with rfl | rfl | rfl <;> decide
  · intro h
    obtain ⟨d, hd, h2⟩ := isPl_inv h
    injection h2 with h2
    have h3 : (#[c] : Array Nat) = #[97 + d] := congrArg Str.cps h2
    have h4 : c = 97 + d := by simpa using h3
    subst h4
    have : d = 0 ∨ d = 1 ∨ d = 2 := by omega
    rcases this with rfl | rfl | rfl <;> simp
theorem strip_places (z : Str) : decide (Txt.stripChars z "abc" = "") = (strL z).all isPl := by
  rw [Bool.eq_iff_iff, decide_eq_true_iff, strip_nil, List.all_eq_true]
  unfold strL
  constructor
  · intro h v hv
    obtain ⟨c, hc, rfl⟩ := List.mem_map.mp hv
    exact (abc_one c).mp (h c hc)
  · intro h c hc
    exact (abc_one c).mpr (h _ (List.mem_map.mpr ⟨c, hc, rfl⟩))
include F in
theorem read_is_arrangement (h : sp_is_arrangement K vs H Q E) : t_is_arrangement K E { nx := fun _ H' => Q .non H', rt := Q } (start ["yard", "value"] vs) H := by
  match vs, h with
  | [y, x], h =>
    unfold t_is_arrangement
    walk_at "w"
    refine chk_yard h fun p rows ep hy ⟨b, hb, hs, q⟩ => ?_
    subst ep
    refine isi_ty (b := .str) F rfl hb ?_
    walk_at "w"
    by_cases e : b = .str
    · subst e
      obtain ⟨z, rfl⟩ := hb.str_inv
      simp only [Ty.sub, decide_true, Bool.true_or, if_true]
      refine ⟨hs z rfl, ?_⟩
      refine lenO_of hy ?_
      rw [uEq_int]
      refine ⟨_, rfl, ?_⟩
      by_cases el : z.cps.size = rows.length
      · rw [decide_eq_true (by show ((z.cps.size : Nat) : Int) = _; omega), if_pos rfl]
        refine ⟨rfl, z, "abc", rfl, rfl, hs z rfl, ?_⟩
        walk_at "w"
        rw [strip_places]
        have := q H (Same.refl H)
        simpa [arrB, el] using this
      · rw [decide_eq_false (by show ¬ ((z.cps.size : Nat) : Int) = _; omega), if_neg (by simp)]
        have := q H (Same.refl H)
        simpa [arrB, el] using this
    · rw [if_neg (by simp [Ty.sub, e])]
      have this := q H (Same.refl H)
      have e2 : arrB rows.length x = false := by cases x <;> first | rfl | exact absurd hb.of_str e
      rwa [e2] at this
include F in
theorem read_check_arrangement (h : sp_check_arrangement K vs H Q E) : t_check_arrangement K E { nx := fun _ H' => Q .non H', rt := Q } (start ["yard", "arrangement"] vs) H := by
  match vs, h with
  | [y, x], h =>
    unfold t_check_arrangement sp_is_arrangement
    walk_at "w"
    refine YardOr.to h id fun p rows ep hy ⟨b, hb, hs, q1, q2⟩ => ⟨b, hb, hs, fun H1 s => ?_⟩
    cases e : arrB rows.length x with
    | true => exact q1 e H1 s
    | false => exact rse_var (K := K) (c := "InvalidArrangement") (f := "value") (E := E) (i := 1) (D := { nx := fun _ H' => Q .non H', rt := Q }) rfl ((q2 e).same s)

theorem mul_pl (d n : Nat) : Txt.mul (pl d) (n : Int) = wd (List.replicate n d) := by
  have key : ∀ (m : Nat) (acc : Array Nat), ((List.replicate m (pl d).cps).foldl (· ++ ·) acc).toList = acc.toList ++ List.replicate m (97 + d) := by
    intro m
    induction m with
    | zero => intro acc; simp
    | succ m ih =>
      intro acc
      rw [List.replicate_succ, List.foldl_cons, ih]
      simp [pl, List.replicate_succ]
  have e : (wd (List.replicate n d)).cps.toList = List.replicate n (97 + d) := by simp [wd]
  have ext : ∀ a b : Str, a.cps.toList = b.cps.toList → a = b := fun a b h => by
    obtain ⟨a⟩ := a
    obtain ⟨b⟩ := b
    exact congrArg Str.mk (Array.toList_inj.mp h)
  apply ext
  rw [e]
  unfold Txt.mul
  match n with
  | 0 => rfl
  | 1 => rfl
  | n + 2 =>
    rw [if_neg (by omega), if_neg (by
      have h1 : (((n + 2 : Nat) : Int) == 1) = false := by simpa using (by omega : ¬ ((n : Int) + 2 = 1))
      have h2 : ((pl d).length == 0) = false := rfl
      rw [h1, h2]; decide)]
    rw [key]
    simp
    omega
theorem isPl_arg {x : V} {a : Ty} {Q : VK} {H : Hp} {E : XK} (hb : Is K H x a) (q1 : isPl x = false → Rz K "InvalidPlace" "value" x H E) (q2 : ∀ d, d < 3 → x = .str (pl d) → Q .non H) : sp_check_place K [x] H Q E := by
  refine ⟨a, hb, fun e => ?_, q1⟩
  obtain ⟨d, h, r⟩ := isPl_inv e
  exact q2 d h r
include F in
theorem read_tower (h : sp_tower K vs H Q E) : t_tower K E { nx := fun _ H' => Q .non H', rt := Q } (start ["yard", "place"] vs) H := by
  match vs, h with
  | [y, x], h =>
    unfold t_tower
    walk_at "w"
    refine chk_yard h fun p rows ep hy ⟨b, hb, q1, q2⟩ => isPl_arg hb q1 fun d hd ex => ?_
    subst ep ex
    refine lenO_of hy ?_
    have hl := hy
    obtain ⟨_, _, _, _, _, _, l1, l2, _⟩ := hl
    refine ⟨by omega, by omega, by show 1 ≤ 10000; decide, ?_⟩
    rw [mul_pl]
    exact q2 d hd rfl
include F in
theorem read_how_many_arrangements (h : sp_how_many_arrangements K vs H Q E) : t_how_many_arrangements K E { nx := fun _ H' => Q .non H', rt := Q } (start ["yard", "many", "_"] vs) H := by
  match vs, h with
  | [_], ⟨p, rows, rfl, hy, q⟩ =>
    unfold t_how_many_arrangements
    obtain ⟨_, _, _, _, _, _, l1, l2, _⟩ := id hy
    walk_at "w"
    refine for_rng1 (n := rows.length) (fun R r => by
      walk_at "w"
      exact lenO_of hy r) (by omega) (fun i σ H' => H' = H ∧ ∃ o, σ = [some (.ref p), some (.int (3 ^ i)), o]) ⟨rfl, _, rfl⟩ ?_ ?_
    · rintro i σ H' hx ⟨rfl, o, rfl⟩
      walk_at "w"
      refine uLen_seq (.inr (F.places H')) ?_
      refine ⟨.inr (by simp), ?_⟩
      exact ⟨rfl, _, by rw [Int.pow_succ]; rfl⟩
    · rintro σ H' ⟨rfl, o, rfl⟩
      walk_at "w"
      simpa [intsL] using q
theorem tidx_pl {d : Nat} {H : Hp} {Q : VK} (F : KF K) (h : d < 3) (q : Q (.int d) H) : tyV K "tuple" (.ref (He.ga K "PLACES")) H ∧ rTIdx K (.ref (He.ga K "PLACES")) [.str (pl d)] H Q := by
  refine ⟨F.pO H, _, ["a", "b", "c"], pl d, d, rfl, rfl, F.places H, ?_, ?_, q⟩
  · match d, h with
    | 0, _ => decide
    | 1, _ => decide
    | 2, _ => decide
  · intro m hm
    match d, h, m, hm with
    | 1, _, 0, _ => decide
    | 2, _, 0, _ => decide
    | 2, _, 1, _ => decide
theorem chk_arr {y x : V} {H : Hp} {Q : VK} {k : List (List (Option Int)) → List Nat → Prop} (h : YardOr K H y E fun rows => (∃ ds, Arr rows.length x ds ∧ k rows ds) ∨ NoArr K H rows.length x E)
    (q : ∀ p rows ds, y = .ref p → Yd K H p rows → Arr rows.length x ds → k rows ds → ∀ H', Same H H' → Q .non H') : sp_check_arrangement K [y, x] H Q E := by
  refine YardOr.to h id fun p rows e hy g => ?_
  rcases g with ⟨ds, ⟨rfl, a1, a2⟩, g⟩ | ⟨b, g1, g2, g3, g4⟩
  · refine ⟨.str, is_str _, fun z e => ?_, fun _ => q p rows ds e hy ⟨rfl, a1, a2⟩ g, fun z => ?_⟩
    · cases e
      obtain ⟨_, _, _, _, _, _, l1, l2, _⟩ := hy
      rw [wd_length, a1]
      exact Nat.le_trans l1 (by decide)
    · rw [arrB_wd a1 a2] at z
      cases z
  · exact ⟨b, g1, g2, fun z => absurd (g3.symm.trans z) (by decide), fun _ => g4⟩
theorem strL_get {ds : List Nat} {i : Nat} {x : V} (h : (strL (wd ds))[i]? = some x) : ∃ d, ds[i]? = some d ∧ x = .str (pl d) := by
  rw [strL_wd, List.getElem?_map] at h
  obtain ⟨d, h1, h2⟩ := Option.map_eq_some_iff.mp h
  exact ⟨d, h1, h2.symm⟩
theorem take_num {ds : List Nat} {i d : Nat} (h : ds[i]? = some d) : num (ds.take (i + 1)) = num (ds.take i) * 3 + d := by
  rw [List.take_succ, h, ← num_snoc]
  rfl
include F in
theorem read_number_of (h : sp_number_of K vs H Q E) : t_number_of K E { nx := fun _ H' => Q .non H', rt := Q } (start ["yard", "arrangement", "number", "place"] vs) H := by
  match vs, h with
  | [y, x], h =>
    unfold t_number_of
    walk_at "w"
    refine chk_arr h fun p rows ds ep hy ⟨ex, a1, a2⟩ q H1 s1 => ?_
    subst ep ex
    refine for_strL (z := wd ds) (fun R r => ⟨_, rfl, r⟩) (fun i σ H' => H' = H1 ∧ ∃ o, σ = [some (.ref p), some (.str (wd ds)), some (.int (num (ds.take i))), o]) ⟨rfl, _, rfl⟩ ?_ ?_
    · rintro i x σ H' hx ⟨rfl, o, rfl⟩
      obtain ⟨d, hd, rfl⟩ := strL_get hx
      walk_at "w"
      refine uLen_seq (.inr (F.places H')) ?_
      refine ⟨.inr (by simp), ?_⟩
      simp only [tBM]
      walk_at "w"
      refine tidx_pl F (a2 d (List.mem_of_getElem? hd)) ?_
      exact ⟨rfl, _, by rw [take_num hd]; rfl⟩
    · rintro σ H' ⟨rfl, o, rfl⟩
      walk_at "w"
      have := q H' s1
      simpa [strL_wd] using this
theorem uIx_pl {d : Nat} {H : Hp} {Q : VK} (F : KF K) (h : d < 3) (q : Q (.str (pl d)) H) : uIx K (.ref (He.ga K "PLACES")) (.int d) H Q := by
  refine ⟨_, .str (pl d), .inr (F.places H), ?_, q⟩
  match d, h with
  | 0, _ => decide
  | 1, _ => decide
  | 2, _ => decide
theorem num_lt {ds : List Nat} (h : D3 ds) : 0 ≤ num ds ∧ num ds < 3 ^ ds.length := by
  have key : ∀ (r : List Nat), D3 r.reverse → 0 ≤ num r.reverse ∧ num r.reverse < 3 ^ r.length := by
    intro r
    induction r with
    | nil => intro _; exact ⟨Int.le_refl _, by decide⟩
    | cons d r ih =>
      intro h3
      have hd : d < 3 := h3 d (by simp)
      obtain ⟨k1, k2⟩ := ih fun x m => h3 x (by simp at m ⊢; exact .inl m)
      rw [List.reverse_cons, num_snoc, List.length_cons, Int.pow_succ]
      constructor <;> omega
  have := key ds.reverse (by rwa [List.reverse_reverse])
  rwa [List.reverse_reverse, List.length_reverse] at this
include F in
theorem read_arrangement_at (h : sp_arrangement_at K vs H Q E) : t_arrangement_at K E { nx := fun _ H' => Q .non H', rt := Q } (start ["yard", "number", "arrangement", "left", "_", "digit"] vs) H := by
  match vs, h with
  | [y, x], h =>
    unfold t_arrangement_at sp_is_integer_within sp_how_many_arrangements
    walk_at "w"
    refine chk_yard h fun p rows ep hy q => ?_
    subst ep
    refine ⟨p, rows, rfl, hy, ?_⟩
    rcases q with ⟨ds, rfl, h1, h3, q⟩ | ⟨b, hb, hi, q⟩
    · refine ⟨.int, 0, _, is_int _, rfl, rfl, ?_⟩
      obtain ⟨k1, k2⟩ := num_lt h3
      rw [h1] at k2
      have hin : isIn (.int (num ds)) 0 (3 ^ rows.length - 1) = true := by
        show (decide (0 ≤ num ds) && decide (num ds ≤ 3 ^ rows.length - 1)) = true
        rw [decide_eq_true k1, decide_eq_true (by omega)]
        rfl
      rw [hin]
      simp only [if_false, Bool.not_true, Bool.false_eq_true]
      obtain ⟨_, _, _, _, _, _, l1, l2, _⟩ := id hy
      refine for_rng1 (n := rows.length) (fun R r => by
        walk_at "w"
        exact lenO_of hy r) (by omega) (fun i σ H' => Same H H' ∧ ∃ o1 o2, σ = [some (.ref p), some (.int (num ds)), some (.str (wd (ds.drop (ds.length - i)))), some (.int (num (ds.take (ds.length - i)))), o1, o2]) ⟨Same.refl H, none, none, by simp [wd]; rfl⟩ ?_ ?_
      · rintro i σ H' hi ⟨s, o1, o2, rfl⟩
        have hj : ds.length - i = (ds.length - (i + 1)) + 1 := by omega
        have hg : ds[ds.length - (i + 1)]? = some ds[ds.length - (i + 1)] := List.getElem?_eq_getElem (by omega)
        have hd3 : ds[ds.length - (i + 1)] < 3 := h3 _ (List.getElem_mem _)
        have hn := take_num hg
        have hdr : ds.drop (ds.length - (i + 1)) = ds[ds.length - (i + 1)] :: ds.drop (ds.length - (i + 1) + 1) := List.drop_eq_getElem_cons (by omega)
        rw [hj, hn]
        rw [← hj]
        walk_at "w"
        refine uLen_seq (.inr (F.places H')) ?_
        refine ⟨_, _, rfl, ⟨by simp, by simp⟩, fun t ht => ?_⟩
        have e1 : (num (ds.take (ds.length - (i + 1))) * 3 + (ds[ds.length - (i + 1)] : Nat)) / (3 : Int) = num (ds.take (ds.length - (i + 1))) := by omega
        have e2 : (num (ds.take (ds.length - (i + 1))) * 3 + (ds[ds.length - (i + 1)] : Nat)) % (3 : Int) = (ds[ds.length - (i + 1)] : Nat) := by omega
        show gTup K 2 _ _ _ _ _
        refine ⟨t, _, rfl, .inl (.inl upd_same), rfl, ?_⟩
        refine ⟨_, _, rfl, ⟨_, _, rfl, ⟨rfl, ?_⟩⟩⟩
        rw [hj]
        walk_at "w"
        rw [show ((3 : Nat) : Int) = 3 from rfl, e1, e2]
        refine uIx_pl F hd3 ?_
        have hl2 : (pl ds[ds.length - (i + 1)]).length + (wd (ds.drop (ds.length - (i + 1) + 1))).length ≤ sizeLine := by
          rw [wd_length, List.length_drop]
          exact Nat.le_trans (show _ ≤ 61 by show 1 + _ ≤ 61; omega) (by decide)
        refine ⟨hl2, s.trans (same_new ht), some (.int i), some (.int (ds[ds.length - (i + 1)] : Nat)), ?_⟩
        rw [hdr, ← wd_pl, wd_app]
        rfl
      · rintro σ H' ⟨s, o1, o2, rfl⟩
        walk_at "w"
        simpa [h1] using q H' s
    · refine ⟨b, 0, _, hb, rfl, rfl, ?_⟩
      rw [hi]
      simp only [if_true, Bool.not_false]
      exact rse_var (K := K) (c := "InvalidCount") (f := "value") (E := E) (i := 1) (D := { nx := fun _ H' => Q .non H', rt := Q }) rfl q
theorem onsN_succ {n d e : Nat} {ds : List Nat} (h : ds[n]? = some e) : onsN (n + 1) ds d = if e = d then onsN n ds d ++ [(n : Int)] else onsN n ds d := by
  unfold onsN
  rw [List.range_succ, List.filter_append, List.map_append]
  by_cases c : e = d
  · rw [if_pos c]
    simp [h, c]
  · rw [if_neg c]
    simp [h, c]
theorem onsN_len {n d : Nat} {ds : List Nat} : (onsN n ds d).length ≤ n := by
  unfold onsN
  rw [List.length_map]
  exact Nat.le_trans (List.length_filter_le _ _) (by simp)
theorem wd_get {ds : List Nat} {i c : Nat} (h : (wd ds).cps[i]? = some c) : ∃ d, ds[i]? = some d ∧ (⟨#[c]⟩ : Str) = pl d := by
  rw [← Array.getElem?_toList] at h
  simp only [wd, List.getElem?_map] at h
  obtain ⟨d, h1, h2⟩ := Option.map_eq_some_iff.mp h
  exact ⟨d, h1, by rw [← h2]; rfl⟩
theorem chk_arr3 {y x : V} {H : Hp} {Q : VK} {k : List (List (Option Int)) → List Nat → Prop} (h : YardOr K H y E fun rows => NoArr K H rows.length x E ∨ ∃ ds, Arr rows.length x ds ∧ k rows ds)
    (q : ∀ p rows ds, y = .ref p → Yd K H p rows → Arr rows.length x ds → k rows ds → ∀ H', Same H H' → Q .non H') : sp_check_arrangement K [y, x] H Q E :=
  chk_arr (k := k) (YardOr.to h id fun _ _ _ _ g => g.symm) q
include F in
theorem read_on_place (h : sp_on_place K vs H Q E) : t_on_place K E { nx := fun _ H' => Q .non H', rt := Q } (start ["yard", "arrangement", "place", "crate", "held"] vs) H := by
  match vs, h with
  | [y, x, z], h =>
    unfold t_on_place
    walk_at "w"
    refine chk_arr3 h fun p rows ds ep hy ⟨ex, a1, a2⟩ ⟨b, hb, q1, q2⟩ H1 s1 => ?_
    subst ep ex
    refine isPl_arg (hb.same s1) (fun e => (q1 e).same s1) fun d hd ez => ?_
    subst ez
    refine tLc_enumS (z := wd ds) (fun R r => ⟨_, rfl, r⟩) fun D hD => ?_
    refine lc_enumS (z := wd ds) (fun i H => Same H1 H ∧ H D = some (.lst ((onsN i ds d).map V.int))) ⟨same_new hD, upd_same⟩ ?_ ?_
    · rintro i c H2 T hc ⟨s, h2⟩ hT
      obtain ⟨e, he, hc2⟩ := wd_get hc
      rw [hc2]
      refine ⟨T, _, rfl, .inl (.inl upd_same), rfl, _, _, rfl, _, _, rfl, ⟨rfl, rfl, ?_⟩⟩
      walk_at "w"
      simp only [lcT, wipe]
      walk_at "w"
      have hDT : D ≠ T := by rintro rfl; rw [hT] at h2; cases h2
      have hu : upd H2 T (.tup [.int i, .str (pl e)]) D = some (.lst ((onsN i ds d).map V.int)) := by rw [upd_ne hDT]; exact h2
      have st : Same H1 (upd H2 T (.tup [.int i, .str (pl e)])) := s.trans (same_new hT)
      have hn := onsN_succ (d := d) he
      by_cases c : e = d
      · rw [if_pos c] at hn
        rw [if_pos (by rw [c])]
        have hlt : i < ds.length := (List.getElem?_eq_some_iff.mp he).1
        have hl := onsN_len (n := i) (d := d) (ds := ds)
        obtain ⟨_, _, _, _, _, _, l1, l2, _⟩ := id hy
        refine ⟨_, hu, ?_, ?_, ?_⟩
        · rw [List.length_map]
          exact Nat.lt_of_lt_of_le (show _ < 61 by omega) (by decide)
        · exact (Off.trans (Same.off st) off_upd).same hD
        · rw [hn, upd_same]
          simp
      · rw [if_neg c] at hn
        rw [if_neg (by intro z; exact c (pl_inj z))]
        exact ⟨st, by rw [hu, hn]⟩
    · rintro H2 ⟨s, h2⟩
      rw [wd_size] at h2
      exact q2 d hd rfl H2 D (s1.trans s) (Same.free s1 hD) h2
theorem getLast_at (i : Int) (r : List Int) : atI ((i :: r).map V.int) (-1) = some (topV (i :: r)) := by
  unfold atI ixN
  rw [if_neg (by decide), if_pos (by simp; omega)]
  have e : ((-1 : Int) + (((i :: r).map V.int).length : Nat)).toNat = r.length := by simp; omega
  show ((i :: r).map V.int)[_]? = _
  rw [e]
  unfold topV
  rw [List.getElem?_map]
  have : (i :: r).getLast? = (i :: r)[r.length]? := by rw [List.getLast?_eq_getElem?]; rfl
  rw [this]
  have lt : r.length < (i :: r).length := by simp
  rw [List.getElem?_eq_getElem lt]
  rfl
include F in
theorem read_top_crate (h : sp_top_crate K vs H Q E) : t_top_crate K E { nx := fun _ H' => Q .non H', rt := Q } (start ["yard", "arrangement", "place", "crates"] vs) H := by
  match vs, h with
  | [y, x, z], h =>
    unfold t_top_crate sp_on_place
    walk_at "w"
    refine YardOr.to h id fun p rows ep hy g => ?_
    rcases g with g | ⟨ds, a, b, hb, q1, q2⟩
    · exact .inl g
    · refine .inr ⟨ds, a, b, hb, q1, fun d hd ez H1 l s hl h1 => ?_⟩
      subst ep ez
      walk_at "w"
      have q := q2 d hd rfl H1 s
      refine ⟨_, .inl ⟨_, .inl (.inl h1), rfl⟩, ?_⟩
      cases e : ons ds d with
      | nil =>
        rw [if_neg (by simp)]
        rw [e] at q
        exact q
      | cons i r =>
        rw [if_pos (by simp)]
        refine ⟨_, topV (ons ds d), .inl (.inl (.inl h1)), ?_, q⟩
        rw [e]
        exact getLast_at i r
end
theorem uIx_str {K : PySem.W.Frag} {z : Str} {i : Int} {c : Nat} {H : Hp} {Q : VK} (h : z.length ≤ sizeLine) (hi : atI z.cps.toList i = some c) (q : Q (.str ⟨#[c]⟩) H) : uIx K (.str z) (.int i) H Q := ⟨h, c, hi, q⟩
theorem cut_wd (ds : List Nat) (lo hi : Option Int) : cutS (wd ds) lo hi = wd ((ds.drop (HT.sIx ds.length 0 lo)).take (HT.sIx ds.length ds.length hi - HT.sIx ds.length 0 lo)) := by
  unfold cutS
  rw [wd_length]
  have e : (wd ds).cps.toList = ds.map (97 + ·) := by simp [wd]
  rw [e, ← List.map_drop, ← List.map_take]
  rfl
theorem cut_to {ds : List Nat} {k : Nat} (h : k ≤ ds.length) : cutS (wd ds) none (some (k : Int)) = wd (ds.take k) := by
  rw [cut_wd, HT.sIx_none, HT.sIx_nat, List.drop_zero]
  congr 2
  omega
theorem cut_from {ds : List Nat} {k : Nat} (h : k ≤ ds.length) : cutS (wd ds) (some (k : Int)) none = wd (ds.drop k) := by
  rw [cut_wd, HT.sIx_none, HT.sIx_nat]
  have e : min k ds.length = k := by omega
  rw [e, List.take_of_length_le (by simp)]
end U
namespace U
open PySem PySem.Spec PyProof.Rows L2

/-! ### ways, prices, moves -/
def wayI (a b : Nat) : Nat := 2 * a + (if a < b then b - 1 else b)
def prOf (rows : List (List (Option Int))) (k a b : Nat) : Option Int := ((rows[k]?.getD [])[wayI a b]?).getD none
/-- may crate k go to place d -/
def alw (rows : List (List (Option Int))) (ds : List Nat) (k d : Nat) : Bool :=
  decide (ds[k]?.getD 0 ≠ d) && ((prOf rows k (ds[k]?.getD 0) d).isSome && decide (ds.drop (k + 1) = List.replicate (ds.length - (k + 1)) (3 - ds[k]?.getD 0 - d)))
def Mv (K : PySem.W.Frag) (H : Hp) (t : Addr) (k d : Nat) : Prop := SqT K H t [.int k, .str (pl d)]
/-- a value that has the form of a move, or not -/
def MvF (K : PySem.W.Frag) (H : Hp) (n : Nat) (x : V) (b : Bool) : Prop := (∃ a, Is K H x a ∧ a ≠ .tup ∧ b = false) ∨
  ∃ t xs, x = .ref t ∧ SqT K H t xs ∧ ((xs.length ≠ 2 ∧ b = false) ∨ ∃ u v c e, xs = [u, v] ∧ Is K H u c ∧ Is K H v e ∧ b = (isIn u 0 ((n : Int) - 1) && isPl v))
theorem MvF.same {K : PySem.W.Frag} {H H' : Hp} {n : Nat} {x : V} {b : Bool} (e : Same H H') (h : MvF K H n x b) : MvF K H' n x b := by
  rcases h with ⟨a, h, r⟩ | ⟨t, xs, h1, h2, h3⟩
  · exact .inl ⟨a, h.same e, r⟩
  · refine .inr ⟨t, xs, h1, Same.sqT e h2, ?_⟩
    rcases h3 with h3 | ⟨u, v, c, d, z1, z2, z3, z4⟩
    · exact .inl h3
    · exact .inr ⟨u, v, c, d, z1, z2.same e, z3.same e, z4⟩
theorem Mv.form {K : PySem.W.Frag} {H : Hp} {t : Addr} {k d n : Nat} (h : Mv K H t k d) (hk : k < n) (hd : d < 3) : MvF K H n (.ref t) true := by
  refine .inr ⟨t, _, rfl, h, .inr ⟨_, _, .int, .str, rfl, is_int _, is_str _, ?_⟩⟩
  rw [isPl_pl hd]
  show true = (decide ((0 : Int) ≤ (k : Int)) && decide ((k : Int) ≤ (n : Int) - 1) && true)
  rw [decide_eq_true (by omega), decide_eq_true (by omega)]
  rfl
def sp_third (K : PySem.W.Frag) : Sp := sp1 fun x H Q E => ∃ a, Is K H x a ∧ (isWy x = false → Rz K "InvalidWay" "value" x H E) ∧ ∀ a b, a < 3 → b < 3 → a ≠ b → x = .str (wd [a, b]) → Q (.str (pl (3 - a - b))) H
def sp_check_crate (K : PySem.W.Frag) : Sp := sp2 fun y x H Q E => ∃ p rows a, y = .ref p ∧ Yd K H p rows ∧ Is K H x a ∧ (isIn x 0 ((rows.length : Int) - 1) = true → Q .non H) ∧ (isIn x 0 ((rows.length : Int) - 1) = false → Rz K "InvalidCrate" "value" x H E)
def sp_Yard_price (K : PySem.W.Frag) : Sp := sp3 fun y c w H Q E => ∃ p rows a b, y = .ref p ∧ Yd K H p rows ∧ Is K H c a ∧ Is K H w b ∧ (isIn c 0 ((rows.length : Int) - 1) = false → Rz K "InvalidCrate" "value" c H E) ∧
  (isIn c 0 ((rows.length : Int) - 1) = true → isWy w = false → Rz K "InvalidWay" "value" w H E) ∧ ∀ k a b, k < rows.length → a < 3 → b < 3 → a ≠ b → c = .int (k : Nat) → w = .str (wd [a, b]) → Q (pV (prOf rows k a b)) H
def sp_is_crate_and_place (K : PySem.W.Frag) : Sp := sp2 fun y x H Q _ => ∃ p rows b, y = .ref p ∧ Yd K H p rows ∧ MvF K H rows.length x b ∧ Q (.bl b) H
def sp_is_allowed (K : PySem.W.Frag) : Sp := sp3 fun y x z H Q _ => ∃ p rows ds t k d, y = .ref p ∧ Yd K H p rows ∧ Arr rows.length x ds ∧ z = .ref t ∧ Mv K H t k d ∧ k < rows.length ∧ d < 3 ∧ Q (.bl (alw rows ds k d)) H
/-- no allowed move -/
def NoMv (K : PySem.W.Frag) (H : Hp) (rows : List (List (Option Int))) (ds : List Nat) (z : V) (E : XK) : Prop :=
  (MvF K H rows.length z false ∨ ∃ t k d, z = .ref t ∧ Mv K H t k d ∧ k < rows.length ∧ d < 3 ∧ alw rows ds k d = false) ∧ Rz K "InvalidMove" "value" z H E
def MvOr (K : PySem.W.Frag) (H : Hp) (y x z : V) (E : XK) (k : List (List (Option Int)) → List Nat → Nat → Nat → Prop) : Prop := YardOr K H y E fun rows => NoArr K H rows.length x E ∨ ∃ ds, Arr rows.length x ds ∧
  (NoMv K H rows ds z E ∨ ∃ t c d, z = .ref t ∧ Mv K H t c d ∧ c < rows.length ∧ d < 3 ∧ alw rows ds c d = true ∧ k rows ds c d)
def sp_check_move (K : PySem.W.Frag) : Sp := sp3 fun y x z H Q E => MvOr K H y x z E fun _ _ _ _ => ∀ H', Same H H' → Q .non H'
def sp_moved (K : PySem.W.Frag) : Sp := sp3 fun y x z H Q E => MvOr K H y x z E fun _ ds k d => ∀ H', Same H H' → Q (.str (wd (ds.set k d))) H'
def sp_move_cost (K : PySem.W.Frag) : Sp := sp3 fun y x z H Q E => MvOr K H y x z E fun rows ds k d => ∀ H', Same H H' → Q (pV (prOf rows k (ds[k]?.getD 0) d)) H'
def sp_way_back (K : PySem.W.Frag) : Sp := sp3 fun y x z H Q E => MvOr K H y x z E fun _ ds k _ => ∀ t H', Same H H' → H t = none → Mv K H' t k (ds[k]?.getD 0) → Q (.ref t) H'
def allL (n : Nat) : List (Nat × Nat) := (List.range n).flatMap fun k => [(k, 0), (k, 1), (k, 2)]
def alwL (rows : List (List (Option Int))) (ds : List Nat) : List (Nat × Nat) := (allL rows.length).filter fun m => alw rows ds m.1 m.2
/-- tuples, one a move -/
def Mvs (K : PySem.W.Frag) (H : Hp) (ts : List Addr) (ms : List (Nat × Nat)) : Prop := ts.length = ms.length ∧ ∀ (i : Nat) (t : Addr) (m : Nat × Nat), ts[i]? = some t → ms[i]? = some m → Mv K H t m.1 m.2
def sp_allowed (K : PySem.W.Frag) : Sp := sp2 fun y x H Q E => YardOr K H y E fun rows => NoArr K H rows.length x E ∨ ∃ ds, Arr rows.length x ds ∧
  ∀ l ts H', Same H H' → H l = none → H' l = some (.lst (ts.map V.ref)) → Mvs K H' ts (alwL rows ds) → (∀ t ∈ ts, H t = none) → Q (.ref l) H'
def t_third (K : PySem.W.Frag) (E : XK) : TS := (tSeq (tDrop (tFn (sp_check_way K) E (tCons (tVar 0) tNil))) (tRet (tOp (rThird K) (tC (.ref (He.ga K "THIRDS"))) (tVar 0))))
def t_check_crate (K : PySem.W.Frag) (E : XK) : TS := (tIfS (tNot (tB (tFn (sp_is_integer_within K) E (tCons (tVar 1) (tCons (tC (.int 0)) (tCons (tOp uSub (tCB (rLenO (He.ga K "Yard") (sp_Yard_len K)) (tCons (tVar 0) tNil)) (tC (.int 1))) tNil)))))) (tRse K "InvalidCrate" "value" E (tCons (tVar 1) tNil)) tNext)
def t_Yard_price (K : PySem.W.Frag) (E : XK) : TS := (tSeq (tDrop (tFn (sp_check_crate K) E (tCons (tVar 0) (tCons (tVar 1) tNil)))) (tSeq (tDrop (tFn (sp_check_way K) E (tCons (tVar 2) tNil))) (tRet (tOp (uIx K) (tOp (uIx K) (tFld K (tVar 0) "_rows") (tVar 1)) (tOp (rCol K) (tC (.ref (He.ga K "COLUMNS"))) (tVar 2))))))
def t_is_crate_and_place (K : PySem.W.Frag) (E : XK) : TS := (tRet (tAndV (tCB (uIsi K) (tCons (tVar 1) (tCons (tC (.ty "tuple")) tNil))) (tAndV (tOp (uEq K) (tCB (uLen K) (tCons (tVar 1) tNil)) (tC (.int 2))) (tAndV (tFn (sp_is_integer_within K) E (tCons (tOp (uIx K) (tVar 1) (tC (.int 0))) (tCons (tC (.int 0)) (tCons (tOp uSub (tCB (rLenO (He.ga K "Yard") (sp_Yard_len K)) (tCons (tVar 0) tNil)) (tC (.int 1))) tNil)))) (tFn (sp_is_place K) E (tCons (tOp (uIx K) (tVar 1) (tC (.int 1))) tNil))))))
def t_is_allowed (K : PySem.W.Frag) (E : XK) : TS := (tSeq (tAsg (tVar 2) (gTup K 2 (gCons (gName 3) (gCons (gName 4) gNil)))) (tSeq (tAsg (tOp (uIx K) (tVar 1) (tVar 3)) (gName 5)) (tSeq (tIfS (tOr (tTest (tOp (uNe K) (tBM K "str" rRfind (tVar 1) (tCons (tVar 5) tNil)) (tVar 3))) (tTest (tOp uGe (tBM K "str" rRfind (tVar 1) (tCons (tVar 4) tNil)) (tVar 3)))) (tRet (tC (.bl false))) tNext) (tRet (tOp uNis (tOp (uIx K) (tOp (uIx K) (tMeth (He.ga K "Yard") "price_rows" (sp_Yard_price_rows K) [] E (tVar 0) tNil) (tVar 3)) (tOp (rCol K) (tC (.ref (He.ga K "COLUMNS"))) (tOp uAdd (tVar 5) (tVar 4)))) (tC .non))))))
def t_check_move (K : PySem.W.Frag) (E : XK) : TS := (tSeq (tDrop (tFn (sp_check_arrangement K) E (tCons (tVar 0) (tCons (tVar 1) tNil)))) (tIfS (tNot (tAnd (tB (tFn (sp_is_crate_and_place K) E (tCons (tVar 0) (tCons (tVar 2) tNil)))) (tB (tFn (sp_is_allowed K) E (tCons (tVar 0) (tCons (tVar 1) (tCons (tVar 2) tNil))))))) (tRse K "InvalidMove" "value" E (tCons (tVar 2) tNil)) tNext))
def t_allowed (K : PySem.W.Frag) (E : XK) : TS := (tSeq (tDrop (tFn (sp_check_arrangement K) E (tCons (tVar 0) (tCons (tVar 1) tNil)))) (tSeq (tAsg (tLc2 (iRng1 (tCons (tCB (rLenO (He.ga K "Yard") (sp_Yard_len K)) (tCons (tVar 0) tNil)) tNil)) (gName 3) tYes (iSeq K (tC (.ref (He.ga K "PLACES")))) (gName 4) tYes (tTup (tCons (tVar 3) (tCons (tVar 4) tNil))) [3, 4] [4]) (gName 2)) (tRet (tLc (iSeq K (tVar 2)) (gName 5) (tB (tFn (sp_is_allowed K) E0 (tCons (tVar 0) (tCons (tVar 1) (tCons (tVar 5) tNil))))) (tVar 5) [5]))))
def t_moved (K : PySem.W.Frag) (E : XK) : TS := (tSeq (tDrop (tFn (sp_check_move K) E (tCons (tVar 0) (tCons (tVar 1) (tCons (tVar 2) tNil))))) (tSeq (tAsg (tVar 2) (gTup K 2 (gCons (gName 3) (gCons (gName 4) gNil)))) (tRet (tOp uAdd (tOp uAdd (tSl (uSl K) (tVar 1) tNoPart (tPart (tVar 3))) (tVar 4)) (tSl (uSl K) (tVar 1) (tPart (tOp uAdd (tVar 3) (tC (.int 1)))) tNoPart)))))
def t_move_cost (K : PySem.W.Frag) (E : XK) : TS := (tSeq (tDrop (tFn (sp_check_move K) E (tCons (tVar 0) (tCons (tVar 1) (tCons (tVar 2) tNil))))) (tSeq (tAsg (tVar 2) (gTup K 2 (gCons (gName 3) (gCons (gName 4) gNil)))) (tRet (tOp (uIx K) (tOp (uIx K) (tMeth (He.ga K "Yard") "price_rows" (sp_Yard_price_rows K) [] E (tVar 0) tNil) (tVar 3)) (tOp (rCol K) (tC (.ref (He.ga K "COLUMNS"))) (tOp uAdd (tOp (uIx K) (tVar 1) (tVar 3)) (tVar 4)))))))
def t_way_back (K : PySem.W.Frag) (E : XK) : TS := (tSeq (tDrop (tFn (sp_check_move K) E (tCons (tVar 0) (tCons (tVar 1) (tCons (tVar 2) tNil))))) (tSeq (tAsg (tVar 2) (gTup K 2 (gCons (gName 3) (gCons (gName 4) gNil)))) (tRet (tTup (tCons (tVar 3) (tCons (tOp (uIx K) (tVar 1) (tVar 3)) tNil))))))
section
variable {K : PySem.W.Frag} (F : KF K) {vs : List V} {H : Hp} {Q : VK} {E : XK}
local macro_rules | `(tactic| walk_at "w") => `(tactic| try simp only [turnE, lcT, Snoc, tRet, tRetN, tAndV, tOrV, tNotV, tCB, tCons, tVar, tNil, tC, tOp, tSeq, tAsg, gName, gSub, tIfS, tDrop, tFn, tTup, tLst, tNext, tB, tTest, tNot, tAnd, tOr, tIf, tChain, tUn, rU, tFld, tPart, tNoPart, L2.tSl, tBM, tPar, tPar3, tTruth, tDNewK,
  L2.start, List.map_cons, List.map_nil, List.length_cons, List.length_nil, List.replicate_succ, List.replicate_zero, List.append_nil, List.nil_append, List.cons_append, List.singleton_append, Nat.sub_self, Nat.zero_add, Nat.reduceAdd, Nat.reduceSub,
  List.getElem?_cons_zero, List.getElem?_cons_succ, List.set_cons_zero, List.set_cons_succ, Option.some.injEq, exists_eq_left, exists_eq_left', V.int.injEq, V.bl.injEq, V.str.injEq, V.ref.injEq,
  uAdd_int, uAdd_str, uSub_int, uMul_int, uMul_str, uDiv_int, uMod_int, uPow_int, uLt_int, uLe_int, uGt_int, uGe_int, uIs_non, uNis_non, uIs_bl, uNis_bl, sp1, sp2, sp3, sp4, uEq_int, uEq_str, uNe_int, uNe_str, uSl_str, uLen_str, decide_eq_true_eq])
local macro_rules | `(tactic| walk_at "1") => `(tactic| try simp only [turnE, lcT, Snoc, tRet, tRetN, tAndV, tOrV, tNotV, tCB, tCons, tVar, tNil, tC, tOp, tAsg, gName, gSub, tIfS, tDrop, tFn, tTup, tLst, tNext, tB, tTest, tNot, tAnd, tOr, tIf, tChain, tUn, rU, tFld, tPart, tNoPart, L2.tSl, tBM, tPar, tPar3, tTruth, tDNewK,
  L2.start, List.map_cons, List.map_nil, List.length_cons, List.length_nil, List.replicate_succ, List.replicate_zero, List.append_nil, List.nil_append, List.cons_append, List.singleton_append, Nat.sub_self, Nat.zero_add, Nat.reduceAdd, Nat.reduceSub,
  List.getElem?_cons_zero, List.getElem?_cons_succ, List.set_cons_zero, List.set_cons_succ, Option.some.injEq, exists_eq_left, exists_eq_left', V.int.injEq, V.bl.injEq, V.str.injEq, V.ref.injEq,
  uAdd_int, uAdd_str, uSub_int, uMul_int, uMul_str, uDiv_int, uMod_int, uPow_int, uLt_int, uLe_int, uGt_int, uGe_int, uIs_non, uNis_non, uIs_bl, uNis_bl, sp1, sp2, sp3, sp4, uEq_int, uEq_str, uNe_int, uNe_str, uSl_str, uLen_str, decide_eq_true_eq])
local macro_rules | `(tactic| walk_at "s") => `(tactic| ((try dsimp only [turnE]); with_reducible refine seq_ ?_))

theorem isWy_wd {a b : Nat} (ha : a < 3) (hb : b < 3) (n : a ≠ b) : isWy (.str (wd [a, b])) = true ∧ (wd [a, b], pl (3 - a - b)) ∈ thirds := by
  match a, ha, b, hb with
  | 0, _, 0, _ => exact absurd rfl n
  | 0, _, 1, _ => exact ⟨by decide, by decide⟩
  | 0, _, 2, _ => exact ⟨by decide, by decide⟩
  | 1, _, 0, _ => exact ⟨by decide, by decide⟩
  | 1, _, 1, _ => exact absurd rfl n
  | 1, _, 2, _ => exact ⟨by decide, by decide⟩
  | 2, _, 0, _ => exact ⟨by decide, by decide⟩
  | 2, _, 1, _ => exact ⟨by decide, by decide⟩
  | 2, _, 2, _ => exact absurd rfl n
theorem isWy_inv {x : V} (h : isWy x = true) : ∃ a b, a < 3 ∧ b < 3 ∧ a ≠ b ∧ x = .str (wd [a, b]) := by
  cases x with
  | str z =>
    have h : z ∈ wayL := of_decide_eq_true h
    simp only [wayL, List.mem_cons, List.not_mem_nil, or_false] at h
    rcases h with rfl | rfl | rfl | rfl | rfl | rfl
    · exact ⟨0, 1, by decide, by decide, by decide, by decide⟩
    · exact ⟨0, 2, by decide, by decide, by decide, by decide⟩
    · exact ⟨1, 0, by decide, by decide, by decide, by decide⟩
    · exact ⟨1, 2, by decide, by decide, by decide, by decide⟩
    · exact ⟨2, 0, by decide, by decide, by decide, by decide⟩
    · exact ⟨2, 1, by decide, by decide, by decide, by decide⟩
  | _ => cases h
include F in
theorem read_third (h : sp_third K vs H Q E) : t_third K E { nx := fun _ H' => Q .non H', rt := Q } (start ["way"] vs) H := by
  match vs, h with
  | [x], ⟨a, ha, q1, q2⟩ =>
    unfold t_third sp_check_way
    walk_at "w"
    refine ⟨a, ha, fun e => ?_, q1⟩
    obtain ⟨a, b, h1, h2, h3, rfl⟩ := isWy_inv e
    exact ⟨_, _, rfl, rfl, (isWy_wd h1 h2 h3).2, q2 a b h1 h2 h3 rfl⟩
include F in
theorem read_check_crate (h : sp_check_crate K vs H Q E) : t_check_crate K E { nx := fun _ H' => Q .non H', rt := Q } (start ["yard", "crate"] vs) H := by
  match vs, h with
  | [_, x], ⟨p, rows, a, rfl, hy, ha, q1, q2⟩ =>
    unfold t_check_crate sp_is_integer_within
    walk_at "w"
    refine lenO_of hy ?_
    walk_at "w"
    refine ⟨a, 0, _, ha, rfl, rfl, ?_⟩
    cases e : isIn x 0 ((rows.length : Int) - 1) with
    | true => exact q1 e
    | false => exact rse_var (K := K) (c := "InvalidCrate") (f := "value") (E := E) (i := 1) (D := { nx := fun _ H' => Q .non H', rt := Q }) rfl (q2 e)
theorem isIn_inv {x : V} {n : Nat} (h : isIn x 0 ((n : Int) - 1) = true) : ∃ k : Nat, k < n ∧ x = .int k := by
  cases x with
  | int i =>
    have h : (decide ((0 : Int) ≤ i) && decide (i ≤ (n : Int) - 1)) = true := h
    simp only [decide_eq_true_eq, Bool.and_eq_true] at h
    exact ⟨i.toNat, by omega, by congr 1; omega⟩
  | _ => cases h
theorem col_wd {a b : Nat} (ha : a < 3) (hb : b < 3) (n : a ≠ b) : (wd [a, b], ((wayI a b : Nat) : Int)) ∈ columns := by
  match a, ha, b, hb with
  | 0, _, 0, _ => exact absurd rfl n
  | 0, _, 1, _ => decide
  | 0, _, 2, _ => decide
  | 1, _, 0, _ => decide
  | 1, _, 1, _ => exact absurd rfl n
  | 1, _, 2, _ => decide
  | 2, _, 0, _ => decide
  | 2, _, 1, _ => decide
  | 2, _, 2, _ => exact absurd rfl n
theorem col_of {a b : Nat} {Q : VK} (ha : a < 3) (hb : b < 3) (n : a ≠ b) (q : Q (.int (wayI a b : Nat)) H) : rCol K (.ref (He.ga K "COLUMNS")) (.str (wd [a, b])) H Q := ⟨_, _, rfl, rfl, col_wd ha hb n, q⟩
theorem wayI_lt {a b : Nat} (ha : a < 3) (hb : b < 3) (n : a ≠ b) : wayI a b < 6 := by
  unfold wayI
  split <;> omega
theorem at_nat {xs : List V} {k : Nat} {v : V} (h : xs[k]? = some v) : atI xs (k : Int) = some v := by
  have lt := (List.getElem?_eq_some_iff.mp h).1
  unfold atI ixN
  rw [if_pos (Int.natCast_nonneg k), if_pos (by omega)]
  show xs[((k : Nat) : Int).toNat]? = _
  rw [Int.toNat_natCast, h]
theorem Yd.ys {y : Addr} {rows : List (List (Option Int))} (h : Yd K H y rows) : ∃ dx t, H y = some (.ins (He.ga K "Yard") dx [("_rows", .ref t), ("_reckoning", .non)]) ∧ Ys K H t rows := by
  obtain ⟨dx, t, as, h1, h2, h3, h4, h5, h6, h7⟩ := h
  exact ⟨dx, t, h1, as, h2, h3, h6⟩
theorem ys_row {t : Addr} {rows : List (List (Option Int))} {k : Nat} {Q : VK} (hs : Ys K H t rows) (hk : k < rows.length) (q : ∀ u, SqT K H u (rows[k].map pV) → Q (.ref u) H) : uIx K (.ref t) (.int (k : Nat)) H Q := by
  obtain ⟨as, h1, h2, h3⟩ := hs
  have hka : k < as.length := by omega
  exact ⟨_, .ref as[k], .inr h1, at_nat (by rw [List.getElem?_map, List.getElem?_eq_getElem hka]; rfl), q _ (h3 k _ _ (List.getElem?_eq_getElem hka) (List.getElem?_eq_getElem hk))⟩
theorem row_price {u : Addr} {rows : List (List (Option Int))} {k a b : Nat} {Q : VK} (hk : k < rows.length) (hu : SqT K H u (rows[k].map pV)) (h6 : rows[k].length = 6) (ha : a < 3) (hb : b < 3) (n : a ≠ b) (q : Q (pV (prOf rows k a b)) H) : uIx K (.ref u) (.int (wayI a b : Nat)) H Q := by
  have hw := wayI_lt ha hb n
  refine ⟨_, pV rows[k][wayI a b], .inr hu, at_nat (by rw [List.getElem?_map, List.getElem?_eq_getElem (by omega)]; rfl), ?_⟩
  have e : prOf rows k a b = rows[k][wayI a b] := by
    unfold prOf
    rw [List.getElem?_eq_getElem hk]
    show (rows[k][wayI a b]?).getD none = _
    rw [List.getElem?_eq_getElem (by omega)]
    rfl
  rwa [e] at q
theorem Yd.six {y : Addr} {rows : List (List (Option Int))} (h : Yd K H y rows) {k : Nat} (hk : k < rows.length) : rows[k].length = 6 := by
  obtain ⟨_, _, _, _, _, _, _, _, _, h7⟩ := h
  exact (h7 rows[k] (List.getElem_mem hk)).1
include F in
theorem read_Yard_price (h : sp_Yard_price K vs H Q E) : t_Yard_price K E { nx := fun _ H' => Q .non H', rt := Q } (start ["self", "crate", "way"] vs) H := by
  match vs, h with
  | [_, c, x], ⟨p, rows, a, b, rfl, hy, ha, hb, q1, q2, q3⟩ =>
    unfold t_Yard_price sp_check_crate sp_check_way
    walk_at "w"
    refine ⟨p, rows, a, rfl, hy, ha, fun e => ?_, q1⟩
    refine ⟨b, hb, fun e2 => ?_, q2 e⟩
    obtain ⟨k, hk, rfl⟩ := isIn_inv e
    obtain ⟨a, b, h1, h2, h3, rfl⟩ := isWy_inv e2
    obtain ⟨dx, t, y1, ys⟩ := hy.ys
    refine ⟨p, _, _, _, .ref t, rfl, y1, F.cl, F.na, rfl, ?_⟩
    exact ys_row ys hk fun u hu => col_of h1 h2 h3 (row_price hk hu (hy.six hk) h1 h2 h3 (q3 k a b hk h1 h2 h3 rfl rfl))
end
end U
namespace U
open PySem PySem.Spec PyProof.Rows L2

section
variable {K : PySem.W.Frag} (F : KF K) {vs : List V} {H : Hp} {Q : VK} {E : XK}
local macro_rules | `(tactic| walk_at "w") => `(tactic| try simp only [turnE, lcT, Snoc, tRet, tRetN, tAndV, tOrV, tNotV, tCB, tCons, tVar, tNil, tC, tOp, tSeq, tAsg, gName, gSub, tIfS, tDrop, tFn, tTup, tLst, tNext, tB, tTest, tNot, tAnd, tOr, tIf, tChain, tUn, rU, tFld, tPart, tNoPart, L2.tSl, tBM, tPar, tPar3, tTruth, tDNewK,
  L2.start, List.map_cons, List.map_nil, List.length_cons, List.length_nil, List.replicate_succ, List.replicate_zero, List.append_nil, List.nil_append, List.cons_append, List.singleton_append, Nat.sub_self, Nat.zero_add, Nat.reduceAdd, Nat.reduceSub,
  List.getElem?_cons_zero, List.getElem?_cons_succ, List.set_cons_zero, List.set_cons_succ, Option.some.injEq, exists_eq_left, exists_eq_left', V.int.injEq, V.bl.injEq, V.str.injEq, V.ref.injEq,
  uAdd_int, uAdd_str, uSub_int, uMul_int, uMul_str, uDiv_int, uMod_int, uPow_int, uLt_int, uLe_int, uGt_int, uGe_int, uIs_non, uNis_non, uIs_bl, uNis_bl, sp1, sp2, sp3, sp4, uEq_int, uEq_str, uNe_int, uNe_str, uSl_str, uLen_str, decide_eq_true_eq])
local macro_rules | `(tactic| walk_at "1") => `(tactic| try simp only [turnE, lcT, Snoc, tRet, tRetN, tAndV, tOrV, tNotV, tCB, tCons, tVar, tNil, tC, tOp, tAsg, gName, gSub, tIfS, tDrop, tFn, tTup, tLst, tNext, tB, tTest, tNot, tAnd, tOr, tIf, tChain, tUn, rU, tFld, tPart, tNoPart, L2.tSl, tBM, tPar, tPar3, tTruth, tDNewK,
  L2.start, List.map_cons, List.map_nil, List.length_cons, List.length_nil, List.replicate_succ, List.replicate_zero, List.append_nil, List.nil_append, List.cons_append, List.singleton_append, Nat.sub_self, Nat.zero_add, Nat.reduceAdd, Nat.reduceSub,
  List.getElem?_cons_zero, List.getElem?_cons_succ, List.set_cons_zero, List.set_cons_succ, Option.some.injEq, exists_eq_left, exists_eq_left', V.int.injEq, V.bl.injEq, V.str.injEq, V.ref.injEq,
  uAdd_int, uAdd_str, uSub_int, uMul_int, uMul_str, uDiv_int, uMod_int, uPow_int, uLt_int, uLe_int, uGt_int, uGe_int, uIs_non, uNis_non, uIs_bl, uNis_bl, sp1, sp2, sp3, sp4, uEq_int, uEq_str, uNe_int, uNe_str, uSl_str, uLen_str, decide_eq_true_eq])
local macro_rules | `(tactic| walk_at "s") => `(tactic| ((try dsimp only [turnE]); with_reducible refine seq_ ?_))

include F in
theorem read_is_crate_and_place (h : sp_is_crate_and_place K vs H Q E) : t_is_crate_and_place K E { nx := fun _ H' => Q .non H', rt := Q } (start ["yard", "value"] vs) H := by
  match vs, h with
  | [_, x], ⟨p, rows, b, rfl, hy, hb, q⟩ =>
    unfold t_is_crate_and_place sp_is_integer_within sp_is_place
    walk_at "w"
    rcases hb with ⟨a, h1, h2, rfl⟩ | ⟨t, xs, rfl, h1, h2⟩
    · refine isi_ty (b := .tup) F rfl h1 ?_
      have : a.sub .tup = false := by cases a <;> first | rfl | exact absurd rfl h2
      rw [this]
      exact ⟨_, rfl, q⟩
    · refine isi_ty (b := .tup) F rfl (is_sqT h1) ⟨_, rfl, ?_⟩
      rw [if_pos (show Ty.tup.sub Ty.tup = true from rfl)]
      refine uLen_seq (.inr h1) ?_
      walk_at "w"
      rcases h2 with ⟨hn, rfl⟩ | ⟨u, v, c, e, rfl, hu, hv, rfl⟩
      · rw [if_neg (by omega)]
        exact q
      · rw [if_pos (by simp)]
        refine ⟨_, u, .inr h1, rfl, lenO_of hy ?_⟩
        walk_at "w"
        refine ⟨c, 0, _, hu, rfl, rfl, ?_⟩
        cases z : isIn u 0 ((rows.length : Int) - 1) with
        | false =>
          rw [z] at q
          exact q
        | true =>
          rw [z] at q
          exact ⟨_, v, .inr h1, rfl, e, hv, q⟩
theorem str_at {ds : List Nat} {k : Nat} {Q : VK} (h : ds.length ≤ 60) (hk : k < ds.length) (q : Q (.str (pl (ds[k]?.getD 0))) H) : uIx K (.str (wd ds)) (.int (k : Nat)) H Q := by
  have e : ds[k]? = some ds[k] := List.getElem?_eq_getElem hk
  rw [e] at q
  have hlen : (wd ds).cps.toList.length = ds.length := by simp [wd]
  refine uIx_str (c := 97 + ds[k]) (Nat.le_trans (by rw [wd_length]; exact h) (by decide)) ?_ q
  unfold atI ixN
  rw [if_pos (by omega), hlen, if_pos (by omega)]
  show (wd ds).cps.toList[((k : Nat) : Int).toNat]? = _
  rw [Int.toNat_natCast]
  simp [wd, e]
theorem price_of {p : Addr} {rows : List (List (Option Int))} {k a b : Nat} (F : KF K) (hy : Yd K H p rows) (hk : k < rows.length) (ha : a < 3) (hb : b < 3) (n : a ≠ b) (q : Q (pV (prOf rows k a b)) H) : sp_Yard_price K [.ref p, .int k, .str (wd [a, b])] H Q E := by
  have hin : isIn (.int k) 0 ((rows.length : Int) - 1) = true := by
    show (decide ((0 : Int) ≤ (k : Int)) && decide ((k : Int) ≤ (rows.length : Int) - 1)) = true
    rw [decide_eq_true (by omega), decide_eq_true (by omega)]
    rfl
  refine ⟨p, rows, .int, .str, rfl, hy, is_int _, is_str _, fun z => absurd (hin.symm.trans z) (by decide), fun _ z => absurd ((isWy_wd ha hb n).1.symm.trans z) (by decide), fun k' a' b' _ _ _ _ e1 e2 => ?_⟩
  injection e1 with e1
  injection e2 with e2
  have e3 := wd_inj e2
  injection e3 with e3 e4
  injection e4 with e4 e5
  have : k = k' := by omega
  rw [← this, ← e3, ← e4]
  exact q
theorem third_of {a b : Nat} (ha : a < 3) (hb : b < 3) (n : a ≠ b) (q : Q (.str (pl (3 - a - b))) H) : sp_third K [.str (wd [a, b])] H Q E := by
  refine ⟨.str, is_str _, fun z => absurd ((isWy_wd ha hb n).1.symm.trans z) (by decide), fun a' b' _ _ _ e2 => ?_⟩
  injection e2 with e2
  have e3 := wd_inj e2
  injection e3 with e3 e4
  injection e4 with e4 e5
  rw [← e3, ← e4]
  exact q
theorem Yd.ins {p : Addr} {rows : List (List (Option Int))} (h : Yd K H p rows) : ∃ dx fs, H p = some (.ins (He.ga K "Yard") dx fs) ∧ (∀ m : Str, m ≠ "_rows" → m ≠ "_reckoning" → fs.lookup m = none) := by
  obtain ⟨dx, t, as, h1, _⟩ := h
  refine ⟨dx, _, h1, fun m hm hn => ?_⟩
  simp only [List.lookup]
  rw [beq_eq_false_iff_ne.mpr hm, beq_eq_false_iff_ne.mpr hn]
theorem pV_none {o : Option Int} : decide (pV o = V.non) = o.isNone := by
  cases o with
  | none => rfl
  | some i => exact decide_eq_false nofun
theorem rf_spec (ds : List Nat) (e : Nat) : (Txt.rfind (wd ds) (pl e) = -1 ∧ ∀ j : Nat, ds[j]? ≠ some e) ∨ ∃ i : Nat, Txt.rfind (wd ds) (pl e) = (i : Int) ∧ ds[i]? = some e ∧ ∀ j, i < j → ds[j]? ≠ some e := by
  have key : ∀ j : Nat, StrLaws.At (wd ds) (pl e) (wd ds).length j ↔ ds[j]? = some e := fun j => by
    have e1 : (pl e).length = 1 := rfl
    have e2 : ((wd ds).cps.extract j (j + 1)).toList = ((ds.map (97 + ·)).drop j).take 1 := by simp [wd]
    unfold StrLaws.At Builtin.Str.subAt
    rw [e1, wd_length, beq_iff_eq]
    constructor
    · rintro ⟨h1, h2⟩
      have h3 : ((ds.map (97 + ·)).drop j).take 1 = [97 + e] := by rw [← e2, h2]; rfl
      have h4 := congrArg (fun l : List Nat => l[0]?) h3
      simpa using h4
    · intro h
      have lt : j < ds.length := (List.getElem?_eq_some_iff.mp h).1
      refine ⟨by omega, Array.toList_inj.mp ?_⟩
      rw [e2, List.drop_eq_getElem_cons (by simpa using lt)]
      have : ds[j] = e := by
        rw [List.getElem?_eq_getElem lt] at h
        exact Option.some.inj h
      simp [pl, this]
  rcases rfind_whole (wd ds) (pl e) with ⟨h1, h2⟩ | ⟨i, h1, h2, h3⟩
  · exact .inl ⟨h1, fun j z => h2 j ((key j).mpr z)⟩
  · exact .inr ⟨i, h1, (key i).mp h2, fun j hj z => h3 j hj ((key j).mpr z)⟩
theorem rf_eq {ds : List Nat} {k c : Nat} (h : ds[k]? = some c) : Txt.rfind (wd ds) (pl c) = (k : Int) ↔ ∀ j, k < j → ds[j]? ≠ some c := by
  rcases rf_spec ds c with ⟨_, h2⟩ | ⟨i, h1, h2, h3⟩
  · exact absurd h (h2 k)
  · rw [h1]
    constructor
    · intro e j hj
      exact h3 j (by omega)
    · intro g
      have a : ¬ k < i := fun z => g i z h2
      have b : ¬ i < k := fun z => h3 k z h
      omega
theorem rf_lt {ds : List Nat} {k d : Nat} : Txt.rfind (wd ds) (pl d) < (k : Int) ↔ ∀ j, k ≤ j → ds[j]? ≠ some d := by
  rcases rf_spec ds d with ⟨h1, h2⟩ | ⟨i, h1, h2, h3⟩
  · rw [h1]
    exact ⟨fun _ j _ => h2 j, fun _ => by omega⟩
  · rw [h1]
    constructor
    · intro e j hj
      exact h3 j (by omega)
    · intro g
      have a : ¬ k ≤ i := fun z => g i z h2
      omega
theorem alw_rf {rows : List (List (Option Int))} {ds : List Nat} {k d : Nat} (h3 : D3 ds) (hk : k < ds.length) (hd : d < 3) :
    alw rows ds k d = (decide (Txt.rfind (wd ds) (pl (ds[k]?.getD 0)) = (k : Int)) && (decide (Txt.rfind (wd ds) (pl d) < (k : Int)) && (prOf rows k (ds[k]?.getD 0) d).isSome)) := by
  have hc : ds[k]? = some ds[k] := List.getElem?_eq_getElem hk
  have e0 : ds[k]?.getD 0 = ds[k] := by rw [hc]; rfl
  unfold alw
  rw [e0]
  have hc3 : ds[k] < 3 := h3 _ (List.getElem_mem hk)
  generalize ds[k] = c at hc hc3
  rw [Bool.eq_iff_iff]
  simp only [decide_eq_true_eq, Bool.and_eq_true]
  rw [rf_eq hc, rf_lt]
  constructor
  · rintro ⟨n, s, e⟩
    have at_ : ∀ j, k < j → ∀ x, ds[j]? = some x → x = 3 - c - d := fun j hj x hx => by
      have lt := (List.getElem?_eq_some_iff.mp hx).1
      have : (ds.drop (k + 1))[j - (k + 1)]? = some x := by rw [List.getElem?_drop, show k + 1 + (j - (k + 1)) = j by omega, hx]
      rw [e] at this
      exact (List.mem_replicate.mp (List.mem_of_getElem? this)).2
    refine ⟨fun j hj z => ?_, fun j hj z => ?_, s⟩
    · have := at_ j hj c z
      omega
    · by_cases w : j = k
      · subst w
        rw [hc] at z
        exact n (Option.some.inj z)
      · have := at_ j (by omega) d z
        omega
  · rintro ⟨g1, g2, s⟩
    have n : c ≠ d := fun w => g2 k (Nat.le_refl _) (by rw [hc, w])
    refine ⟨n, s, ?_⟩
    have hl : (ds.drop (k + 1)).length = ds.length - (k + 1) := List.length_drop
    rw [← hl]
    refine List.eq_replicate_iff.mpr ⟨rfl, fun x mx => ?_⟩
    obtain ⟨j, hj⟩ := List.mem_iff_getElem?.mp mx
    rw [List.getElem?_drop] at hj
    have a1 : x ≠ c := fun w => g1 (k + 1 + j) (by omega) (by rw [hj, w])
    have a2 : x ≠ d := fun w => g2 (k + 1 + j) (by omega) (by rw [hj, w])
    have a3 : x < 3 := h3 x (List.mem_of_getElem? hj)
    omega
include F in
theorem read_is_allowed (h : sp_is_allowed K vs H Q E) : t_is_allowed K E { nx := fun _ H' => Q .non H', rt := Q } (start ["yard", "arrangement", "move", "crate", "place", "held"] vs) H := by
  match vs, h with
  | [_, x, _], ⟨p, rows, ds, t, k, d, rfl, hy, ha, rfl, hm, hk, hd, q⟩ =>
    obtain ⟨rfl, a1, a2⟩ := id ha
    obtain ⟨_, _, _, _, _, _, l1, l2, _⟩ := id hy
    have h60 : ds.length ≤ 60 := by omega
    have hkd : k < ds.length := by omega
    have ha := alw_rf (rows := rows) a2 hkd hd
    rw [ha] at q
    have hc3 : ds[k]?.getD 0 < 3 := by
      rw [List.getElem?_eq_getElem hkd]
      exact a2 _ (List.getElem_mem hkd)
    have hck : ds[k]? = some (ds[k]?.getD 0) := by rw [List.getElem?_eq_getElem hkd]; rfl
    unfold t_is_allowed
    walk_at "s"
    walk_at "1"
    refine ⟨t, _, rfl, hm, rfl, _, _, rfl, _, _, rfl, ⟨rfl, ?_⟩⟩
    simp only [gName, List.set_cons_zero, List.set_cons_succ]
    walk_at "s"
    walk_at "1"
    refine str_at h60 hkd ?_
    generalize ds[k]?.getD 0 = c at *
    walk_at "s"
    walk_at "1"
    refine ⟨rfl, _, _, rfl, rfl, ?_⟩
    walk_at "1"
    by_cases e1 : Txt.rfind (wd ds) (pl c) = (k : Int)
    · rw [decide_eq_true e1] at q
      rw [decide_eq_true e1]
      walk_at "1"
      simp only [if_false, Bool.not_true, Bool.false_eq_true]
      refine ⟨rfl, _, _, rfl, rfl, ?_⟩
      walk_at "1"
      by_cases e2 : Txt.rfind (wd ds) (pl d) < (k : Int)
      · rw [decide_eq_true e2] at q
        rw [if_neg (by omega)]
        obtain ⟨dx, fs, hins, hfs⟩ := hy.ins
        walk_at "1"
        simp only [tMeth]
        walk_at "1"
        refine ⟨p, dx, fs, rfl, hins, hfs _ (by decide) (by decide), p, rows, rfl, hy, fun u ys => ?_⟩
        walk_at "1"
        refine ys_row ys hk fun v hv => ?_
        refine ⟨by show 1 + 1 ≤ sizeLine; decide, ?_⟩
        have hap : pl c ++ pl d = wd [c, d] := wd_app [c] [d]
        rw [hap]
        have n : c ≠ d := fun w => rf_lt.mp e2 k (Nat.le_refl _) (by rw [hck, w])
        refine col_of hc3 hd n (row_price hk hv (hy.six hk) hc3 hd n ?_)
        walk_at "1"
        rw [pV_none]
        cases hp : prOf rows k c d with
        | none =>
          rw [hp] at q
          exact q
        | some v =>
          rw [hp] at q
          exact q
      · rw [decide_eq_false e2] at q
        rw [if_pos (by omega)]
        exact q
    · rw [decide_eq_false e1] at q
      rw [decide_eq_false e1]
      exact q
theorem MvOr.to {y x z : V} {H : Hp} {E : XK} {k k' : List (List (Option Int)) → List Nat → Nat → Nat → Prop} (h : MvOr K H y x z E k) (f : ∀ p rows ds t c d, y = .ref p → Yd K H p rows → Arr rows.length x ds → z = .ref t → Mv K H t c d → c < rows.length → d < 3 → alw rows ds c d = true → k rows ds c d → k' rows ds c d) : MvOr K H y x z E k' :=
  YardOr.to h id fun p rows e hy g => g.imp id fun ⟨ds, ha, g⟩ => ⟨ds, ha, g.imp id fun ⟨t, c, d, z1, z2, z3, z4, z5, z6⟩ => ⟨t, c, d, z1, z2, z3, z4, z5, f p rows ds t c d e hy ha z1 z2 z3 z4 z5 z6⟩⟩
include F in
theorem read_check_move (h : sp_check_move K vs H Q E) : t_check_move K E { nx := fun _ H' => Q .non H', rt := Q } (start ["yard", "arrangement", "move"] vs) H := by
  match vs, h with
  | [y, x, z], h =>
    unfold t_check_move sp_is_crate_and_place sp_is_allowed
    walk_at "s"
    walk_at "1"
    refine chk_arr3 h fun p rows ds ep hy ha g H1 s1 => ?_
    subst ep
    walk_at "1"
    rcases g with ⟨g | ⟨t, k, d, rfl, hm, hk, hd, hw⟩, rz⟩ | ⟨t, k, d, rfl, hm, hk, hd, hw, q⟩
    · refine ⟨p, rows, false, rfl, hy.same s1, g.same s1, ?_⟩
      exact rse_var (K := K) (c := "InvalidMove") (f := "value") (E := E) (i := 2) (D := { nx := fun _ H' => Q .non H', rt := Q }) rfl (rz.same s1)
    · refine ⟨p, rows, true, rfl, hy.same s1, (hm.form hk hd).same s1, ?_⟩
      simp only [if_true]
      refine ⟨p, rows, ds, t, k, d, rfl, hy.same s1, ha, rfl, Same.sqT s1 hm, hk, hd, ?_⟩
      rw [hw]
      exact rse_var (K := K) (c := "InvalidMove") (f := "value") (E := E) (i := 2) (D := { nx := fun _ H' => Q .non H', rt := Q }) rfl (rz.same s1)
    · refine ⟨p, rows, true, rfl, hy.same s1, (hm.form hk hd).same s1, ?_⟩
      simp only [if_true]
      refine ⟨p, rows, ds, t, k, d, rfl, hy.same s1, ha, rfl, Same.sqT s1 hm, hk, hd, ?_⟩
      rw [hw]
      exact q H1 s1
/-- check_move(y, x, z), and then -/
theorem chk_move {y x z : V} {H : Hp} {Q : VK} {k : List (List (Option Int)) → List Nat → Nat → Nat → Prop} (h : MvOr K H y x z E k)
    (q : ∀ p rows ds t c d, y = .ref p → Yd K H p rows → Arr rows.length x ds → z = .ref t → Mv K H t c d → c < rows.length → d < 3 → alw rows ds c d = true → k rows ds c d → ∀ H', Same H H' → Q .non H') : sp_check_move K [y, x, z] H Q E :=
  MvOr.to h q
theorem alw_ne {rows : List (List (Option Int))} {ds : List Nat} {k d : Nat} (h : alw rows ds k d = true) : ds[k]?.getD 0 ≠ d := by
  unfold alw at h
  simp only [decide_eq_true_eq, Bool.and_eq_true] at h
  exact h.1
theorem d3_at {ds : List Nat} (h : D3 ds) (k : Nat) : ds[k]?.getD 0 < 3 := by
  cases e : ds[k]? with
  | none => decide
  | some d => exact h d (List.mem_of_getElem? e)
include F in
theorem read_moved (h : sp_moved K vs H Q E) : t_moved K E { nx := fun _ H' => Q .non H', rt := Q } (start ["yard", "arrangement", "move", "crate", "place"] vs) H := by
  match vs, h with
  | [y, x, z], h =>
    unfold t_moved
    walk_at "s"
    walk_at "1"
    refine chk_move h fun p rows ds t k d ep hy ha ez hm hk hd hw q H1 s1 => ?_
    subst ep ez
    obtain ⟨rfl, a1, a2⟩ := id ha
    obtain ⟨_, _, _, _, _, _, l1, l2, _⟩ := id hy
    have hsz : (wd ds).length ≤ sizeLine := Nat.le_trans (by rw [wd_length]; omega) (show 60 ≤ sizeLine by decide)
    walk_at "s"
    walk_at "1"
    refine ⟨t, _, rfl, Same.sqT s1 hm, rfl, _, _, rfl, _, _, rfl, ⟨rfl, ?_⟩⟩
    simp only [gName, List.set_cons_zero, List.set_cons_succ]
    walk_at "1"
    have e1 : ((k : Int) + 1) = ((k + 1 : Nat) : Int) := by omega
    rw [e1, cut_to (by omega), cut_from (by omega)]
    have la : (ds.take k).length = k := by rw [List.length_take]; omega
    have hap : wd (ds.take k) ++ pl d = wd (ds.take k ++ [d]) := wd_app _ [d]
    rw [hap, wd_app]
    refine ⟨hsz, Nat.le_trans (show _ ≤ 61 by rw [wd_length, la]; show k + 1 ≤ 61; omega) (by decide), hsz, Nat.le_trans (show _ ≤ 200 by rw [wd_length, wd_length, List.length_append, la, List.length_drop, List.length_singleton]; omega) (by decide), ?_⟩
    have : ds.take k ++ [d] ++ ds.drop (k + 1) = ds.set k d := by
      rw [List.set_eq_take_append_cons_drop, if_pos (by omega), List.append_assoc]
      rfl
    rw [this]
    exact q H1 s1
include F in
theorem read_move_cost (h : sp_move_cost K vs H Q E) : t_move_cost K E { nx := fun _ H' => Q .non H', rt := Q } (start ["yard", "arrangement", "move", "crate", "place"] vs) H := by
  match vs, h with
  | [y, x, z], h =>
    unfold t_move_cost
    walk_at "s"
    walk_at "1"
    refine chk_move h fun p rows ds t k d ep hy ha ez hm hk hd hw q H1 s1 => ?_
    subst ep ez
    obtain ⟨rfl, a1, a2⟩ := id ha
    obtain ⟨_, _, _, _, _, _, l1, l2, _⟩ := id hy
    walk_at "s"
    walk_at "1"
    refine ⟨t, _, rfl, Same.sqT s1 hm, rfl, _, _, rfl, _, _, rfl, ⟨rfl, ?_⟩⟩
    simp only [gName, List.set_cons_zero, List.set_cons_succ]
    have hy1 := hy.same s1
    obtain ⟨dx, fs, hins, hfs⟩ := hy1.ins
    walk_at "1"
    simp only [tMeth]
    walk_at "1"
    refine ⟨p, dx, fs, rfl, hins, hfs _ (by decide) (by decide), p, rows, rfl, hy1, fun u ys => ?_⟩
    walk_at "1"
    refine ys_row ys hk fun v hv => ?_
    refine str_at (by omega) (by omega) ?_
    walk_at "1"
    refine ⟨by show 1 + 1 ≤ sizeLine; decide, ?_⟩
    have hap : pl (ds[k]?.getD 0) ++ pl d = wd [ds[k]?.getD 0, d] := wd_app [_] [d]
    rw [hap]
    have hc3 := d3_at a2 k
    exact col_of hc3 hd (alw_ne hw) (row_price hk hv (hy1.six hk) hc3 hd (alw_ne hw) (q H1 s1))
include F in
theorem read_way_back (h : sp_way_back K vs H Q E) : t_way_back K E { nx := fun _ H' => Q .non H', rt := Q } (start ["yard", "arrangement", "move", "crate", "_"] vs) H := by
  match vs, h with
  | [y, x, z], h =>
    unfold t_way_back
    walk_at "s"
    walk_at "1"
    refine chk_move h fun p rows ds t k d ep hy ha ez hm hk hd hw q H1 s1 => ?_
    subst ep ez
    obtain ⟨rfl, a1, a2⟩ := id ha
    obtain ⟨_, _, _, _, _, _, l1, l2, _⟩ := id hy
    walk_at "s"
    walk_at "1"
    refine ⟨t, _, rfl, Same.sqT s1 hm, rfl, _, _, rfl, _, _, rfl, ⟨rfl, ?_⟩⟩
    simp only [gName, List.set_cons_zero, List.set_cons_succ]
    walk_at "1"
    refine str_at (by omega) (by omega) ⟨by decide, fun u hu => ?_⟩
    exact q u _ (s1.trans (same_new hu)) (s1.free hu) (.inl (.inl upd_same))
end
end U
namespace U
open PySem PySem.Spec PyProof.Rows L2

section
variable {K : PySem.W.Frag} {H H' : Hp} {ts : List Addr} {ms : List (Nat × Nat)}
theorem Mvs.same (e : Same H H') (h : Mvs K H ts ms) : Mvs K H' ts ms := ⟨h.1, fun i t m z1 z2 => Same.sqT e (h.2 i t m z1 z2)⟩
theorem Mvs.off {D : Addr} {l : List V} (e : Off D H H') (hD : H D = some (.lst l)) (h : Mvs K H ts ms) : Mvs K H' ts ms := ⟨h.1, fun i t m z1 z2 => e.sqT hD (h.2 i t m z1 z2)⟩
theorem Mvs.snoc {t : Addr} {m : Nat × Nat} (h : Mvs K H ts ms) (hm : Mv K H t m.1 m.2) : Mvs K H (ts ++ [t]) (ms ++ [m]) := by
  refine ⟨by simp [h.1], fun i u n z1 z2 => ?_⟩
  by_cases e : i < ts.length
  · rw [List.getElem?_append_left e] at z1
    rw [List.getElem?_append_left (by rw [← h.1]; exact e)] at z2
    exact h.2 i u n z1 z2
  · have e2 : i = ts.length := by
      have := (List.getElem?_eq_some_iff.mp z1).1
      simp at this
      omega
    subst e2
    rw [List.getElem?_append_right (Nat.le_refl _), Nat.sub_self] at z1
    rw [List.getElem?_append_right (by rw [h.1]; exact Nat.le_refl _), h.1, Nat.sub_self] at z2
    cases z1
    cases z2
    exact hm
theorem mvs_nil : Mvs K H [] [] := ⟨rfl, fun i t m z => nomatch z⟩
theorem allL_succ (n : Nat) : allL (n + 1) = allL n ++ [(n, 0), (n, 1), (n, 2)] := by
  unfold allL
  rw [List.range_succ, List.flatMap_append]
  rfl
theorem allL_len (n : Nat) : (allL n).length = 3 * n := by
  induction n with
  | zero => rfl
  | succ n ih => rw [allL_succ, List.length_append, ih]; rfl
theorem allL_mem {n : Nat} {m : Nat × Nat} (h : m ∈ allL n) : m.1 < n ∧ m.2 < 3 := by
  unfold allL at h
  obtain ⟨k, hk, hm⟩ := List.mem_flatMap.mp h
  have hk := List.mem_range.mp hk
  simp only [or_false, List.mem_cons, List.not_mem_nil] at hm
  rcases hm with rfl | rfl | rfl
  · exact ⟨hk, show 0 < 3 by decide⟩
  · exact ⟨hk, show 1 < 3 by decide⟩
  · exact ⟨hk, show 2 < 3 by decide⟩
end
section
variable {K : PySem.W.Frag} (F : KF K) {vs : List V} {H : Hp} {Q : VK} {E : XK}
local macro_rules | `(tactic| walk_at "w") => `(tactic| try simp only [turnE, lcT, Snoc, tRet, tRetN, tAndV, tOrV, tNotV, tCB, tCons, tVar, tNil, tC, tOp, tSeq, tAsg, gName, gSub, tIfS, tDrop, tFn, tTup, tLst, tNext, tB, tTest, tNot, tAnd, tOr, tIf, tChain, tUn, rU, tFld, tPart, tNoPart, L2.tSl, tBM, tPar, tPar3, tTruth, tDNewK,
  L2.start, List.map_cons, List.map_nil, List.length_cons, List.length_nil, List.replicate_succ, List.replicate_zero, List.append_nil, List.nil_append, List.cons_append, List.singleton_append, Nat.sub_self, Nat.zero_add, Nat.reduceAdd, Nat.reduceSub,
  List.getElem?_cons_zero, List.getElem?_cons_succ, List.set_cons_zero, List.set_cons_succ, Option.some.injEq, exists_eq_left, exists_eq_left', V.int.injEq, V.bl.injEq, V.str.injEq, V.ref.injEq,
  uAdd_int, uAdd_str, uSub_int, uMul_int, uMul_str, uDiv_int, uMod_int, uPow_int, uLt_int, uLe_int, uGt_int, uGe_int, uIs_non, uNis_non, uIs_bl, uNis_bl, sp1, sp2, sp3, sp4, uEq_int, uEq_str, uNe_int, uNe_str, uSl_str, uLen_str, decide_eq_true_eq])
local macro_rules | `(tactic| walk_at "1") => `(tactic| try simp only [turnE, lcT, Snoc, tRet, tRetN, tAndV, tOrV, tNotV, tCB, tCons, tVar, tNil, tC, tOp, tAsg, gName, gSub, tIfS, tDrop, tFn, tTup, tLst, tNext, tB, tTest, tNot, tAnd, tOr, tIf, tChain, tUn, rU, tFld, tPart, tNoPart, L2.tSl, tBM, tPar, tPar3, tTruth, tDNewK,
  L2.start, List.map_cons, List.map_nil, List.length_cons, List.length_nil, List.replicate_succ, List.replicate_zero, List.append_nil, List.nil_append, List.cons_append, List.singleton_append, Nat.sub_self, Nat.zero_add, Nat.reduceAdd, Nat.reduceSub,
  List.getElem?_cons_zero, List.getElem?_cons_succ, List.set_cons_zero, List.set_cons_succ, Option.some.injEq, exists_eq_left, exists_eq_left', V.int.injEq, V.bl.injEq, V.str.injEq, V.ref.injEq,
  uAdd_int, uAdd_str, uSub_int, uMul_int, uMul_str, uDiv_int, uMod_int, uPow_int, uLt_int, uLe_int, uGt_int, uGe_int, uIs_non, uNis_non, uIs_bl, uNis_bl, sp1, sp2, sp3, sp4, uEq_int, uEq_str, uNe_int, uNe_str, uSl_str, uLen_str, decide_eq_true_eq])
local macro_rules | `(tactic| walk_at "s") => `(tactic| ((try dsimp only [turnE]); with_reducible refine seq_ ?_))

theorem allowed_s1 {p : Addr} {rows : List (List (Option Int))} {x1 x2 x3 x4 x5 : Option V} {D : Ends} (F : KF K) (hy : Yd K H p rows)
    (q : ∀ A ts H', Same H H' → H A = none → H' A = some (.lst (ts.map V.ref)) → Mvs K H' ts (allL rows.length) → (∀ t ∈ ts, H t = none) → D.nx [some (.ref p), x1, some (.ref A), x3, x4, x5] H') :
    (tAsg (tLc2 (iRng1 (tCons (tCB (rLenO (He.ga K "Yard") (sp_Yard_len K)) (tCons (tVar 0) tNil)) tNil)) (gName 3) tYes (iSeq K (tC (.ref (He.ga K "PLACES")))) (gName 4) tYes (tTup (tCons (tVar 3) (tCons (tVar 4) tNil))) [3, 4] [4]) (gName 2)) D [some (.ref p), x1, x2, x3, x4, x5] H := by
  obtain ⟨_, _, _, _, _, _, l1, l2, _⟩ := id hy
  show tLc2 _ _ _ _ _ _ _ _ _ _ _ _
  show (iRng1 _ _ _ _)
  show (tCons _ _ _ _ _)
  walk_at "1"
  refine lenO_of hy ⟨_, rfl, by omega, by omega, fun A hA => ?_⟩
  rw [Int.toNat_natCast]
  refine it_plain plain_R (fun i H' => ∃ ts, Same H H' ∧ H' A = some (.lst (ts.map V.ref)) ∧ Mvs K H' ts (allL i) ∧ ∀ t ∈ ts, H t = none) ⟨[], same_new hA, upd_same, mvs_nil, fun t m => nomatch m⟩ (fun _ _ _ => trivial) ?_ ?_
  · rintro i x H1 hx ⟨ts, s1, h1, h2, h3⟩
    have lt : i < rows.length := by have := (List.getElem?_eq_some_iff.mp hx).1; simpa [intsL] using this
    have ex : x = .int i := by
      simp [intsL, lt] at hx
      exact hx.symm
    subst ex
    simp only [lcT, wipe]
    walk_at "1"
    refine ⟨trivial, ?_⟩
    simp only [tYes, if_true]
    refine .inr ⟨_, rfl, ⟨_, F.places H1⟩, ?_⟩
    refine it_plain plain_T (fun j H' => ∃ ts, Same H H' ∧ H' A = some (.lst (ts.map V.ref)) ∧ Mvs K H' ts (allL i ++ [(i, 0), (i, 1), (i, 2)].take j) ∧ ∀ t ∈ ts, H t = none) ⟨ts, s1, h1, by simpa using h2, h3⟩ (fun _ H' _ => F.places H') ?_ ?_
    · rintro j x H2 hj ⟨ts, s1, h1, h2, h3⟩
      have hj3 : j < 3 := (List.getElem?_eq_some_iff.mp hj).1
      have ex : x = .str (pl j) := by
        match j, hj3, hj with
        | 0, _, hj => exact (Option.some.inj hj).symm
        | 1, _, hj => exact (Option.some.inj hj).symm
        | 2, _, hj => exact (Option.some.inj hj).symm
      subst ex
      have hlen : ts.length ≤ 200 := by
        rw [h2.1, List.length_append, allL_len, List.length_take]
        simp
        omega
      walk_at "1"
      refine ⟨trivial, by decide, fun T hT => ?_⟩
      have hTA : A ≠ T := by rintro rfl; rw [hT] at h1; cases h1
      have sT : Same H2 (upd H2 T (.tup [.int i, .str (pl j)])) := same_new hT
      have hA7 := sT _ _ h1
      have hTT : Mv K (upd H2 T (.tup [.int i, .str (pl j)])) T i j := .inl (.inl upd_same)
      have hms := (h2.same sT).snoc (m := (i, j)) hTT
      generalize upd H2 T (.tup [.int i, .str (pl j)]) = H3 at *
      refine ⟨_, hA7, ?_, ts ++ [T], (Off.trans (Same.off (s1.trans sT)) off_upd).same hA, ?_, ?_, ?_⟩
      · rw [List.length_map]
        exact Nat.lt_of_lt_of_le (show ts.length < 201 by omega) (by decide)
      · rw [upd_same]; simp
      · have e : allL i ++ [(i, 0), (i, 1), (i, 2)].take (j + 1) = (allL i ++ [(i, 0), (i, 1), (i, 2)].take j) ++ [(i, j)] := by
          rw [List.append_assoc]
          congr 1
          match j, hj3 with
          | 0, _ => rfl
          | 1, _ => rfl
          | 2, _ => rfl
        rw [e]
        exact hms.off off_upd hA7
      · intro t m
        rcases List.mem_append.mp m with m | m
        · exact h3 t m
        · rw [List.mem_singleton.mp m]
          exact s1.free hT
    · rintro H2 ⟨ts, s1, h1, h2, h3⟩
      exact ⟨ts, s1, h1, by rw [allL_succ]; exact h2, h3⟩
  · rintro H1 ⟨ts, s1, h1, h2, h3⟩
    have hl : (intsL 0 rows.length).length = rows.length := by simp [intsL]
    rw [hl] at h2
    exact q A ts H1 s1 hA h1 h2 h3
include F in
theorem read_allowed (h : sp_allowed K vs H Q E) : t_allowed K E { nx := fun _ H' => Q .non H', rt := Q } (start ["yard", "arrangement", "moves", "crate", "place", "move"] vs) H := by
  match vs, h with
  | [y, x], h =>
    unfold t_allowed
    walk_at "s"
    walk_at "1"
    refine chk_arr3 h fun p rows ds ep hy ha q H1 s1 => ?_
    subst ep
    obtain ⟨rfl, a1, a2⟩ := id ha
    obtain ⟨_, _, _, _, _, _, l1, l2, _⟩ := id hy
    have hy1 := hy.same s1
    walk_at "s"
    refine allowed_s1 F hy1 fun A ts H2 s2 hA0 hA hms hfr => ?_
    have hlen : ts.length = 3 * rows.length := by rw [hms.1, allL_len]
    have hy2 := hy1.same s2
    walk_at "1"
    refine tLc_seq (p := A) (.inl (.inl (.inl hA))) (tVar_eq rfl) fun J G P hG D hD => ?_
    refine lc_plain P (fun i H' => ∃ us, Same H2 H' ∧ H' D = some (.lst (us.map V.ref)) ∧ Mvs K H' us (((allL rows.length).take i).filter fun m => alw rows ds m.1 m.2) ∧ us.length ≤ i ∧ ∀ u ∈ us, u ∈ ts) ⟨[], same_new hD, upd_same, mvs_nil, Nat.le_refl _, fun t m => nomatch m⟩ (fun i H' ⟨us, z, _⟩ => hG H' z) ?_ ?_
    · rintro i x H3 hx ⟨us, s3, h1, h2, h3, h4⟩
      rw [List.getElem?_map] at hx
      obtain ⟨t, ht, rfl⟩ := Option.map_eq_some_iff.mp hx
      have hi : i < ts.length := (List.getElem?_eq_some_iff.mp ht).1
      obtain ⟨m, hmi⟩ : ∃ m, (allL rows.length)[i]? = some m := ⟨_, List.getElem?_eq_getElem (by rw [← hms.1]; exact hi)⟩
      have hm : Mv K H3 t m.1 m.2 := Same.sqT s3 (hms.2 i t _ ht hmi)
      obtain ⟨m1, m2⟩ := allL_mem (List.mem_of_getElem? hmi)
      simp only [lcT, wipe]
      walk_at "1"
      refine ⟨trivial, p, rows, ds, t, m.1, m.2, rfl, hy2.same s3, ha, rfl, hm, m1, m2, ?_⟩
      refine ⟨_, rfl, ?_⟩
      have ef : ((allL rows.length).take (i + 1)).filter (fun m => alw rows ds m.1 m.2) = ((allL rows.length).take i).filter (fun m => alw rows ds m.1 m.2) ++ (if alw rows ds m.1 m.2 = true then [m] else []) := by
        rw [List.take_succ, hmi, List.filter_append]
        congr 1
        by_cases z : alw rows ds m.1 m.2 = true
        · simp [z]
        · simp [z]
      cases ew : alw rows ds m.1 m.2 with
      | false =>
        rw [if_neg (by decide)]
        rw [ew] at ef
        exact ⟨us, s3, h1, by rw [ef]; simpa using h2, by omega, h4⟩
      | true =>
        rw [if_pos rfl]
        rw [ew] at ef
        refine ⟨_, h1, ?_, us ++ [t], (Off.trans (Same.off s3) off_upd).same hD, by rw [upd_same]; simp, ?_, by simp; omega, ?_⟩
        · rw [List.length_map]
          exact Nat.lt_of_lt_of_le (show us.length < 201 by omega) (by decide)
        · rw [ef]
          exact (h2.snoc (m := m) hm).off off_upd h1
        · intro u mu
          rcases List.mem_append.mp mu with mu | mu
          · exact h4 u mu
          · rw [List.mem_singleton.mp mu]
            exact List.mem_of_getElem? ht
    · rintro H3 ⟨us, s3, h1, h2, h3, h4⟩
      have e : (allL rows.length).take (ts.map V.ref).length = allL rows.length := List.take_of_length_le (by rw [List.length_map, hms.1]; exact Nat.le_refl _)
      rw [e] at h2
      exact q D us H3 ((s1.trans s2).trans s3) ((s1.trans s2).free hD) h1 h2 fun u mu => s1.free (hfr u (h4 u mu))
end
end U
namespace U
open PySem PySem.Spec PyProof.Rows L2

/-! ### rows of moves -/
def beh (ds : List Nat) (ms : List (Nat × Nat)) : List Nat := ms.foldl (fun a m => a.set m.1 m.2) ds
def trailN (ds : List Nat) (ms : List (Nat × Nat)) (n : Nat) : List (List Nat) := (List.range (n + 1)).map fun i => beh ds (ms.take i)
def trail (ds : List Nat) (ms : List (Nat × Nat)) : List (List Nat) := trailN ds ms ms.length
abbrev wdV (d : List Nat) : V := .str (wd d)
def GoodR (rows : List (List (Option Int))) (ds : List Nat) (ms : List (Nat × Nat)) : Prop := ∀ i m, ms[i]? = some m → m.1 < rows.length ∧ m.2 < 3 ∧ alw rows (beh ds (ms.take i)) m.1 m.2 = true
def stepC (rows : List (List (Option Int))) (ds : List Nat) (ms : List (Nat × Nat)) (i : Nat) : Int := match ms[i]? with
  | some m => (prOf rows m.1 ((beh ds (ms.take i))[m.1]?.getD 0) m.2).getD 0
  | none => 0
def costN (rows : List (List (Option Int))) (ds : List Nat) (ms : List (Nat × Nat)) (n : Nat) : Int := ((List.range n).map (stepC rows ds ms)).sum
def costR (rows : List (List (Option Int))) (ds : List Nat) (ms : List (Nat × Nat)) : Int := costN rows ds ms ms.length
/-- how often a crate moves -/
def oftenN (ms : List (Nat × Nat)) (n k : Nat) : Nat := ((ms.take n).filter fun m => decide (m.1 = k)).length
def largeL (ms : List (Nat × Nat)) (k : Nat) : List (Nat × Nat) := ms.filter fun m => decide (m.1 < k)
/-- a list or a tuple of moves -/
def RowM (K : PySem.W.Frag) (H : Hp) (z : V) (ms : List (Nat × Nat)) : Prop := ∃ (p : Addr) (ts : List Addr), z = .ref p ∧ SqA K H p (ts.map V.ref) ∧ Mvs K H ts ms ∧ ms.length ≤ 1000
/-- a yard, an arrangement, a row from there on -/
def RowIn (K : PySem.W.Frag) (H : Hp) (y x z : V) (k : List (List (Option Int)) → List Nat → List (Nat × Nat) → Prop) : Prop :=
  ∃ p rows ds ms, y = .ref p ∧ Yd K H p rows ∧ Arr rows.length x ds ∧ RowM K H z ms ∧ GoodR rows ds ms ∧ k rows ds ms
theorem RowM.same {K : PySem.W.Frag} {H H' : Hp} {z : V} {ms : List (Nat × Nat)} (e : Same H H') (h : RowM K H z ms) : RowM K H' z ms := by
  obtain ⟨p, ts, h1, h2, h3, h4⟩ := h
  exact ⟨p, ts, h1, h2.same e, h3.same e, h4⟩
theorem beh_len (ds : List Nat) (ms : List (Nat × Nat)) : (beh ds ms).length = ds.length := by
  unfold beh
  induction ms generalizing ds with
  | nil => rfl
  | cons m r ih => rw [List.foldl_cons, ih, List.length_set]
theorem beh_d3 {ds : List Nat} {ms : List (Nat × Nat)} (h : D3 ds) (h2 : ∀ m ∈ ms, m.2 < 3) : D3 (beh ds ms) := by
  unfold beh
  induction ms generalizing ds with
  | nil => exact h
  | cons m r ih =>
    rw [List.foldl_cons]
    refine ih (fun d hd => ?_) fun x hx => h2 x (List.mem_cons_of_mem _ hx)
    rcases List.mem_or_eq_of_mem_set hd with hd | rfl
    · exact h d hd
    · exact h2 m List.mem_cons_self
theorem beh_take {ds : List Nat} {ms : List (Nat × Nat)} {i : Nat} {m : Nat × Nat} (h : ms[i]? = some m) : beh ds (ms.take (i + 1)) = (beh ds (ms.take i)).set m.1 m.2 := by
  unfold beh
  rw [List.take_succ, h, List.foldl_append]
  rfl
theorem trailN_succ (ds : List Nat) (ms : List (Nat × Nat)) (n : Nat) : trailN ds ms (n + 1) = trailN ds ms n ++ [beh ds (ms.take (n + 1))] := by
  unfold trailN
  rw [List.range_succ, List.map_append]
  rfl
theorem trailN_len (ds : List Nat) (ms : List (Nat × Nat)) (n : Nat) : (trailN ds ms n).length = n + 1 := by simp [trailN]
theorem GoodR.small {rows : List (List (Option Int))} {ds : List Nat} {ms : List (Nat × Nat)} (h : GoodR rows ds ms) {m : Nat × Nat} (hm : m ∈ ms) : m.1 < rows.length ∧ m.2 < 3 := by
  obtain ⟨i, hi⟩ := List.mem_iff_getElem?.mp hm
  obtain ⟨a, b, _⟩ := h i m hi
  exact ⟨a, b⟩
theorem GoodR.d3 {rows : List (List (Option Int))} {ds : List Nat} {ms : List (Nat × Nat)} (h : GoodR rows ds ms) (h3 : D3 ds) (i : Nat) : D3 (beh ds (ms.take i)) :=
  beh_d3 h3 fun m hm => (h.small (List.mem_of_mem_take hm)).2
def sp__is_move_list (K : PySem.W.Frag) : Sp := sp2 fun y z H Q _ => ∃ p rows ms, y = .ref p ∧ Yd K H p rows ∧ RowM K H z ms ∧ (∀ m ∈ ms, m.1 < rows.length ∧ m.2 < 3) ∧ ∀ H', Same H H' → Q (.bl true) H'
def sp__check_move_list (K : PySem.W.Frag) : Sp := sp2 fun y z H Q _ => ∃ p rows ms, y = .ref p ∧ Yd K H p rows ∧ RowM K H z ms ∧ (∀ m ∈ ms, m.1 < rows.length ∧ m.2 < 3) ∧ ∀ H', Same H H' → Q .non H'
def sp__arrangements (K : PySem.W.Frag) : Sp := sp3 fun y x z H Q _ => RowIn K H y x z fun _ ds ms => ∀ l H', Same H H' → H l = none → H' l = some (.lst ((trail ds ms).map wdV)) → Q (.ref l) H'
def sp__first_refused (K : PySem.W.Frag) : Sp := sp2 fun z a H Q _ => ∃ p xs q ys, z = .ref p ∧ a = .ref q ∧ SqA K H p xs ∧ SqA K H q ys ∧ ys.length = xs.length + 1 ∧ Q .non H
def sp_all_behind (K : PySem.W.Frag) : Sp := sp3 fun y x z H Q _ => RowIn K H y x z fun _ ds ms => ∀ l H', Same H H' → H l = none → H' l = some (.lst ((trail ds ms).map wdV)) → Q (.ref l) H'
def sp_behind (K : PySem.W.Frag) : Sp := sp3 fun y x z H Q _ => RowIn K H y x z fun _ ds ms => ∀ H', Same H H' → Q (wdV (beh ds ms)) H'
def sp_is_row (K : PySem.W.Frag) : Sp := sp3 fun y x z H Q _ => RowIn K H y x z fun _ _ _ => ∀ H', Same H H' → Q (.bl true) H'
def sp_first_bad (K : PySem.W.Frag) : Sp := sp3 fun y x z H Q _ => RowIn K H y x z fun _ _ _ => ∀ H', Same H H' → Q .non H'
def sp_row_cost (K : PySem.W.Frag) : Sp := sp3 fun y x z H Q _ => RowIn K H y x z fun rows ds ms => ∀ H', Same H H' → Q (.int (costR rows ds ms)) H'
def sp_row_crates (K : PySem.W.Frag) : Sp := sp3 fun y x z H Q _ => RowIn K H y x z fun rows _ ms => ∀ l H', Same H H' → H l = none → H' l = some (.lst ((List.range rows.length).map fun k => V.int (oftenN ms ms.length k : Nat))) → Q (.ref l) H'
def sp_row_of_largest (K : PySem.W.Frag) : Sp := sp4 fun y x z c H Q _ => RowIn K H y x z fun rows _ ms => ∃ k : Nat, c = .int (k : Nat) ∧ k ≤ rows.length ∧ ∀ l us H', Same H H' → H l = none → H' l = some (.lst (us.map V.ref)) → Mvs K H' us (largeL ms k) → Q (.ref l) H'
def t__first_refused (K : PySem.W.Frag) (E : XK) : TS := (tSeq (tAsg (tOp uSub (tCB (uLen K) (tCons (tVar 1) tNil)) (tC (.int 1))) (gName 2)) (tRet (tIf (tTest (tOp uLt (tVar 2) (tCB (uLen K) (tCons (tVar 0) tNil)))) (tVar 2) (tC .non))))
def t__is_move_list (K : PySem.W.Frag) (E : XK) : TS := (tSeq (tIfS (tOr (tNot (tB (tCB (uIsi K) (tCons (tVar 1) (tCons (tTup (tCons (tC (.ty "list")) (tCons (tC (.ty "tuple")) tNil))) tNil))))) (tTest (tOp uGt (tCB (uLen K) (tCons (tVar 1) tNil)) (tC (.int 1000))))) (tRet (tC (.bl false))) tNext) (tSeq (tAsg (tCB (rLenO (He.ga K "Yard") (sp_Yard_len K)) (tCons (tVar 0) tNil)) (gName 2)) (tRet (tCB (rAll K) (tCons (tLc (iSeq K (tVar 1)) (gName 3) tYes (tAndV (tCB (uIsi K) (tCons (tVar 3) (tCons (tC (.ty "tuple")) tNil))) (tAndV (tOp (uEq K) (tCB (uLen K) (tCons (tVar 3) tNil)) (tC (.int 2))) (tAndV (tCB (uIsi K) (tCons (tOp (uIx K) (tVar 3) (tC (.int 0))) (tCons (tC (.ty "int")) tNil))) (tAndV (tNotV (tCB (uIsi K) (tCons (tOp (uIx K) (tVar 3) (tC (.int 0))) (tCons (tC (.ty "bool")) tNil)))) (tAndV (tChain uLe uLt (tC (.int 0)) (tOp (uIx K) (tVar 3) (tC (.int 0))) (tVar 2)) (tOp (uIn K false) (tOp (uIx K) (tVar 3) (tC (.int 1))) (tC (.ref (He.ga K "PLACES"))))))))) [3]) tNil)))))
def t__check_move_list (K : PySem.W.Frag) (E : XK) : TS := (tIfS (tNot (tB (tFn (sp__is_move_list K) E (tCons (tVar 0) (tCons (tVar 1) tNil))))) (tRse K "InvalidRow" "value" E (tCons (tVar 1) tNil)) tNext)
def t__arrangements (K : PySem.W.Frag) (E : XK) : TS := (tSeq (tAsg (tMeth (He.ga K "Yard") "price_rows" (sp_Yard_price_rows K) [] E (tVar 0) tNil) (gName 3)) (tSeq (tAsg (tVar 1) (gName 4)) (tSeq (tAsg (tLst (tCons (tVar 4) tNil)) (gName 5)) (tSeq (tFor (iSeq K (tVar 2)) (gTup K 2 (gCons (gName 6) (gCons (gName 7) gNil))) (tSeq (tAsg (tOp (uIx K) (tVar 4) (tVar 6)) (gName 8)) (tSeq (tIfS (tOr (tTest (tOp (uNe K) (tBM K "str" rRfind (tVar 4) (tCons (tVar 8) tNil)) (tVar 6))) (tOr (tTest (tOp uGe (tBM K "str" rRfind (tVar 4) (tCons (tVar 7) tNil)) (tVar 6))) (tTest (tOp uIs (tOp (uIx K) (tOp (uIx K) (tVar 3) (tVar 6)) (tOp (rCol K) (tC (.ref (He.ga K "COLUMNS"))) (tOp uAdd (tVar 8) (tVar 7)))) (tC .non))))) tBreak tNext) (tSeq (tAsg (tOp uAdd (tOp uAdd (tSl (uSl K) (tVar 4) tNoPart (tPart (tVar 6))) (tVar 7)) (tSl (uSl K) (tVar 4) (tPart (tOp uAdd (tVar 6) (tC (.int 1)))) tNoPart)) (gName 4)) (tDrop (tBM K "list" rAppend (tVar 5) (tCons (tVar 4) tNil))))))) (tRet (tVar 5))))))
def t_all_behind (K : PySem.W.Frag) (E : XK) : TS := (tSeq (tDrop (tFn (sp_check_arrangement K) E (tCons (tVar 0) (tCons (tVar 1) tNil)))) (tSeq (tDrop (tFn (sp__check_move_list K) E (tCons (tVar 0) (tCons (tVar 2) tNil)))) (tSeq (tAsg (tFn (sp__arrangements K) E (tCons (tVar 0) (tCons (tVar 1) (tCons (tVar 2) tNil)))) (gName 3)) (tSeq (tAsg (tFn (sp__first_refused K) E (tCons (tVar 2) (tCons (tVar 3) tNil))) (gName 4)) (tSeq (tIfS (tTest (tOp uNis (tVar 4) (tC .non))) (tRse K "NotAllowed" "index" E (tCons (tVar 4) tNil)) tNext) (tRet (tVar 3)))))))
def t_behind (K : PySem.W.Frag) (E : XK) : TS := (tRet (tOp (uIx K) (tFn (sp_all_behind K) E (tCons (tVar 0) (tCons (tVar 1) (tCons (tVar 2) tNil)))) (tUn (rU fun i => .int (-i)) (tC (.int 1)))))
def t_is_row (K : PySem.W.Frag) (E : XK) : TS := (tSeq (tDrop (tFn (sp_check_arrangement K) E (tCons (tVar 0) (tCons (tVar 1) tNil)))) (tRet (tAndV (tFn (sp__is_move_list K) E (tCons (tVar 0) (tCons (tVar 2) tNil))) (tOp uIs (tFn (sp__first_refused K) E (tCons (tVar 2) (tCons (tFn (sp__arrangements K) E (tCons (tVar 0) (tCons (tVar 1) (tCons (tVar 2) tNil)))) tNil))) (tC .non)))))
def t_first_bad (K : PySem.W.Frag) (E : XK) : TS := (tSeq (tDrop (tFn (sp_check_arrangement K) E (tCons (tVar 0) (tCons (tVar 1) tNil)))) (tSeq (tDrop (tFn (sp__check_move_list K) E (tCons (tVar 0) (tCons (tVar 2) tNil)))) (tRet (tFn (sp__first_refused K) E (tCons (tVar 2) (tCons (tFn (sp__arrangements K) E (tCons (tVar 0) (tCons (tVar 1) (tCons (tVar 2) tNil)))) tNil))))))
def t_row_cost (K : PySem.W.Frag) (E : XK) : TS := (tSeq (tAsg (tFn (sp_all_behind K) E (tCons (tVar 0) (tCons (tVar 1) (tCons (tVar 2) tNil)))) (gName 3)) (tSeq (tAsg (tMeth (He.ga K "Yard") "price_rows" (sp_Yard_price_rows K) [] E (tVar 0) tNil) (gName 4)) (tRet (tCB (rSum K) (tCons (tLc (iZipU K (tCons (tVar 3) (tCons (tVar 2) tNil))) (gTup K 2 (gCons (gName 5) (gCons (gTup K 2 (gCons (gName 6) (gCons (gName 7) gNil))) gNil))) tYes (tOp (uIx K) (tOp (uIx K) (tVar 4) (tVar 6)) (tOp (rCol K) (tC (.ref (He.ga K "COLUMNS"))) (tOp uAdd (tOp (uIx K) (tVar 5) (tVar 6)) (tVar 7)))) [5, 6, 7]) tNil)))))
def t_row_crates (K : PySem.W.Frag) (E : XK) : TS := (tSeq (tDrop (tFn (sp_all_behind K) E (tCons (tVar 0) (tCons (tVar 1) (tCons (tVar 2) tNil))))) (tSeq (tAsg (tOp uMul (tLst (tCons (tC (.int 0)) tNil)) (tCB (rLenO (He.ga K "Yard") (sp_Yard_len K)) (tCons (tVar 0) tNil))) (gName 3)) (tSeq (tFor (iSeq K (tVar 2)) (gTup K 2 (gCons (gName 4) (gCons (gName 5) gNil))) (tAugS (tVar 3) (tVar 4) (tC (.int 1)) rGetN (ipI fun i j => i + j) rSetL)) (tRet (tVar 3)))))
def t_row_of_largest (K : PySem.W.Frag) (E : XK) : TS := (tSeq (tDrop (tFn (sp_all_behind K) E (tCons (tVar 0) (tCons (tVar 1) (tCons (tVar 2) tNil))))) (tSeq (tIfS (tNot (tB (tFn (sp_is_integer_within K) E (tCons (tVar 3) (tCons (tC (.int 0)) (tCons (tCB (rLenO (He.ga K "Yard") (sp_Yard_len K)) (tCons (tVar 0) tNil)) tNil)))))) (tRse K "InvalidCount" "value" E (tCons (tVar 3) tNil)) tNext) (tRet (tLc (iSeq K (tVar 2)) (gName 4) (tTest (tOp uLt (tOp (uIx K) (tVar 4) (tC (.int 0))) (tVar 3))) (tVar 4) [4]))))
section
variable {K : PySem.W.Frag} (F : KF K) {vs : List V} {H : Hp} {Q : VK} {E : XK}
local macro_rules | `(tactic| walk_at "w") => `(tactic| try simp only [turnE, lcT, Snoc, tRet, tRetN, tAndV, tOrV, tNotV, tCB, tCons, tVar, tNil, tC, tOp, tSeq, tAsg, gName, gSub, tIfS, tDrop, tFn, tTup, tLst, tNext, tB, tTest, tNot, tAnd, tOr, tIf, tChain, tUn, rU, tFld, tPart, tNoPart, L2.tSl, tBM, tPar, tPar3, tTruth, tDNewK,
  L2.start, List.map_cons, List.map_nil, List.length_cons, List.length_nil, List.replicate_succ, List.replicate_zero, List.append_nil, List.nil_append, List.cons_append, List.singleton_append, Nat.sub_self, Nat.zero_add, Nat.reduceAdd, Nat.reduceSub,
  List.getElem?_cons_zero, List.getElem?_cons_succ, List.set_cons_zero, List.set_cons_succ, Option.some.injEq, exists_eq_left, exists_eq_left', V.int.injEq, V.bl.injEq, V.str.injEq, V.ref.injEq,
  uAdd_int, uAdd_str, uSub_int, uMul_int, uMul_str, uDiv_int, uMod_int, uPow_int, uLt_int, uLe_int, uGt_int, uGe_int, uIs_non, uNis_non, uIs_bl, uNis_bl, sp1, sp2, sp3, sp4, uEq_int, uEq_str, uNe_int, uNe_str, uSl_str, uLen_str, decide_eq_true_eq])
local macro_rules | `(tactic| walk_at "1") => `(tactic| try simp only [turnE, lcT, Snoc, tRet, tRetN, tAndV, tOrV, tNotV, tCB, tCons, tVar, tNil, tC, tOp, tAsg, gName, gSub, tIfS, tDrop, tFn, tTup, tLst, tNext, tB, tTest, tNot, tAnd, tOr, tIf, tChain, tUn, rU, tFld, tPart, tNoPart, L2.tSl, tBM, tPar, tPar3, tTruth, tDNewK,
  L2.start, List.map_cons, List.map_nil, List.length_cons, List.length_nil, List.replicate_succ, List.replicate_zero, List.append_nil, List.nil_append, List.cons_append, List.singleton_append, Nat.sub_self, Nat.zero_add, Nat.reduceAdd, Nat.reduceSub,
  List.getElem?_cons_zero, List.getElem?_cons_succ, List.set_cons_zero, List.set_cons_succ, Option.some.injEq, exists_eq_left, exists_eq_left', V.int.injEq, V.bl.injEq, V.str.injEq, V.ref.injEq,
  uAdd_int, uAdd_str, uSub_int, uMul_int, uMul_str, uDiv_int, uMod_int, uPow_int, uLt_int, uLe_int, uGt_int, uGe_int, uIs_non, uNis_non, uIs_bl, uNis_bl, sp1, sp2, sp3, sp4, uEq_int, uEq_str, uNe_int, uNe_str, uSl_str, uLen_str, decide_eq_true_eq])
local macro_rules | `(tactic| walk_at "s") => `(tactic| ((try dsimp only [turnE]); with_reducible refine seq_ ?_))

theorem for_sqA {t : TE} {g : TG} {tb : TS} {D : Ends} {σ : L2.St} {p : Addr} {xs : List V} {H0 : Hp} (h : SqA K H0 p xs) (ht : ∀ R : VK, R (.ref p) H → t σ H R) (Pv : Nat → L2.St → Hp → Prop) (h0 : Pv 0 σ H) (hG : ∀ i τ H', Pv i τ H' → Same H0 H')
    (hs : ∀ i x τ H', xs[i]? = some x → Pv i τ H' → g x τ H' fun ρ H2 => tb (turnE D (Pv (i + 1))) ρ H2) (hd : ∀ τ H', Pv xs.length τ H' → D.nx τ H') : tFor (iSeq K t) g tb D σ H := by
  rcases h with h | h
  · exact .inl (ht _ ⟨p, rfl, ⟨xs, Same.seq (hG 0 σ H h0) h⟩, for_plain (wi := fun _ H' R => R (Itl K p) H') plain_L (fun R r => r) Pv h0 (fun i τ H' q => Same.seq (hG i τ H' q) h) hs hd⟩)
  · exact .inr (ht _ ⟨p, rfl, ⟨xs, Same.sqT (hG 0 σ H h0) h⟩, for_plain (wi := fun _ H' R => R (Itt K p) H') plain_T (fun R r => r) Pv h0 (fun i τ H' q => Same.sqT (hG i τ H' q) h) hs hd⟩)
theorem Ys.same {H' : Hp} {t : Addr} {rows : List (List (Option Int))} (e : Same H H') (h : Ys K H t rows) : Ys K H' t rows := by
  obtain ⟨as, h1, h2, h3⟩ := h
  exact ⟨as, Same.sqT e h1, h2, fun i a r q1 q2 => Same.sqT e (h3 i a r q1 q2)⟩
theorem pV_some {o : Option Int} (h : o.isSome = true) : pV o ≠ V.non := by
  cases o with
  | none => cases h
  | some i => exact nofun
theorem move_wd {es : List Nat} {k d : Nat} (h : k < es.length) : wd (es.take k) ++ pl d ++ wd (es.drop (k + 1)) = wd (es.set k d) := by
  have hap : wd (es.take k) ++ pl d = wd (es.take k ++ [d]) := wd_app _ [d]
  rw [hap, wd_app, List.set_eq_take_append_cons_drop, if_pos h, List.append_assoc]
  rfl
theorem app_at {l : Addr} {xs : List V} {y : V} (h : H l = some (.lst xs)) (hx : xs.length ≤ 100000) (q : Q .non (upd H l (.lst (xs ++ [y])))) : tyV K "list" (.ref l) H ∧ rAppend (.ref l) [y] H Q :=
  ⟨Or.inl ⟨rfl, xs, .inl (.inl h)⟩, l, xs, y, rfl, rfl, h, Nat.lt_of_lt_of_le (show xs.length < 100001 by omega) (by decide), q⟩
theorem mv_at {ts : List Addr} {ms : List (Nat × Nat)} {i : Nat} {x : V} (h : Mvs K H ts ms) (hx : (ts.map V.ref)[i]? = some x) : ∃ t m, x = .ref t ∧ ts[i]? = some t ∧ ms[i]? = some m ∧ Mv K H t m.1 m.2 := by
  rw [List.getElem?_map] at hx
  obtain ⟨t, ht, rfl⟩ := Option.map_eq_some_iff.mp hx
  have lt : i < ms.length := h.1 ▸ (List.getElem?_eq_some_iff.mp ht).1
  exact ⟨t, ms[i], rfl, ht, List.getElem?_eq_getElem lt, h.2 i t _ ht (List.getElem?_eq_getElem lt)⟩
include F in
theorem read__first_refused (h : sp__first_refused K vs H Q E) : t__first_refused K E { nx := fun _ H' => Q .non H', rt := Q } (start ["moves", "arrangements", "made"] vs) H := by
  match vs, h with
  | [_, _], ⟨p, xs, q, ys, rfl, rfl, h1, h2, e, k⟩ =>
    unfold t__first_refused
    walk_at "s"
    walk_at "1"
    refine uLen_seq h2 ?_
    walk_at "1"
    refine uLen_seq h1 ?_
    walk_at "1"
    rw [if_neg (by omega)]
    exact k
include F in
theorem read__is_move_list (h : sp__is_move_list K vs H Q E) : t__is_move_list K E { nx := fun _ H' => Q .non H', rt := Q } (start ["yard", "value", "count", "move"] vs) H := by
  match vs, h with
  | [_, _], ⟨p, rows, ms, rfl, hy, ⟨b, ts, rfl, hs, hm, h1000⟩, hsm, q⟩ =>
    unfold t__is_move_list
    walk_at "s"
    walk_at "1"
    refine ⟨by decide, fun T hT => ?_⟩
    have e1 : Same H (upd H T (.tup [.ty "list", .ty "tuple"])) := same_new hT
    have hp1 : upd H T (.tup [.ty "list", .ty "tuple"]) T = some (.tup [.ty "list", .ty "tuple"]) := upd_same
    have hs1 := hs.same e1
    generalize upd H T (.tup [.ty "list", .ty "tuple"]) = H1 at *
    obtain ⟨a, ka, ks⟩ := hs1.kind
    refine isi_seq F hp1 ka ?_
    rw [ks]
    walk_at "1"
    rw [if_neg (by decide)]
    refine uLen_seq hs1 ?_
    walk_at "1"
    have hl1 : ts.length ≤ 1000 := by rw [hm.1]; exact h1000
    rw [if_neg (by rw [List.length_map]; omega)]
    show tSeq _ _ _ _ _
    walk_at "s"
    walk_at "1"
    refine lenO_of (hy.same e1) ?_
    walk_at "1"
    refine tLc_seq (p := b) hs1 (tVar_eq rfl) fun J G P hG D hD => ?_
    refine lc_grow P (fun acc _ => acc = (List.replicate acc.length true).map V.bl) hD (by rw [List.length_map]; exact Nat.le_trans hl1 (by decide)) hG (fun _ _ => rfl) (fun _ _ _ _ _ _ h => h) ?_ ?_
    · rintro i y acc H2 Q' hx s2 hl ha k
      obtain ⟨t, m, rfl, ht, hmi, mv⟩ := mv_at (hm.same (e1.trans s2)) hx
      obtain ⟨m1, m2⟩ := hsm m (List.mem_of_getElem? hmi)
      have fin : Q' (.bl true) H2 := k _ _ (Same.refl _) (by
        have : acc ++ [V.bl true] = (List.replicate acc.length true ++ [true]).map V.bl := by rw [List.map_append, ← ha]; rfl
        rw [this, List.length_map, List.length_append, List.length_replicate, List.length_singleton, List.replicate_succ'])
      walk_at "1"
      refine isi_ty (b := .tup) F rfl (is_sqT mv) ⟨_, rfl, ?_⟩
      rw [if_pos (show Ty.tup.sub Ty.tup = true from rfl)]
      refine uLen_seq (.inr mv) ?_
      walk_at "1"
      rw [if_pos (by decide)]
      refine ⟨_, _, .inr mv, rfl, ?_⟩
      refine isi_ty (b := .int) F rfl (is_int _) ⟨_, rfl, ?_⟩
      rw [if_pos (show Ty.int.sub Ty.int = true from rfl)]
      refine ⟨_, _, .inr mv, rfl, ?_⟩
      refine isi_ty (b := .bl) F rfl (is_int _) ?_
      walk_at "1"
      rw [if_pos (by decide)]
      refine ⟨_, _, .inr mv, rfl, ?_⟩
      refine ⟨_, rfl, ?_⟩
      rw [if_pos (by simp)]
      refine ⟨_, rfl, ?_⟩
      rw [if_pos (by simpa using m1)]
      refine ⟨_, _, .inr mv, rfl, ?_⟩
      refine in_pl F ?_
      rw [isPl_pl m2]
      exact fin
    · rintro acc H2 hl s2 hD2 ha
      refine ⟨D, _, rfl, .inl (.inl (by rw [hD2, ha])), ?_⟩
      have := q H2 (e1.trans s2)
      simpa using this
include F in
theorem read__check_move_list (h : sp__check_move_list K vs H Q E) : t__check_move_list K E { nx := fun _ H' => Q .non H', rt := Q } (start ["yard", "row"] vs) H := by
  match vs, h with
  | [_, _], ⟨p, rows, ms, rfl, hy, hm, hsm, q⟩ =>
    unfold t__check_move_list sp__is_move_list
    walk_at "1"
    refine ⟨p, rows, ms, rfl, hy, hm, hsm, fun H' s => ?_⟩
    exact q H' s
include F in
theorem read__arrangements (h : sp__arrangements K vs H Q E) : t__arrangements K E { nx := fun _ H' => Q .non H', rt := Q } (start ["yard", "start", "moves", "prices", "here", "arrangements", "crate", "place", "held"] vs) H := by
  match vs, h with
  | [_, _, _], ⟨p, rows, ds, ms, rfl, hy, ⟨rfl, a1, a2⟩, ⟨b, ts, rfl, hs, hm, h1000⟩, hg, q⟩ =>
    unfold t__arrangements
    obtain ⟨dx, fs, hins, hfs⟩ := hy.ins
    obtain ⟨_, _, _, _, _, _, l1, l2, _⟩ := id hy
    walk_at "s"
    walk_at "1"
    simp only [tMeth]
    walk_at "1"
    refine ⟨p, dx, fs, rfl, hins, hfs _ (by decide) (by decide), p, rows, rfl, hy, fun u ys => ?_⟩
    walk_at "s"
    walk_at "1"
    walk_at "s"
    walk_at "1"
    refine ⟨by decide, fun D hD => ?_⟩
    have s1 : Same H (upd H D (.lst [.str (wd ds)])) := same_new hD
    have hD1 : upd H D (.lst [.str (wd ds)]) D = some (.lst [.str (wd ds)]) := upd_same
    generalize upd H D (.lst [.str (wd ds)]) = H1 at *
    walk_at "s"
    refine for_sqA (p := b) (xs := ts.map V.ref) hs (fun R r => by walk_at "1"; exact r)
      (fun i σ H' => Same H H' ∧ H' D = some (.lst ((trailN ds ms i).map wdV)) ∧ ∃ o1 o2 o3, σ = [some (.ref p), some (.str (wd ds)), some (.ref b), some (.ref u), some (wdV (beh ds (ms.take i))), some (.ref D), o1, o2, o3])
      ⟨s1, hD1, none, none, none, rfl⟩ (fun i τ H' z => z.1) ?_ ?_
    · rintro i x σ H2 hx ⟨s2, gD, o1, o2, o3, rfl⟩
      obtain ⟨t, m, rfl, ht, hmi, mv⟩ := mv_at (hm.same s2) hx
      obtain ⟨m1, m2, hal⟩ := hg i m hmi
      have hd3 := hg.d3 a2 i
      have hbl := beh_len ds (ms.take i)
      have hbt := beh_take (ds := ds) hmi
      have hal2 := hal
      rw [alw_rf hd3 (by omega) m2] at hal2
      simp only [Bool.and_eq_true, decide_eq_true_eq] at hal2
      obtain ⟨c1, c2, c3⟩ := hal2
      have hne := alw_ne hal
      have hc3 := d3_at hd3 m.1
      generalize beh ds (ms.take i) = es at *
      refine ⟨t, _, rfl, mv, rfl, _, _, rfl, _, _, rfl, ⟨rfl, ?_⟩⟩
      simp only [gName, List.set_cons_zero, List.set_cons_succ]
      walk_at "s"
      walk_at "1"
      refine str_at (by omega) (by omega) ?_
      walk_at "s"
      walk_at "1"
      refine ⟨rfl, _, _, rfl, rfl, ?_⟩
      walk_at "1"
      rw [c1]
      walk_at "1"
      rw [if_neg (by simp)]
      refine ⟨rfl, _, _, rfl, rfl, ?_⟩
      walk_at "1"
      rw [if_neg (by omega)]
      refine ys_row (ys.same s2) m1 fun v hv => ?_
      walk_at "1"
      refine ⟨by show 1 + 1 ≤ sizeLine; decide, ?_⟩
      have hap : pl (es[m.1]?.getD 0) ++ pl m.2 = wd [es[m.1]?.getD 0, m.2] := wd_app [_] [_]
      rw [hap]
      refine col_of hc3 m2 hne (row_price m1 hv (hy.six m1) hc3 m2 hne ?_)
      walk_at "1"
      rw [if_neg (pV_some c3)]
      show tSeq _ _ _ _ _
      walk_at "s"
      walk_at "1"
      have hsz : (wd es).length ≤ sizeLine := Nat.le_trans (by rw [wd_length]; omega) (show 60 ≤ sizeLine by decide)
      have e1 : ((m.1 : Int) + 1) = ((m.1 + 1 : Nat) : Int) := by omega
      have la : (es.take m.1).length = m.1 := by rw [List.length_take]; omega
      rw [e1, cut_to (by omega), cut_from (by omega)]
      refine ⟨hsz, Nat.le_trans (show _ ≤ 61 by rw [wd_length, la]; show m.1 + 1 ≤ 61; omega) (by decide), hsz, ?_, ?_⟩
      · have : (wd (es.take m.1) ++ pl m.2) = wd (es.take m.1 ++ [m.2]) := wd_app _ [_]
        rw [this]
        exact Nat.le_trans (show _ ≤ 200 by rw [wd_length, wd_length, List.length_append, la, List.length_drop, List.length_singleton]; omega) (by decide)
      · rw [move_wd (by omega), ← hbt]
        walk_at "1"
        have lt : i < ms.length := (List.getElem?_eq_some_iff.mp hmi).1
        refine app_at gD (by rw [List.length_map, trailN_len]; omega) ⟨?_, ?_, _, _, _, rfl⟩
        · exact (Off.trans (Same.off s2) off_upd).same hD
        · rw [upd_same, trailN_succ, List.map_append]
          rfl
    · rintro σ H2 ⟨s2, gD, o1, o2, o3, rfl⟩
      rw [List.length_map, hm.1] at gD
      walk_at "1"
      exact q D H2 s2 hD gD
theorem chk_good {p : Addr} {rows : List (List (Option Int))} {ds : List Nat} (F : KF K) (hy : Yd K H p rows) (ha : Arr rows.length (.str (wd ds)) ds) (q : ∀ H', Same H H' → Q .non H') : sp_check_arrangement K [.ref p, .str (wd ds)] H Q E :=
  chk_arr (k := fun _ _ => True) (yardOr_of F hy (.inl ⟨ds, ha, trivial⟩)) fun _ _ _ _ _ _ _ => q
include F in
theorem read_all_behind (h : sp_all_behind K vs H Q E) : t_all_behind K E { nx := fun _ H' => Q .non H', rt := Q } (start ["yard", "start", "row", "arrangements", "index"] vs) H := by
  match vs, h with
  | [_, _, _], ⟨p, rows, ds, ms, rfl, hy, ha, hm, hg, q⟩ =>
    obtain ⟨rfl, a1, a2⟩ := id ha
    unfold t_all_behind sp__check_move_list sp__arrangements sp__first_refused
    walk_at "s"
    walk_at "1"
    refine chk_good F hy ha fun H1 s1 => ?_
    show tSeq _ _ _ _ _
    walk_at "s"
    walk_at "1"
    refine ⟨p, rows, ms, rfl, hy.same s1, hm.same s1, fun m hm => hg.small hm, fun H2 s2 => ?_⟩
    show tSeq _ _ _ _ _
    have s12 := s1.trans s2
    walk_at "s"
    walk_at "1"
    refine ⟨p, rows, ds, ms, rfl, hy.same s12, ha, hm.same s12, hg, fun l H3 s3 hl g3 => ?_⟩
    have s13 := s12.trans s3
    walk_at "s"
    walk_at "1"
    obtain ⟨b, ts, rfl, hs, hmv, _⟩ := hm.same s13
    refine ⟨b, _, l, _, rfl, rfl, hs, .inl (.inl (.inl g3)), by rw [List.length_map, List.length_map]; unfold trail; rw [trailN_len, hmv.1], ?_⟩
    walk_at "s"
    walk_at "1"
    rw [if_neg (by decide)]
    exact q l H3 s13 (s12.free hl) g3
theorem trail_last (ds : List Nat) (ms : List (Nat × Nat)) : atI ((trail ds ms).map wdV) (-1) = some (wdV (beh ds ms)) := by
  unfold atI ixN
  have hl : ((trail ds ms).map wdV).length = ms.length + 1 := by rw [List.length_map]; exact trailN_len _ _ _
  rw [if_neg (by decide), if_pos (by omega)]
  have e : ((-1 : Int) + (((trail ds ms).map wdV).length : Nat)).toNat = ms.length := by omega
  show ((trail ds ms).map wdV)[_]? = _
  rw [e, List.getElem?_map]
  unfold trail trailN
  rw [List.getElem?_map, List.getElem?_range (by omega)]
  show some (wdV (beh ds (ms.take ms.length))) = _
  rw [List.take_length]
include F in
theorem read_behind (h : sp_behind K vs H Q E) : t_behind K E { nx := fun _ H' => Q .non H', rt := Q } (start ["yard", "start", "row"] vs) H := by
  match vs, h with
  | [_, _, _], ⟨p, rows, ds, ms, rfl, hy, ha, hm, hg, q⟩ =>
    unfold t_behind sp_all_behind
    walk_at "1"
    refine ⟨p, rows, ds, ms, rfl, hy, ha, hm, hg, fun l H1 s1 hl g1 => ?_⟩
    exact ⟨_, _, .inl (.inl (.inl g1)), trail_last ds ms, q H1 s1⟩
include F in
theorem read_is_row (h : sp_is_row K vs H Q E) : t_is_row K E { nx := fun _ H' => Q .non H', rt := Q } (start ["yard", "start", "value"] vs) H := by
  match vs, h with
  | [_, _, _], ⟨p, rows, ds, ms, rfl, hy, ha, hm, hg, q⟩ =>
    obtain ⟨rfl, a1, a2⟩ := id ha
    unfold t_is_row sp__is_move_list sp__arrangements sp__first_refused
    walk_at "s"
    walk_at "1"
    refine chk_good F hy ha fun H1 s1 => ?_
    walk_at "1"
    refine ⟨p, rows, ms, rfl, hy.same s1, hm.same s1, fun m hm => hg.small hm, fun H2 s2 => ?_⟩
    have s12 := s1.trans s2
    walk_at "1"
    refine ⟨p, rows, ds, ms, rfl, hy.same s12, ha, hm.same s12, hg, fun l H3 s3 hl g3 => ?_⟩
    have s13 := s12.trans s3
    obtain ⟨b, ts, rfl, hs, hmv, _⟩ := hm.same s13
    refine ⟨b, _, l, _, rfl, rfl, hs, .inl (.inl (.inl g3)), by rw [List.length_map, List.length_map]; unfold trail; rw [trailN_len, hmv.1], ?_⟩
    exact q H3 s13
include F in
theorem read_first_bad (h : sp_first_bad K vs H Q E) : t_first_bad K E { nx := fun _ H' => Q .non H', rt := Q } (start ["yard", "start", "row"] vs) H := by
  match vs, h with
  | [_, _, _], ⟨p, rows, ds, ms, rfl, hy, ha, hm, hg, q⟩ =>
    obtain ⟨rfl, a1, a2⟩ := id ha
    unfold t_first_bad sp__check_move_list sp__arrangements sp__first_refused
    walk_at "s"
    walk_at "1"
    refine chk_good F hy ha fun H1 s1 => ?_
    show tSeq _ _ _ _ _
    walk_at "s"
    walk_at "1"
    refine ⟨p, rows, ms, rfl, hy.same s1, hm.same s1, fun m hm => hg.small hm, fun H2 s2 => ?_⟩
    have s12 := s1.trans s2
    walk_at "1"
    refine ⟨p, rows, ds, ms, rfl, hy.same s12, ha, hm.same s12, hg, fun l H3 s3 hl g3 => ?_⟩
    have s13 := s12.trans s3
    obtain ⟨b, ts, rfl, hs, hmv, _⟩ := hm.same s13
    exact ⟨b, _, l, _, rfl, rfl, hs, .inl (.inl (.inl g3)), by rw [List.length_map, List.length_map]; unfold trail; rw [trailN_len, hmv.1], q H3 s13⟩
include F in
theorem read_row_of_largest (h : sp_row_of_largest K vs H Q E) : t_row_of_largest K E { nx := fun _ H' => Q .non H', rt := Q } (start ["yard", "start", "row", "count", "move"] vs) H := by
  match vs, h with
  | [_, _, _, _], ⟨p, rows, ds, ms, rfl, hy, ha, hm, hg, k, rfl, hk, q⟩ =>
    unfold t_row_of_largest sp_all_behind sp_is_integer_within
    walk_at "s"
    walk_at "1"
    refine ⟨p, rows, ds, ms, rfl, hy, ha, hm, hg, fun l H1 s1 hl g1 => ?_⟩
    show tSeq _ _ _ _ _
    walk_at "s"
    walk_at "1"
    refine lenO_of (hy.same s1) ?_
    refine ⟨.int, 0, _, is_int _, rfl, rfl, ?_⟩
    have hin : isIn (.int (k : Nat)) 0 (rows.length : Int) = true := by
      show (decide ((0 : Int) ≤ (k : Int)) && decide ((k : Int) ≤ (rows.length : Int))) = true
      rw [decide_eq_true (by omega), decide_eq_true (by omega)]
      rfl
    rw [hin, if_neg (by decide)]
    obtain ⟨b, ts, rfl, hs, hmv, h1000⟩ := hm.same s1
    walk_at "1"
    refine tLc_seq (p := b) hs (tVar_eq rfl) fun J G P hG D hD => ?_
    refine lc_plain P (fun i H' => Same H1 H' ∧ ∃ us, H' D = some (.lst (us.map V.ref)) ∧ Mvs K H' us (largeL (ms.take i) k) ∧ us.length ≤ i) ⟨same_new hD, [], upd_same, mvs_nil, Nat.le_refl _⟩ (fun i H' z => hG H' z.1) ?_ ?_
    · rintro i x H2 hx ⟨s2, us, gD, hu, hlen⟩
      obtain ⟨t, m, rfl, ht, hmi, mv⟩ := mv_at (hmv.same s2) hx
      simp only [lcT, wipe, gName, List.set_cons_zero, List.set_cons_succ]
      refine ⟨trivial, ?_⟩
      walk_at "1"
      refine ⟨_, _, .inr mv, rfl, ?_⟩
      walk_at "1"
      have et : ms.take (i + 1) = ms.take i ++ [m] := by rw [List.take_succ, hmi]; rfl
      have lt : i < ms.length := (List.getElem?_eq_some_iff.mp hmi).1
      by_cases e : m.1 < k
      · rw [if_pos (by omega)]
        refine ⟨_, gD, ?_, ?_, us ++ [t], ?_, ?_, ?_⟩
        · rw [List.length_map]
          exact Nat.lt_of_lt_of_le (show us.length < 1001 by omega) (by decide)
        · exact (Off.trans (Same.off s2) off_upd).same hD
        · rw [upd_same, List.map_append]
          rfl
        · have : largeL (ms.take (i + 1)) k = largeL (ms.take i) k ++ [m] := by
            unfold largeL
            rw [et, List.filter_append]
            simp [e]
          rw [this]
          exact Mvs.snoc (Mvs.off off_upd gD hu) (off_upd.sqT gD mv)
        · simp
          omega
      · rw [if_neg (by omega)]
        refine ⟨s2, us, gD, ?_, by omega⟩
        have : largeL (ms.take (i + 1)) k = largeL (ms.take i) k := by
          unfold largeL
          rw [et, List.filter_append]
          simp [e]
        rw [this]
        exact hu
    · rintro H2 ⟨s2, us, gD, hu, _⟩
      rw [List.length_map, hmv.1, List.take_length] at hu
      exact q D us H2 (s1.trans s2) (s1.free hD) gD hu
theorem often_same {ms : List (Nat × Nat)} {i : Nat} {m : Nat × Nat} (h : ms[i]? = some m) : oftenN ms (i + 1) m.1 = oftenN ms i m.1 + 1 := by
  unfold oftenN
  rw [List.take_succ, h, List.filter_append, List.length_append]
  simp
theorem often_other {ms : List (Nat × Nat)} {i k : Nat} {m : Nat × Nat} (h : ms[i]? = some m) (n : m.1 ≠ k) : oftenN ms (i + 1) k = oftenN ms i k := by
  unfold oftenN
  rw [List.take_succ, h, List.filter_append, List.length_append]
  simp [n]
include F in
theorem read_row_crates (h : sp_row_crates K vs H Q E) : t_row_crates K E { nx := fun _ H' => Q .non H', rt := Q } (start ["yard", "start", "row", "often", "crate", "_"] vs) H := by
  match vs, h with
  | [_, _, _], ⟨p, rows, ds, ms, rfl, hy, ha, hm, hg, q⟩ =>
    unfold t_row_crates sp_all_behind
    walk_at "s"
    walk_at "1"
    refine ⟨p, rows, ds, ms, rfl, hy, ha, hm, hg, fun l H1 s1 hl g1 => ?_⟩
    show tSeq _ _ _ _ _
    walk_at "s"
    walk_at "1"
    obtain ⟨b, ts, rfl, hs, hmv, h1000⟩ := hm.same s1
    have hy1 := hy.same s1
    refine ⟨by decide, fun A hA => ?_⟩
    have s2 : Same H1 (upd H1 A (.lst [.int 0])) := same_new hA
    have gA : upd H1 A (.lst [.int 0]) A = some (.lst [.int 0]) := upd_same
    generalize upd H1 A (.lst [.int 0]) = H2 at *
    refine lenO_of (hy1.same s2) ?_
    obtain ⟨_, _, _, _, _, _, l1, l2, _⟩ := id hy
    refine ⟨A, rows.length, [.int 0], rfl, rfl, gA, by omega, by omega, Nat.le_trans (show _ ≤ 60 by simpa using l1) (by decide), fun C hC => ?_⟩
    have s3 : Same H2 (upd H2 C (.lst (List.replicate ((rows.length : Int)).toNat [V.int 0]).flatten)) := same_new hC
    have gC : upd H2 C (.lst (List.replicate ((rows.length : Int)).toNat [V.int 0]).flatten) C = some (.lst ((List.range rows.length).map fun k => V.int (oftenN ms 0 k : Nat))) := by
      rw [upd_same, Int.toNat_natCast]
      congr 2
      have : ∀ n, (List.replicate n [V.int 0]).flatten = (List.range n).map fun k => V.int (oftenN ms 0 k : Nat) := fun n => by
        induction n with
        | zero => rfl
        | succ n ih =>
          rw [List.range_succ, List.map_append, ← ih, List.replicate_succ', List.flatten_append]
          rfl
      exact this _
    have s03 := s1.trans (s2.trans s3)
    have nC : H C = none := (s1.trans s2).free hC
    have hCn : H1 C = none := s2.free hC
    generalize upd H2 C (.lst (List.replicate ((rows.length : Int)).toNat [V.int 0]).flatten) = H3 at *
    walk_at "s"
    refine for_sqA (H0 := H1) (p := b) (xs := ts.map V.ref) hs (fun R r => by walk_at "1"; exact r)
      (fun i σ H' => Same H1 H' ∧ H' C = some (.lst ((List.range rows.length).map fun k => V.int (oftenN ms i k : Nat))) ∧ ∃ o1 o2, σ = [some (.ref p), some (.str (wd ds)), some (.ref b), some (.ref C), o1, o2])
      ⟨s2.trans s3, gC, none, none, ?_⟩ (fun i τ H' z => z.1) ?_ ?_
    · rw [ha.1]
    · rintro i x σ H4 hx ⟨s4, g4, o1, o2, rfl⟩
      obtain ⟨t, m, rfl, ht, hmi, mv⟩ := mv_at (hmv.same s4) hx
      obtain ⟨m1, m2, _⟩ := hg i m hmi
      refine ⟨t, _, rfl, mv, rfl, _, _, rfl, _, _, rfl, ⟨rfl, ?_⟩⟩
      simp only [gName, List.set_cons_zero, List.set_cons_succ, tAugS]
      walk_at "1"
      refine ⟨C, _, m.1, _, rfl, rfl, g4, by rw [List.getElem?_map, List.getElem?_range m1]; rfl, ?_⟩
      refine ⟨_, _, rfl, rfl, ?_⟩
      refine ⟨C, _, m.1, m.1, rfl, rfl, g4, ?_, ?_, ?_, _, _, rfl⟩
      · unfold ixN
        rw [List.length_map, List.length_range, if_pos (by omega), if_pos (by omega), Int.toNat_natCast]
      · exact (Off.trans (Same.off s4) off_upd).same hCn
      · rw [upd_same]
        congr 2
        refine List.ext_getElem? fun (j : Nat) => ?_
        rw [List.getElem?_map, List.getElem?_set, List.length_map, List.length_range, List.getElem?_map]
        by_cases e : m.1 = j
        · subst e
          rw [if_pos rfl, if_pos m1, List.getElem?_range m1]
          show some (V.int ((oftenN ms i m.1 : Nat) + 1)) = some (V.int (oftenN ms (i + 1) m.1 : Nat))
          rw [often_same hmi]
          rfl
        · rw [if_neg e]
          by_cases lt : j < rows.length
          · rw [List.getElem?_range lt]
            show some (V.int (oftenN ms i j : Nat)) = some (V.int (oftenN ms (i + 1) j : Nat))
            rw [often_other hmi e]
          · rw [List.getElem?_eq_none (by rw [List.length_range]; omega)]
            rfl
    · rintro σ H4 ⟨s4, g4, o1, o2, rfl⟩
      rw [List.length_map, hmv.1] at g4
      walk_at "1"
      exact q C H4 (s1.trans s4) nC g4
include F in
theorem read_row_cost (h : sp_row_cost K vs H Q E) : t_row_cost K E { nx := fun _ H' => Q .non H', rt := Q } (start ["yard", "start", "row", "arrangements", "prices", "here", "crate", "place"] vs) H := by
  match vs, h with
  | [_, _, _], ⟨p, rows, ds, ms, rfl, hy, ha, hm, hg, q⟩ =>
    obtain ⟨rfl, a1, a2⟩ := id ha
    obtain ⟨_, _, _, _, _, _, l1, l2, _⟩ := id hy
    unfold t_row_cost sp_all_behind
    walk_at "s"
    walk_at "1"
    refine ⟨p, rows, ds, ms, rfl, hy, ha, hm, hg, fun l H1 s1 hl g1 => ?_⟩
    have hy1 := hy.same s1
    obtain ⟨dx, fs, hins, hfs⟩ := hy1.ins
    walk_at "s"
    walk_at "1"
    simp only [tMeth]
    walk_at "1"
    refine ⟨p, dx, fs, rfl, hins, hfs _ (by decide) (by decide), p, rows, rfl, hy1, fun u ys => ?_⟩
    walk_at "1"
    obtain ⟨b, ts, rfl, hs, hmv, h1000⟩ := hm.same s1
    have core : ∀ (J : It) (G : Hp → Prop), Zipped J ((trail ds ms).map wdV) (ts.map V.ref) G → (∀ H', Same H1 H' → G H') → ∀ D, H1 D = none →
        LcB J (gTup K 2 (gCons (gName 5) (gCons (gTup K 2 (gCons (gName 6) (gCons (gName 7) gNil))) gNil))) tYes
          (tOp (uIx K) (tOp (uIx K) (tVar 4) (tVar 6)) (tOp (rCol K) (tC (.ref (He.ga K "COLUMNS"))) (tOp uAdd (tOp (uIx K) (tVar 5) (tVar 6)) (tVar 7)))) [5, 6, 7]
          [some (V.ref p), some (V.str (wd ds)), some (V.ref b), some (V.ref l), some (V.ref u), none, none, none] H1 D (fun H' => rSum K [V.ref D] H' Q) := by
      intro J G Z hG D hD
      refine lc_zip Z (fun i H' => Same H1 H' ∧ H' D = some (.lst (((List.range i).map (stepC rows ds ms)).map V.int))) ⟨same_new hD, upd_same⟩ (fun i H' z => hG H' z.1) ?_ ?_
      · rintro i x y T H2 hx hy2 ⟨s2, gD⟩ hT
        obtain ⟨t, m, rfl, ht, hmi, mv⟩ := mv_at (hmv.same s2) hy2
        have sT : Same H2 (upd H2 T (.tup [x, .ref t])) := same_new hT
        have gT : upd H2 T (.tup [x, .ref t]) T = some (.tup [x, .ref t]) := upd_same
        have s3 := s2.trans sT
        have gD3 := sT _ _ gD
        have mv3 := Same.sqT sT mv
        generalize upd H2 T (.tup [x, .ref t]) = H3 at *
        have lt : i < ms.length := (List.getElem?_eq_some_iff.mp hmi).1
        obtain ⟨m1, m2, hal⟩ := hg i m hmi
        have hx2 : x = wdV (beh ds (ms.take i)) := by
          unfold trail trailN at hx
          rw [List.map_map, List.getElem?_map, List.getElem?_range (by omega)] at hx
          exact (Option.some.inj hx).symm
        subst hx2
        refine ⟨T, _, rfl, .inl (.inl gT), rfl, _, _, rfl, _, _, rfl, ?_⟩
        refine ⟨t, _, rfl, mv3, rfl, _, _, rfl, _, _, rfl, ⟨rfl, rfl, ?_⟩⟩
        simp only [wipe, gName, List.foldl_cons, List.foldl_nil, List.set_cons_zero, List.set_cons_succ]
        refine ⟨trivial, ?_⟩
        simp only [tYes, if_true]
        walk_at "1"
        refine ys_row (ys.same s3) m1 fun v hv => ?_
        have hbl := beh_len ds (ms.take i)
        have hd3 := hg.d3 a2 i
        have ec : ∀ o : Option Int, o.isSome = true → pV o = .int (o.getD 0) := fun o h => by
          cases o with
          | none => cases h
          | some j => rfl
        have est : stepC rows ds ms i = (prOf rows m.1 ((beh ds (ms.take i))[m.1]?.getD 0) m.2).getD 0 := by
          unfold stepC
          rw [hmi]
        have hne := alw_ne hal
        have hc3 := d3_at hd3 m.1
        have hal2 := hal
        rw [alw_rf hd3 (by omega) m2] at hal2
        simp only [Bool.and_eq_true, decide_eq_true_eq] at hal2
        refine str_at (by omega) (by omega) ?_
        walk_at "1"
        refine ⟨by show 1 + 1 ≤ sizeLine; decide, ?_⟩
        have hap : pl ((beh ds (ms.take i))[m.1]?.getD 0) ++ pl m.2 = wd [(beh ds (ms.take i))[m.1]?.getD 0, m.2] := wd_app [_] [_]
        rw [hap]
        refine col_of hc3 m2 hne (row_price m1 hv (hy1.six m1) hc3 m2 hne ?_)
        rw [ec _ hal2.2.2, ← est]
        refine ⟨_, gD3, ?_, (Off.trans (Same.off s3) off_upd).same hD, ?_⟩
        · rw [List.length_map, List.length_map, List.length_range]
          exact Nat.lt_of_lt_of_le (show i < 1001 by omega) (by decide)
        · rw [upd_same, List.range_succ, List.map_append, List.map_append]
          rfl
      · rintro H2 ⟨s2, gD⟩
        have em : min ((trail ds ms).map wdV).length (ts.map V.ref).length = ms.length := by
          rw [List.length_map, List.length_map, hmv.1]
          unfold trail
          rw [trailN_len]
          omega
        rw [em] at gD
        exact ⟨D, _, rfl, .inl (.inl gD), q H2 (s1.trans s2)⟩
    rcases hs with hs | hs
    · refine .inl ?_
      show tCons _ _ _ _ _
      walk_at "1"
      exact ⟨l, b, _, _, rfl, .inl (.inl g1), hs, core _ _ zipped_LL fun H' e => ⟨.inl (.inl (e _ _ g1)), Same.seq e hs⟩⟩
    · refine .inr ?_
      show tCons _ _ _ _ _
      walk_at "1"
      exact ⟨l, b, _, _, rfl, .inl (.inl g1), hs, core _ _ zipped_LT fun H' e => ⟨.inl (.inl (e _ _ g1)), Same.sqT e hs⟩⟩
end
end U
namespace U
open PySem PySem.Spec PyProof.Rows L2

/-! ### the boxes of numbers that the laws draw from -/
def Bx (H : Hp) (b : Addr) (m : Int) : Prop := ∃ g s k : Int, H b = some (.lst [.int g, .int s, .int k]) ∧ 0 ≤ g ∧ 0 ≤ s ∧ s < 2147483648 ∧ 0 ≤ k ∧ k ≤ m
theorem Bx.mono {H : Hp} {b : Addr} {m n : Int} (h : Bx H b m) (e : m ≤ n) : Bx H b n := by
  obtain ⟨g, s, k, h1, h2, h3, h4, h5, h6⟩ := h
  exact ⟨g, s, k, h1, h2, h3, h4, h5, by omega⟩
theorem Bx.same {H H' : Hp} {b : Addr} {m : Int} (h : Bx H b m) (e : Same H H') : Bx H' b m := by
  obtain ⟨g, s, k, h1, h2⟩ := h
  exact ⟨g, s, k, e _ _ h1, h2⟩
theorem Bx.at_ {H : Hp} {b : Addr} {m : Int} (h : Bx H b m) : ∃ l, H b = some (.lst l) := by
  obtain ⟨g, s, k, h1, _⟩ := h
  exact ⟨_, h1⟩
theorem Off.lst {H H' : Hp} {b c : Addr} {o : HO} (h : Off b H H') (hc : H c = some o) (n : c ≠ b) : H' c = some o := h _ _ n hc
theorem Off.new {H H2 : Hp} {b D : Addr} {o : HO} (h : Off b H H2) (hD : H D = none) : Off b H (upd H2 D o) := fun c u n e => by rw [upd_ne (ne_of_none e hD)]; exact h c u n e
theorem Bx.upd {H : Hp} {b D : Addr} {m : Int} {o : HO} (h : Bx H b m) (n : D ≠ b) : Bx (upd H D o) b m := by
  obtain ⟨g, s, k, h1, h2⟩ := h
  exact ⟨g, s, k, by rw [upd_ne n.symm]; exact h1, h2⟩
def sp__law_take (_K : PySem.W.Frag) : Sp := sp2 fun x am H Q _ => ∃ b m k, x = .ref b ∧ am = .int k ∧ 0 < k ∧ k ≤ 1000000000 ∧ Bx H b m ∧ m ≤ 1000000000 ∧ ∀ d H', 0 ≤ d → d < k → Off b H H' → Bx H' b (m + 1) → Q (.int d) H'
def sp__law_cell (K : PySem.W.Frag) : Sp := sp2 fun x y H Q _ => ∃ (a : Addr) (ns : List Int) (i : Int), x = .ref a ∧ y = .int i ∧ SqL K H a (ns.map V.int) ∧ 0 ≤ i ∧ i < 1000000 ∧ ∀ c H', Same H H' → Q (.int c) H'
def sp__law_box (_K : PySem.W.Frag) : Sp := sp1 fun x H Q _ => ∃ c, x = .int c ∧ ∀ b H', H b = none → Same H H' → Bx H' b 0 → Q (.ref b) H'
def sp__law_size (_K : PySem.W.Frag) : Sp := sp2 fun x y H Q _ => ∃ b m k, x = .ref b ∧ y = .int k ∧ 1 ≤ k ∧ k ≤ 1000000000 ∧ Bx H b m ∧ m ≤ 1000000 ∧ ∀ r H', 1 ≤ r → r ≤ k → Off b H H' → Bx H' b (m + 2) → Q (.int r) H'
def t__law_take (K : PySem.W.Frag) (E : XK) : TS := (tSeq (tIfS (tTest (tOp uGt (tOp (uIx K) (tVar 0) (tC (.int 0))) (tC (.int 0)))) (tSeq (tAsg (tOp uMod (tCB rInt (tCons (tOp (uIx K) (tVar 0) (tC (.int 0))) tNil)) (tVar 1)) (gName 2)) (tSeq (tAsg (tOp uDiv (tOp (uIx K) (tVar 0) (tC (.int 0))) (tVar 1)) (gSub (tVar 0) (tC (.int 0)) rSetL)) (tRet (tVar 2)))) tNext) (tSeq (tAsg (tOp uAdd (tOp (uIx K) (tVar 0) (tC (.int 2))) (tC (.int 1))) (gSub (tVar 0) (tC (.int 2)) rSetL)) (tSeq (tAsg (tOp uMod (tOp uPow (tCB rInt (tCons (tOp uAdd (tOp uAdd (tOp (uIx K) (tVar 0) (tC (.int 1))) (tOp uMul (tC (.int 67867967)) (tOp (uIx K) (tVar 0) (tC (.int 2))))) (tC (.int 271))) tNil)) (tC (.int 5))) (tC (.int 2147483647))) (gName 3)) (tSeq (tAsg (tOp uMod (tOp uPow (tCB rInt (tCons (tOp uAdd (tVar 3) (tOp uMul (tC (.int 72497)) (tOp (uIx K) (tVar 0) (tC (.int 2))))) tNil)) (tC (.int 3))) (tC (.int 2147483587))) (gName 3)) (tRet (tOp uMod (tCB rInt (tCons (tOp uDiv (tVar 3) (tC (.int 16))) tNil)) (tVar 1)))))))
def t__law_cell (K : PySem.W.Frag) (E : XK) : TS := (tSeq (tIfS (tTest (tOp uLt (tVar 1) (tCB (uLen K) (tCons (tVar 0) tNil)))) (tRet (tOp (uIx K) (tVar 0) (tVar 1))) tNext) (tRet (tOp uAdd (tOp uAdd (tOp uMul (tC (.int 67867967)) (tVar 1)) (tC (.int 7411))) (tOp uMod (tCB (rSum K) (tCons (tSl (uSl K) (tVar 0) tNoPart (tPart (tC (.int 1)))) tNil)) (tC (.int 1000003))))))
def t__law_box (K : PySem.W.Frag) (E : XK) : TS := (tRet (tLst (tCons (tCB uMax2 (tCons (tC (.int 0)) (tCons (tOp uSub (tVar 0) (tOp uPow (tC (.int 10)) (tC (.int 18)))) tNil))) (tCons (tOp uMod (tCB rInt (tCons (tVar 0) tNil)) (tC (.int 2147483629))) (tCons (tC (.int 0)) tNil)))))
def t__law_size (K : PySem.W.Frag) (E : XK) : TS := (tSeq (tAsg (tOp uAdd (tC (.int 1)) (tFn (sp__law_take K) E (tCons (tVar 0) (tCons (tVar 1) tNil)))) (gName 2)) (tRet (tIf (tAnd (tTest (tOp (uEq K) (tVar 2) (tC (.int 1)))) (tTest (tOp uGt (tFn (sp__law_take K) E (tCons (tVar 0) (tCons (tC (.int 4)) tNil))) (tC (.int 0))))) (tVar 1) (tVar 2))))
section
variable {K : PySem.W.Frag} (F : KF K) {vs : List V} {H : Hp} {Q : VK} {E : XK}
local macro_rules | `(tactic| walk_at "w") => `(tactic| try simp only [turnE, lcT, Snoc, tRet, tRetN, tAndV, tOrV, tNotV, tCB, tCons, tVar, tNil, tC, tOp, tSeq, tAsg, gName, gSub, tIfS, tDrop, tFn, tTup, tLst, tNext, tB, tTest, tNot, tAnd, tOr, tIf, tChain, tUn, rU, tFld, tPart, tNoPart, L2.tSl, tBM, tPar, tPar3, tTruth, tDNewK,
  L2.start, List.map_cons, List.map_nil, List.length_cons, List.length_nil, List.replicate_succ, List.replicate_zero, List.append_nil, List.nil_append, List.cons_append, List.singleton_append, Nat.sub_self, Nat.zero_add, Nat.reduceAdd, Nat.reduceSub,
  List.getElem?_cons_zero, List.getElem?_cons_succ, List.set_cons_zero, List.set_cons_succ, Option.some.injEq, exists_eq_left, exists_eq_left', V.int.injEq, V.bl.injEq, V.str.injEq, V.ref.injEq,
  uAdd_int, uAdd_str, uSub_int, uMul_int, uMul_str, uDiv_int, uMod_int, uPow_int, uLt_int, uLe_int, uGt_int, uGe_int, uIs_non, uNis_non, uIs_bl, uNis_bl, sp1, sp2, sp3, sp4, uEq_int, uEq_str, uNe_int, uNe_str, uSl_str, uLen_str, decide_eq_true_eq])
local macro_rules | `(tactic| walk_at "1") => `(tactic| try simp only [turnE, lcT, Snoc, tRet, tRetN, tAndV, tOrV, tNotV, tCB, tCons, tVar, tNil, tC, tOp, tAsg, gName, gSub, tIfS, tDrop, tFn, tTup, tLst, tNext, tB, tTest, tNot, tAnd, tOr, tIf, tChain, tUn, rU, tFld, tPart, tNoPart, L2.tSl, tBM, tPar, tPar3, tTruth, tDNewK,
  L2.start, List.map_cons, List.map_nil, List.length_cons, List.length_nil, List.replicate_succ, List.replicate_zero, List.append_nil, List.nil_append, List.cons_append, List.singleton_append, Nat.sub_self, Nat.zero_add, Nat.reduceAdd, Nat.reduceSub,
  List.getElem?_cons_zero, List.getElem?_cons_succ, List.set_cons_zero, List.set_cons_succ, Option.some.injEq, exists_eq_left, exists_eq_left', V.int.injEq, V.bl.injEq, V.str.injEq, V.ref.injEq,
  uAdd_int, uAdd_str, uSub_int, uMul_int, uMul_str, uDiv_int, uMod_int, uPow_int, uLt_int, uLe_int, uGt_int, uGe_int, uIs_non, uNis_non, uIs_bl, uNis_bl, sp1, sp2, sp3, sp4, uEq_int, uEq_str, uNe_int, uNe_str, uSl_str, uLen_str, decide_eq_true_eq])
local macro_rules | `(tactic| walk_at "s") => `(tactic| ((try dsimp only [turnE]); with_reducible refine seq_ ?_))

theorem uIx_lst {p : Addr} {xs : List V} {i : Int} {v : V} (h : H p = some (.lst xs)) (hi : atI xs i = some v) (q : Q v H) : uIx K (.ref p) (.int i) H Q := ⟨xs, v, .inl (.inl (.inl h)), hi, q⟩
theorem rInt_int {i : Int} (q : Q (.int i) H) : rInt [.int i] H Q := .inl ⟨i, rfl, q⟩
theorem rSetL_of {p : Addr} {xs : List V} {k : Int} {j : Nat} {v : V} {Q : Hp → Prop} (h : H p = some (.lst xs)) (hj : ixN xs.length k = some j) (q : Q (upd H p (.lst (xs.set j v)))) : rSetL (.ref p) (.int k) v H Q := ⟨p, xs, k, j, rfl, rfl, h, hj, q⟩
theorem cdivw_of {i j : Int} (h : 0 < j) (h2 : j ≤ 1000000000) : CDivW i j := by
  refine ⟨h, ?_⟩
  have : j.natAbs ≠ 0 := by omega
  have h3 : j.natAbs.log2 < 30 := (Nat.log2_lt this).mpr (by omega)
  omega
include F in
theorem read__law_take (h : sp__law_take K vs H Q E) : t__law_take K E { nx := fun _ H' => Q .non H', rt := Q } (start ["_law_box_here", "_law_amount", "_law_digit", "_law_blend"] vs) H := by
  match vs, h with
  | [_, _], ⟨b, m, k, rfl, rfl, hk, hk2, ⟨g, s, n, hb, h1, h2, h3, h4, h5⟩, hm, q⟩ =>
    unfold t__law_take
    walk_at "w"
    refine uIx_lst hb rfl ?_
    walk_at "w"
    by_cases hg : 0 < g
    · simp only [hg, if_true]
      refine uIx_lst hb rfl (rInt_int ⟨hk, ?_⟩)
      refine uIx_lst hb rfl ?_
      walk_at "w"
      refine ⟨cdivw_of hk hk2, rSetL_of (j := 0) hb rfl ?_⟩
      walk_at "w"
      refine q _ _ (Int.emod_nonneg _ (by omega)) (Int.emod_lt_of_pos _ hk) off_upd ⟨_, _, _, upd_same, Int.ediv_nonneg h1 (by omega), h2, h3, h4, by omega⟩
    · simp only [hg, if_false]
      refine uIx_lst hb rfl ?_
      walk_at "w"
      refine rSetL_of (j := 2) hb rfl ?_
      have ha : upd H b (.lst ([.int g, .int s, .int n].set 2 (.int (n + 1)))) b = some (.lst [.int g, .int s, .int (n + 1)]) := upd_same
      have ho : Off b H (upd H b (.lst ([.int g, .int s, .int n].set 2 (.int (n + 1))))) := off_upd
      generalize upd H b (.lst ([.int g, .int s, .int n].set 2 (.int (n + 1)))) = H1 at *
      refine uIx_lst ha rfl ?_
      walk_at "w"
      refine uIx_lst ha rfl ?_
      walk_at "w"
      refine ⟨.inl (by omega), ?_⟩
      refine rInt_int ?_
      walk_at "w"
      refine ⟨⟨by omega, by omega, by omega⟩, by omega, ?_⟩
      generalize hx : (s + 67867967 * (n + 1) + 271) ^ (Int.toNat 5) % 2147483647 = x
      have hx1 : 0 ≤ x ∧ x < 2147483647 := by
        rw [← hx]
        exact ⟨Int.emod_nonneg _ (by omega), Int.emod_lt_of_pos _ (by omega)⟩
      refine uIx_lst ha rfl ?_
      walk_at "w"
      refine ⟨.inl (by omega), ?_⟩
      refine rInt_int ?_
      walk_at "w"
      refine ⟨⟨by omega, by omega, by omega⟩, by omega, ?_⟩
      generalize hy : (x + 72497 * (n + 1)) ^ (Int.toNat 3) % 2147483587 = y
      refine ⟨cdivw_of (by omega) (by omega), ?_⟩
      refine rInt_int ⟨hk, ?_⟩
      exact q _ _ (Int.emod_nonneg _ (by omega)) (Int.emod_lt_of_pos _ hk) ho ⟨_, _, _, ha, h1, h2, h3, by omega, by omega⟩
include F in
theorem read__law_cell (h : sp__law_cell K vs H Q E) : t__law_cell K E { nx := fun _ H' => Q .non H', rt := Q } (start ["_law_script", "_law_k"] vs) H := by
  match vs, h with
  | [_, _], ⟨a, ns, i, rfl, rfl, ha, h0, h1, q⟩ =>
    unfold t__law_cell
    walk_at "w"
    refine uLen_seq (.inl ha) ?_
    walk_at "w"
    by_cases hi : i < ((ns.map V.int).length : Int)
    · simp only [hi, if_true]
      have hl : i.toNat < ns.length := by simp at hi; omega
      refine ⟨_, .int ns[i.toNat], .inl ha, ?_, q _ _ (Same.refl H)⟩
      unfold atI ixN
      rw [if_pos h0, if_pos hi]
      show (ns.map V.int)[i.toNat]? = _
      rw [List.getElem?_map, List.getElem?_eq_getElem hl]
      rfl
    · simp only [hi, if_false]
      refine ⟨.inl (by omega), .inl ⟨a, _, rfl, ha, fun p hp => ⟨p, ns.take 1, rfl, .inl (.inl ?_), ?_⟩⟩⟩
      · have e : cutV (ns.map V.int) none (some 1) = (ns.take 1).map V.int := by
          cases ns with
          | nil => rfl
          | cons x r =>
            show ((V.int x :: r.map V.int).drop 0).take (min 1 (r.map V.int).length.succ - 0) = [V.int x]
            rw [show min 1 (r.map V.int).length.succ - 0 = 1 by omega]
            rfl
        rw [upd_same, e]
      · walk_at "w"
        exact ⟨by omega, q _ _ (same_new hp)⟩
include F in
theorem read__law_box (h : sp__law_box K vs H Q E) : t__law_box K E { nx := fun _ H' => Q .non H', rt := Q } (start ["_law_cell_here"] vs) H := by
  match vs, h with
  | [_], ⟨c, rfl, q⟩ =>
    unfold t__law_box
    walk_at "w"
    refine ⟨⟨by omega, by omega, by omega⟩, 0, c - 10 ^ Int.toNat 18, rfl, rInt_int ⟨by omega, by decide, fun b hb => q b _ hb (same_new hb) ?_⟩⟩
    refine ⟨_, _, 0, upd_same, ?_, Int.emod_nonneg _ (by omega), ?_, by omega, by omega⟩
    · split <;> omega
    · have := Int.emod_lt_of_pos c (show (0 : Int) < 2147483629 by omega)
      omega
include F in
theorem read__law_size (h : sp__law_size K vs H Q E) : t__law_size K E { nx := fun _ H' => Q .non H', rt := Q } (start ["_law_box_here", "_law_most", "_law_size_here"] vs) H := by
  match vs, h with
  | [_, _], ⟨b, m, k, rfl, rfl, hk, hk2, hb, hm, q⟩ =>
    unfold t__law_size sp__law_take
    walk_at "w"
    refine ⟨b, m, k, rfl, rfl, by omega, hk2, hb, by omega, fun d H1 d0 d1 o1 b1 => ?_⟩
    walk_at "w"
    by_cases e : 1 + d = 1
    · simp only [e, if_true]
      refine ⟨b, m + 1, 4, rfl, rfl, by omega, by omega, b1, by omega, fun d2 H2 e0 e1 o2 b2 => ?_⟩
      walk_at "w"
      have bb := b2.mono (n := m + 2) (by omega)
      by_cases g : 0 < d2
      · simp only [g, if_true]
        exact q _ _ (by omega) (by omega) (o1.trans o2) bb
      · simp only [g, if_false]
        exact q _ _ (by omega) (by omega) (o1.trans o2) bb
    · simp only [e, if_false]
      exact q _ _ (by omega) (by omega) o1 (b1.mono (by omega))
end
end U
namespace U
open PySem PySem.Spec PyProof.Rows L2

def sp__law_word (_K : PySem.W.Frag) : Sp := sp2 fun x y H Q _ => ∃ (b : Addr) (m : Int) (n : Nat), x = .ref b ∧ y = .int n ∧ n ≤ 60 ∧ Bx H b m ∧ m ≤ 1000000 ∧ ∀ ds H', ds.length = n → D3 ds → Off b H H' → Bx H' b (m + 60) → Q (.str (wd ds)) H'
def sp__law_power (_K : PySem.W.Frag) : Sp := sp1 fun x H Q _ => ∃ n : Nat, x = .int n ∧ n ≤ 1000 ∧ Q (.int (3 ^ n)) H
def sp__law_number (_K : PySem.W.Frag) : Sp := sp1 fun x H Q _ => ∃ ds, x = .str (wd ds) ∧ D3 ds ∧ Q (.int (num ds)) H
/-- prices as the laws draw them: none above a hundred and some, with 27 more figures -/
def lowP : Option Int → Bool
  | none => true
  | some i => decide (0 < i ∧ i < 10 ^ 32)
def RowsLo (rows : List (List (Option Int))) : Prop := ∀ r ∈ rows, r.all lowP = true
theorem low_ok {p : Option Int} (h : lowP p = true) : okP p = true := by
  cases p with
  | none => rfl
  | some i => exact decide_eq_true (of_decide_eq_true h).1
theorem lowL_ok {r : List (Option Int)} (h : r.all lowP = true) : r.all okP = true := List.all_eq_true.mpr fun p m => low_ok (List.all_eq_true.mp h p m)
/-- rows in a list -/
def RowVL (K : PySem.W.Frag) (H : Hp) (x : V) (rows : List (List (Option Int))) : Prop := ∃ (p : Addr) (xs : List V), x = .ref p ∧ SqL K H p xs ∧ xs.length = rows.length ∧
  ∀ (i : Nat) (v : V) (r : List (Option Int)), xs[i]? = some v → rows[i]? = some r → ∃ q, v = .ref q ∧ SqA K H q (r.map pV)
theorem RowVL.rowV {K : PySem.W.Frag} {H : Hp} {x : V} {rows : List (List (Option Int))} (h : RowVL K H x rows) : RowV K H x rows := by
  obtain ⟨p, xs, h1, h2, h3, h4⟩ := h
  exact ⟨p, xs, h1, .inl h2, h3, h4⟩
theorem RowVL.same {K : PySem.W.Frag} {H H' : Hp} {x : V} {rows : List (List (Option Int))} (e : Same H H') (h : RowVL K H x rows) : RowVL K H' x rows := by
  obtain ⟨p, xs, h1, h2, h3, h4⟩ := h
  refine ⟨p, xs, h1, Same.seq e h2, h3, fun i v r z1 z2 => ?_⟩
  obtain ⟨q, e1, e2⟩ := h4 i v r z1 z2
  exact ⟨q, e1, e2.same e⟩
def sp__law_plain (K : PySem.W.Frag) : Sp := sp2 fun x y H Q _ => ∃ (b : Addr) (m : Int) (n : Nat), x = .ref b ∧ y = .int n ∧ 1 ≤ n ∧ n ≤ 60 ∧ Bx H b m ∧ m ≤ 1000000 ∧
  ∀ rows v H', rows.length = n → RowsOk rows → RowV K H' v rows → Off b H H' → Bx H' b (m + 2000) → RowsLo rows → RowVL K H' v rows → Q v H'
def t__law_word (K : PySem.W.Frag) (E : XK) : TS := (tRet (tJoin K (tC (.str "")) (tLc (iRng1 (tCons (tVar 1) tNil)) (gName 2) tYes (tOp (uIx K) (tC (.str "abc")) (tFn (sp__law_take K) E0 (tCons (tVar 0) (tCons (tC (.int 3)) tNil)))) [2])))
def t__law_power (K : PySem.W.Frag) (E : XK) : TS := (tSeq (tAsg (tC (.int 1)) (gName 1)) (tSeq (tFor (iRng1 (tCons (tVar 0) tNil)) (gName 2) (tAsg (tOp uMul (tC (.int 3)) (tVar 1)) (gName 1))) (tRet (tVar 1))))
def t__law_number (K : PySem.W.Frag) (E : XK) : TS := (tSeq (tAsg (tC (.int 0)) (gName 1)) (tSeq (tFor (iStr (tVar 0)) (gName 2) (tAsg (tOp uAdd (tOp uMul (tC (.int 3)) (tVar 1)) (tBM K "str" rSIdx (tC (.str "abc")) (tCons (tVar 2) tNil))) (gName 1))) (tRet (tVar 1))))
def t__law_plain (K : PySem.W.Frag) (E : XK) : TS := (tSeq (tAsg (tOp (uIx K) (tLst (tCons (tC (.int 0)) (tCons (tC (.int 0)) (tCons (tC (.int 2)) (tCons (tC (.int 4)) (tCons (tC (.int 7)) tNil)))))) (tFn (sp__law_take K) E (tCons (tVar 0) (tCons (tC (.int 5)) tNil)))) (gName 2)) (tSeq (tPar3 3 4 5 (tCons (tOp (uEq K) (tFn (sp__law_take K) E (tCons (tVar 0) (tCons (tC (.int 6)) tNil))) (tC (.int 0))) (tCons (tOp (uEq K) (tFn (sp__law_take K) E (tCons (tVar 0) (tCons (tC (.int 4)) tNil))) (tC (.int 0))) (tCons (tLst tNil) tNil)))) (tSeq (tFor (iRng1 (tCons (tVar 1) tNil)) (gName 6) (tSeq (tAsg (tLst tNil) (gName 7)) (tSeq (tFor (iRng1 (tCons (tC (.int 6)) tNil)) (gName 8) (tSeq (tAsg (tOp (uIx K) (tLst (tCons (tC (.int 1)) (tCons (tC (.int 1)) (tCons (tC (.int 2)) (tCons (tC (.int 3)) (tCons (tOp uAdd (tC (.int 1)) (tFn (sp__law_take K) E (tCons (tVar 0) (tCons (tC (.int 20)) tNil)))) (tCons (tC (.int 100)) tNil))))))) (tIf (tTruth K (tVar 4)) (tC (.int 0)) (tFn (sp__law_take K) E (tCons (tVar 0) (tCons (tC (.int 6)) tNil))))) (gName 9)) (tSeq (tAsg (tIf (tAnd (tTruth K (tVar 3)) (tNot (tTruth K (tVar 4)))) (tOp uAdd (tOp uMul (tVar 9) (tOp uPow (tC (.int 10)) (tC (.int 27)))) (tFn (sp__law_take K) E (tCons (tVar 0) (tCons (tC (.int 9)) tNil)))) (tVar 9)) (gName 9)) (tDrop (tBM K "list" rAppend (tVar 7) (tCons (tIf (tTest (tOp uLt (tFn (sp__law_take K) E (tCons (tVar 0) (tCons (tC (.int 20)) tNil))) (tVar 2))) (tC .non) (tVar 9)) tNil)))))) (tDrop (tBM K "list" rAppend (tVar 5) (tCons (tVar 7) tNil)))))) (tRet (tVar 5)))))
theorem Off.free {H H' : Hp} {b l : Addr} (h : Off b H H') (n : l ≠ b) (e : H' l = none) : H l = none := by
  cases q : H l with
  | none => rfl
  | some o =>
    rw [h l o n q] at e
    cases e
theorem join_pl (ds : List Nat) : Txt.join "" (ds.map pl) = wd ds := by
  have key : ∀ (l : List Nat) (acc : Array Nat), ((l.map pl).foldl (fun acc p => acc ++ ("" : Str).cps ++ p.cps) acc).toList = acc.toList ++ l.map (97 + ·) := by
    intro l
    induction l with
    | nil => intro acc; simp
    | cons a l ih =>
      intro acc
      rw [List.map_cons, List.foldl_cons, ih]
      have e0 : ("" : Str).cps = #[] := by decide
      simp [pl, e0]
  have ext : ∀ a b : Str, a.cps.toList = b.cps.toList → a = b := fun a b h => by
    obtain ⟨a⟩ := a
    obtain ⟨b⟩ := b
    exact congrArg Str.mk (Array.toList_inj.mp h)
  apply ext
  cases ds with
  | nil => rfl
  | cons a l =>
    show (((l.map pl).foldl (fun acc p => acc ++ ("" : Str).cps ++ p.cps) (pl a).cps)).toList = _
    rw [key]
    simp [pl, wd]
theorem abc_at {K : PySem.W.Frag} {d : Int} {H : Hp} {Q : VK} (h0 : 0 ≤ d) (h1 : d < 3) (q : Q (.str (pl d.toNat)) H) : uIx K (.str "abc") (.int d) H Q := by
  refine uIx_str (c := 97 + d.toNat) (by decide) ?_ q
  obtain rfl | rfl | rfl : d = 0 ∨ d = 1 ∨ d = 2 := by omega
  · decide
  · decide
  · decide
theorem tLc_rng1 {t : TA} {σ : L2.St} {g : TG} {tt : TT} {te : TE} {vs : List Nat} {Q : VK} {H : Hp} {n : Nat} (h : ∀ R : List V → Hp → Prop, R [.int n] H → t σ H R) (hn : n ≤ 1000000000) (hc : ∀ D, H D = none → LcB (Itr 0 n) g tt te vs σ H D (Q (.ref D))) : tLc (iRng1 t) g tt te vs σ H Q := by
  refine h _ ⟨_, rfl, by omega, by omega, ?_⟩
  rw [Int.toNat_natCast]
  exact hc
section
variable {K : PySem.W.Frag} (F : KF K) {vs : List V} {H : Hp} {Q : VK} {E : XK}
local macro_rules | `(tactic| walk_at "w") => `(tactic| try simp only [turnE, lcT, Snoc, tRet, tRetN, tAndV, tOrV, tNotV, tCB, tCons, tVar, tNil, tC, tOp, tSeq, tAsg, gName, gSub, tIfS, tDrop, tFn, tTup, tLst, tNext, tB, tTest, tNot, tAnd, tOr, tIf, tChain, tUn, rU, tFld, tPart, tNoPart, L2.tSl, tBM, tPar, tPar3, tTruth, tDNewK,
  L2.start, List.map_cons, List.map_nil, List.length_cons, List.length_nil, List.replicate_succ, List.replicate_zero, List.append_nil, List.nil_append, List.cons_append, List.singleton_append, Nat.sub_self, Nat.zero_add, Nat.reduceAdd, Nat.reduceSub,
  List.getElem?_cons_zero, List.getElem?_cons_succ, List.set_cons_zero, List.set_cons_succ, Option.some.injEq, exists_eq_left, exists_eq_left', V.int.injEq, V.bl.injEq, V.str.injEq, V.ref.injEq,
  uAdd_int, uAdd_str, uSub_int, uMul_int, uMul_str, uDiv_int, uMod_int, uPow_int, uLt_int, uLe_int, uGt_int, uGe_int, uIs_non, uNis_non, uIs_bl, uNis_bl, sp1, sp2, sp3, sp4, uEq_int, uEq_str, uNe_int, uNe_str, uSl_str, uLen_str, decide_eq_true_eq])
local macro_rules | `(tactic| walk_at "1") => `(tactic| try simp only [turnE, lcT, Snoc, tRet, tRetN, tAndV, tOrV, tNotV, tCB, tCons, tVar, tNil, tC, tOp, tAsg, gName, gSub, tIfS, tDrop, tFn, tTup, tLst, tNext, tB, tTest, tNot, tAnd, tOr, tIf, tChain, tUn, rU, tFld, tPart, tNoPart, L2.tSl, tBM, tPar, tPar3, tTruth, tDNewK,
  L2.start, List.map_cons, List.map_nil, List.length_cons, List.length_nil, List.replicate_succ, List.replicate_zero, List.append_nil, List.nil_append, List.cons_append, List.singleton_append, Nat.sub_self, Nat.zero_add, Nat.reduceAdd, Nat.reduceSub,
  List.getElem?_cons_zero, List.getElem?_cons_succ, List.set_cons_zero, List.set_cons_succ, Option.some.injEq, exists_eq_left, exists_eq_left', V.int.injEq, V.bl.injEq, V.str.injEq, V.ref.injEq,
  uAdd_int, uAdd_str, uSub_int, uMul_int, uMul_str, uDiv_int, uMod_int, uPow_int, uLt_int, uLe_int, uGt_int, uGe_int, uIs_non, uNis_non, uIs_bl, uNis_bl, sp1, sp2, sp3, sp4, uEq_int, uEq_str, uNe_int, uNe_str, uSl_str, uLen_str, decide_eq_true_eq])
local macro_rules | `(tactic| walk_at "s") => `(tactic| ((try dsimp only [turnE]); with_reducible refine seq_ ?_))

include F in
theorem read__law_word (h : sp__law_word K vs H Q E) : t__law_word K E { nx := fun _ H' => Q .non H', rt := Q } (start ["_law_box_here", "_law_size_here", "_law_crate"] vs) H := by
  match vs, h with
  | [_, _], ⟨b, m, n, rfl, rfl, hn, hb, hm, q⟩ =>
    unfold t__law_word sp__law_take
    simp only [tRet, tJoin, tM1, tC]
    refine ⟨⟨_, rfl⟩, ?_⟩
    refine tLc_rng1 (n := n) (fun R r => by
      walk_at "w"
      exact r) (by omega) fun D hD => ?_
    obtain ⟨l0, hb0⟩ := hb.at_
    have hDb : D ≠ b := by rintro rfl; rw [hD] at hb0; cases hb0
    refine lc_plain plain_R (fun i H' => ∃ ds, ds.length = i ∧ D3 ds ∧ H' D = some (.lst (ds.map fun d => V.str (pl d))) ∧ Bx H' b (m + i) ∧ Off b H H') ⟨[], rfl, (fun d z => nomatch z), upd_same, (hb.same (same_new hD)).mono (by omega), Same.off (same_new hD)⟩ (fun _ _ _ => trivial) ?_ ?_
    · rintro i x H1 hx ⟨ds, h1, h2, h3, h4, h5⟩
      have lt : i < n := by have := (List.getElem?_eq_some_iff.mp hx).1; simpa [intsL] using this
      simp only [lcT, wipe]
      walk_at "w"
      refine ⟨trivial, ?_⟩
      simp only [tYes, if_true]
      walk_at "w"
      refine ⟨b, m + i, 3, rfl, rfl, by omega, by omega, h4, by omega, fun d H2 d0 d1 o2 b2 => ?_⟩
      refine abc_at d0 d1 ⟨_, o2.lst h3 hDb, ?_, ds ++ [d.toNat], ?_, ?_, ?_, ?_, ?_⟩
      · rw [List.length_map, h1]
        exact Nat.lt_of_lt_of_le (show _ < 61 by omega) (by decide)
      · simp [h1]
      · intro e m
        rcases List.mem_append.mp m with m | m
        · exact h2 e m
        · have := List.mem_singleton.mp m
          omega
      · rw [upd_same]
        simp
      · exact Bx.upd (b2.mono (by omega)) hDb
      · exact Off.new (h5.trans o2) hD
    · rintro H1 ⟨ds, h1, h2, h3, h4, h5⟩
      have hl : (intsL 0 n).length = n := by simp [intsL]
      rw [hl] at h1 h4
      refine ⟨_, D, ds.map pl, rfl, rfl, .inl (.inl (.inl ?_)), ?_, ?_⟩
      · rw [h3, List.map_map]
        rfl
      · have : ∀ l : List Nat, ((l.map pl).map (·.length)).sum = l.length := by
          intro l
          induction l with
          | nil => rfl
          | cons a l ih => simp only [List.map_cons, List.sum_cons, ih, List.length_cons]; show 1 + _ = _; omega
        rw [this, List.length_map, h1]
        show n + n * 0 ≤ _
        omega
      · rw [join_pl]
        exact q ds H1 h1 h2 h5 (h4.mono (by omega))
include F in
theorem read__law_power (h : sp__law_power K vs H Q E) : t__law_power K E { nx := fun _ H' => Q .non H', rt := Q } (start ["_law_size_here", "_law_found", "_law_lap"] vs) H := by
  match vs, h with
  | [_], ⟨n, rfl, hn, q⟩ =>
    unfold t__law_power
    walk_at "w"
    refine for_rng1 (n := n) (fun R r => by
      walk_at "w"
      exact r) (by omega) (fun i σ H' => H' = H ∧ ∃ o, σ = [some (.int n), some (.int (3 ^ i)), o]) ⟨rfl, _, rfl⟩ ?_ ?_
    · rintro i σ H' hi ⟨rfl, o, rfl⟩
      walk_at "w"
      exact ⟨.inl (by omega), trivial, _, by rw [Int.pow_succ, Int.mul_comm]⟩
    · rintro σ H' ⟨rfl, o, rfl⟩
      walk_at "w"
      exact q
theorem sidx_pl {d : Nat} (h : d < 3) (q : Q (.int d) H) : tyV K "str" (.str "abc") H ∧ rSIdx (.str "abc") [.str (pl d)] H Q := by
  refine ⟨rfl, "abc", pl d, d, rfl, rfl, ?_, q⟩
  match d, h with
  | 0, _ => decide +kernel
  | 1, _ => decide +kernel
  | 2, _ => decide +kernel
include F in
theorem read__law_number (h : sp__law_number K vs H Q E) : t__law_number K E { nx := fun _ H' => Q .non H', rt := Q } (start ["_law_word_here", "_law_found", "_law_letter"] vs) H := by
  match vs, h with
  | [_], ⟨ds, rfl, h3, q⟩ =>
    unfold t__law_number
    walk_at "w"
    refine for_strL (z := wd ds) (fun R r => ⟨_, rfl, r⟩) (fun i σ H' => H' = H ∧ ∃ o, σ = [some (.str (wd ds)), some (.int (num (ds.take i))), o]) ⟨rfl, _, rfl⟩ ?_ ?_
    · rintro i x σ H' hx ⟨rfl, o, rfl⟩
      obtain ⟨d, hd, rfl⟩ := strL_get hx
      walk_at "w"
      refine ⟨.inl (by omega), ?_⟩
      refine sidx_pl (h3 d (List.mem_of_getElem? hd)) ?_
      exact ⟨rfl, _, by rw [take_num hd, Int.mul_comm]⟩
    · rintro σ H' ⟨rfl, o, rfl⟩
      walk_at "w"
      simpa [strL_wd] using q
end
/-- a list under way, L, of lists of prices -/
def PI (H : Hp) (L b : Addr) (as : List Addr) (rows : List (List (Option Int))) : Prop := H L = some (.lst (as.map V.ref)) ∧ L ≠ b ∧ as.length = rows.length ∧ (∀ r ∈ rows, r.length = 6 ∧ r.all lowP = true) ∧
  ∀ (j : Nat) (a : Addr) (r : List (Option Int)), as[j]? = some a → rows[j]? = some r → H a = some (.lst (r.map pV)) ∧ a ≠ L ∧ a ≠ b
theorem PI.off {H H' : Hp} {L b : Addr} {as : List Addr} {rows : List (List (Option Int))} (h : PI H L b as rows) (o : Off b H H') : PI H' L b as rows := by
  obtain ⟨h1, h2, h3, h4, h5⟩ := h
  refine ⟨o _ _ h2 h1, h2, h3, h4, fun j a r z1 z2 => ?_⟩
  obtain ⟨k1, k2, k3⟩ := h5 j a r z1 z2
  exact ⟨o _ _ k3 k1, k2, k3⟩
theorem PI.put {H : Hp} {L b l : Addr} {as : List Addr} {rows : List (List (Option Int))} {o : HO} (h : PI H L b as rows) (n1 : l ≠ L) (n2 : l ∉ as) : PI (upd H l o) L b as rows := by
  obtain ⟨h1, h2, h3, h4, h5⟩ := h
  refine ⟨by rw [upd_ne n1.symm]; exact h1, h2, h3, h4, fun j a r z1 z2 => ?_⟩
  obtain ⟨k1, k2, k3⟩ := h5 j a r z1 z2
  exact ⟨by rw [upd_ne (by rintro rfl; exact n2 (List.mem_of_getElem? z1))]; exact k1, k2, k3⟩
theorem PI.fresh {H : Hp} {L b l : Addr} {as : List Addr} {rows : List (List (Option Int))} (h : PI H L b as rows) (hl : H l = none) : l ≠ L ∧ l ∉ as := by
  obtain ⟨h1, h2, h3, h4, h5⟩ := h
  refine ⟨(by rintro rfl; rw [h1] at hl; cases hl), fun m => ?_⟩
  obtain ⟨j, lt, e⟩ := List.mem_iff_getElem.mp m
  obtain ⟨k1, _⟩ := h5 j l rows[j] (by rw [← e]; exact List.getElem?_eq_getElem lt) (List.getElem?_eq_getElem (by omega))
  rw [k1] at hl
  cases hl
theorem PI.push {H : Hp} {L b l : Addr} {as : List Addr} {rows : List (List (Option Int))} {r : List (Option Int)} (h : PI H L b as rows) (hl : H l = some (.lst (r.map pV))) (n1 : l ≠ L) (n2 : l ≠ b) (h6 : r.length = 6) (ho : r.all lowP = true) :
    PI (upd H L (.lst ((as.map V.ref) ++ [.ref l]))) L b (as ++ [l]) (rows ++ [r]) := by
  obtain ⟨h1, h2, h3, h4, h5⟩ := h
  refine ⟨by rw [upd_same]; simp, h2, by simp [h3], fun x m => ?_, fun j a x z1 z2 => ?_⟩
  · rcases List.mem_append.mp m with m | m
    · exact h4 x m
    · rw [List.mem_singleton.mp m]
      exact ⟨h6, ho⟩
  · by_cases e : j < as.length
    · rw [List.getElem?_append_left e] at z1
      rw [List.getElem?_append_left (by omega)] at z2
      obtain ⟨k1, k2, k3⟩ := h5 j a x z1 z2
      exact ⟨by rw [upd_ne k2]; exact k1, k2, k3⟩
    · have e2 : j = as.length := by
        have := (List.getElem?_eq_some_iff.mp z1).1
        simp at this
        omega
      subst e2
      rw [List.getElem?_append_right (Nat.le_refl _), Nat.sub_self] at z1
      rw [List.getElem?_append_right (by omega), h3, Nat.sub_self] at z2
      cases z1
      cases z2
      exact ⟨by rw [upd_ne n1]; exact hl, n1, n2⟩
theorem PI.rowVL {K : PySem.W.Frag} {H : Hp} {L b : Addr} {as : List Addr} {rows : List (List (Option Int))} (h : PI H L b as rows) : RowVL K H (.ref L) rows := by
  obtain ⟨h1, h2, h3, h4, h5⟩ := h
  refine ⟨L, _, rfl, .inl (.inl h1), by simp [h3], fun i v r z1 z2 => ?_⟩
  rw [List.getElem?_map] at z1
  obtain ⟨a, z3, rfl⟩ := Option.map_eq_some_iff.mp z1
  exact ⟨a, rfl, .inl (.inl (.inl (h5 i a r z3 z2).1))⟩
theorem PI.rowV {K : PySem.W.Frag} {H : Hp} {L b : Addr} {as : List Addr} {rows : List (List (Option Int))} (h : PI H L b as rows) : RowV K H (.ref L) rows := by
  obtain ⟨h1, h2, h3, h4, h5⟩ := h
  refine ⟨L, _, rfl, .inl (.inl (.inl h1)), by simp [h3], fun i v r z1 z2 => ?_⟩
  rw [List.getElem?_map] at z1
  obtain ⟨a, z3, rfl⟩ := Option.map_eq_some_iff.mp z1
  exact ⟨a, rfl, .inl (.inl (.inl (h5 i a r z3 z2).1))⟩
theorem price_at {d e : Int} (hd : 0 ≤ d) (hd2 : d < 20) (h0 : 0 ≤ e) (h1 : e < 6) : ∃ p : Int, atI [V.int 1, .int 1, .int 2, .int 3, .int (1 + d), .int 100] e = some (.int p) ∧ 0 < p ∧ p ≤ 100 := by
  obtain rfl | rfl | rfl | rfl | rfl | rfl : e = 0 ∨ e = 1 ∨ e = 2 ∨ e = 3 ∨ e = 4 ∨ e = 5 := by omega
  all_goals exact ⟨_, rfl, by omega, by omega⟩
theorem odds_at {e : Int} (h0 : 0 ≤ e) (h1 : e < 5) : ∃ p : Int, atI [V.int 0, .int 0, .int 2, .int 4, .int 7] e = some (.int p) := by
  obtain rfl | rfl | rfl | rfl | rfl : e = 0 ∨ e = 1 ∨ e = 2 ∨ e = 3 ∨ e = 4 := by omega
  all_goals exact ⟨_, rfl⟩
section
variable {K : PySem.W.Frag} (F : KF K) {vs : List V} {H : Hp} {Q : VK} {E : XK}
local macro_rules | `(tactic| walk_at "w") => `(tactic| try simp only [turnE, lcT, Snoc, tRet, tRetN, tAndV, tOrV, tNotV, tCB, tCons, tVar, tNil, tC, tOp, tSeq, tAsg, gName, gSub, tIfS, tDrop, tFn, tTup, tLst, tNext, tB, tTest, tNot, tAnd, tOr, tIf, tChain, tUn, rU, tFld, tPart, tNoPart, L2.tSl, tBM, tPar, tPar3, tTruth, tDNewK,
  L2.start, List.map_cons, List.map_nil, List.length_cons, List.length_nil, List.replicate_succ, List.replicate_zero, List.append_nil, List.nil_append, List.cons_append, List.singleton_append, Nat.sub_self, Nat.zero_add, Nat.reduceAdd, Nat.reduceSub,
  List.getElem?_cons_zero, List.getElem?_cons_succ, List.set_cons_zero, List.set_cons_succ, Option.some.injEq, exists_eq_left, exists_eq_left', V.int.injEq, V.bl.injEq, V.str.injEq, V.ref.injEq,
  uAdd_int, uAdd_str, uSub_int, uMul_int, uMul_str, uDiv_int, uMod_int, uPow_int, uLt_int, uLe_int, uGt_int, uGe_int, uIs_non, uNis_non, uIs_bl, uNis_bl, sp1, sp2, sp3, sp4, uEq_int, uEq_str, uNe_int, uNe_str, uSl_str, uLen_str, decide_eq_true_eq])
local macro_rules | `(tactic| walk_at "1") => `(tactic| try simp only [turnE, lcT, Snoc, tRet, tRetN, tAndV, tOrV, tNotV, tCB, tCons, tVar, tNil, tC, tOp, tAsg, gName, gSub, tIfS, tDrop, tFn, tTup, tLst, tNext, tB, tTest, tNot, tAnd, tOr, tIf, tChain, tUn, rU, tFld, tPart, tNoPart, L2.tSl, tBM, tPar, tPar3, tTruth, tDNewK,
  L2.start, List.map_cons, List.map_nil, List.length_cons, List.length_nil, List.replicate_succ, List.replicate_zero, List.append_nil, List.nil_append, List.cons_append, List.singleton_append, Nat.sub_self, Nat.zero_add, Nat.reduceAdd, Nat.reduceSub,
  List.getElem?_cons_zero, List.getElem?_cons_succ, List.set_cons_zero, List.set_cons_succ, Option.some.injEq, exists_eq_left, exists_eq_left', V.int.injEq, V.bl.injEq, V.str.injEq, V.ref.injEq,
  uAdd_int, uAdd_str, uSub_int, uMul_int, uMul_str, uDiv_int, uMod_int, uPow_int, uLt_int, uLe_int, uGt_int, uGe_int, uIs_non, uNis_non, uIs_bl, uNis_bl, sp1, sp2, sp3, sp4, uEq_int, uEq_str, uNe_int, uNe_str, uSl_str, uLen_str, decide_eq_true_eq])
local macro_rules | `(tactic| walk_at "s") => `(tactic| ((try dsimp only [turnE]); with_reducible refine seq_ ?_))

theorem tyL {l : Addr} {xs : List V} (h : H l = some (.lst xs)) : tyV K "list" (.ref l) H := Or.inl ⟨rfl, xs, .inl (.inl h)⟩
theorem app_of {l : Addr} {xs : List V} {y : V} (h : H l = some (.lst xs)) (hx : xs.length ≤ 100000) (q : Q .non (upd H l (.lst (xs ++ [y])))) : rAppend (.ref l) [y] H Q := ⟨l, xs, y, rfl, rfl, h, Nat.lt_of_lt_of_le (show xs.length < 100001 by omega) (by decide), q⟩
theorem take_of {b : Addr} {m k : Int} (hb : Bx H b m) (hm : m ≤ 1000000000) (h0 : 0 < k) (h1 : k ≤ 1000000000) (q : ∀ d H', 0 ≤ d → d < k → Off b H H' → Bx H' b (m + 1) → Q (.int d) H') : sp__law_take K [.ref b, .int k] H Q E :=
  ⟨b, m, k, rfl, rfl, h0, h1, hb, hm, q⟩
theorem plain_s3 {b l : Addr} {x1 x3 x4 x5 x6 x8 : Option V} {od p : Int} {M : Int} {xs : List V} {D : Ends} {H : Hp} (hb : Bx H b M) (hM : M ≤ 1000000000) (hl : H l = some (.lst xs)) (hx : xs.length ≤ 100000) (hlb : l ≠ b)
    (q : ∀ v H', v = .non ∨ v = .int p → Off b H H' → Bx H' b (M + 1) → D.nx [some (.ref b), x1, some (.int od), x3, x4, x5, x6, some (.ref l), x8, some (.int p)] (upd H' l (.lst (xs ++ [v])))) :
    tDrop (tBM K "list" rAppend (tVar 7) (tCons (tIf (tTest (tOp uLt (tFn (sp__law_take K) E (tCons (tVar 0) (tCons (tC (.int 20)) tNil))) (tVar 2))) (tC .non) (tVar 9)) tNil)) D [some (.ref b), x1, some (.int od), x3, x4, x5, x6, some (.ref l), x8, some (.int p)] H := by
  walk_at "1"
  refine ⟨tyL hl, take_of hb hM (by omega) (by omega) fun d H1 d0 d1 o1 b1 => ?_⟩
  have hl1 := o1.lst hl hlb
  walk_at "1"
  by_cases e : d < od
  · rw [if_pos e]
    exact app_of hl1 hx (q _ _ (.inl rfl) o1 b1)
  · rw [if_neg e]
    exact app_of hl1 hx (q _ _ (.inr rfl) o1 b1)
theorem plain_s2 {b : Addr} {x1 x2 x5 x6 x7 x8 : Option V} {gr fl : Bool} {p : Int} {M : Int} {D : Ends} {H : Hp} (hb : Bx H b M) (hM : M ≤ 1000000000) (h0 : 0 < p) (h1 : p ≤ 100)
    (q : ∀ p' H', 0 < p' ∧ p' < 10 ^ 32 → Off b H H' → Bx H' b (M + 1) → D.nx [some (.ref b), x1, x2, some (.bl gr), some (.bl fl), x5, x6, x7, x8, some (.int p')] H') :
    tAsg (tIf (tAnd (tTruth K (tVar 3)) (tNot (tTruth K (tVar 4)))) (tOp uAdd (tOp uMul (tVar 9) (tOp uPow (tC (.int 10)) (tC (.int 27)))) (tFn (sp__law_take K) E (tCons (tVar 0) (tCons (tC (.int 9)) tNil)))) (tVar 9)) (gName 9)
      D [some (.ref b), x1, x2, some (.bl gr), some (.bl fl), x5, x6, x7, x8, some (.int p)] H := by
  have hb' := hb.mono (n := M + 1) (by omega)
  walk_at "1"
  refine ⟨gr, rfl, ?_⟩
  cases gr with
  | false => exact q p H ⟨h0, by omega⟩ Off.refl hb'
  | true =>
    simp only [if_true]
    refine ⟨fl, rfl, ?_⟩
    cases fl with
    | true => exact q p H ⟨h0, by omega⟩ Off.refl hb'
    | false =>
      simp only [if_true, Bool.not_false]
      walk_at "1"
      refine ⟨⟨by omega, by omega, by omega⟩, .inl (by omega), take_of hb hM (by omega) (by omega) fun d H1 d0 d1 o1 b1 => ?_⟩
      walk_at "1"
      refine q _ _ ?_ o1 b1
      have t : (10 : Int) ^ Int.toNat 27 = 1000000000000000000000000000 := by decide
      rw [t]
      have t2 : (10 : Int) ^ 32 = 100000000000000000000000000000000 := by decide
      rw [t2]
      omega
theorem plain_s1 {b : Addr} {x1 x2 x3 x5 x6 x7 x8 x9 : Option V} {fl : Bool} {M : Int} {D : Ends} {H : Hp} (hb : Bx H b M) (hM : M ≤ 100000000)
    (q : ∀ p' H', 0 < p' → p' ≤ 100 → Off b H H' → Bx H' b (M + 2) → D.nx [some (.ref b), x1, x2, x3, some (.bl fl), x5, x6, x7, x8, some (.int p')] H') :
    tAsg (tOp (uIx K) (tLst (tCons (tC (.int 1)) (tCons (tC (.int 1)) (tCons (tC (.int 2)) (tCons (tC (.int 3)) (tCons (tOp uAdd (tC (.int 1)) (tFn (sp__law_take K) E (tCons (tVar 0) (tCons (tC (.int 20)) tNil)))) (tCons (tC (.int 100)) tNil)))))))
      (tIf (tTruth K (tVar 4)) (tC (.int 0)) (tFn (sp__law_take K) E (tCons (tVar 0) (tCons (tC (.int 6)) tNil))))) (gName 9) D [some (.ref b), x1, x2, x3, some (.bl fl), x5, x6, x7, x8, x9] H := by
  walk_at "1"
  refine take_of hb (by omega) (by omega) (by omega) fun e H1 e0 e1 o1 b1 => ?_
  walk_at "1"
  refine ⟨by decide, fun A hA => ?_⟩
  have hAb : A ≠ b := by
    obtain ⟨l0, hb0⟩ := b1.at_
    rintro rfl
    rw [hA] at hb0
    cases hb0
  have s2 : Same H1 (upd H1 A (.lst [.int 1, .int 1, .int 2, .int 3, .int (1 + e), .int 100])) := same_new hA
  have h2 : upd H1 A (.lst [.int 1, .int 1, .int 2, .int 3, .int (1 + e), .int 100]) A = some (.lst [.int 1, .int 1, .int 2, .int 3, .int (1 + e), .int 100]) := upd_same
  generalize upd H1 A (.lst [.int 1, .int 1, .int 2, .int 3, .int (1 + e), .int 100]) = H2 at *
  have q2 : Off b H H2 := o1.trans (Same.off s2)
  have b2 := b1.same s2
  refine ⟨fl, rfl, ?_⟩
  cases fl with
  | true =>
    simp only [if_true]
    exact uIx_lst h2 rfl (q _ _ (by omega) (by omega) q2 (b2.mono (by omega)))
  | false =>
    simp only [if_false, Bool.false_eq_true]
    refine take_of b2 (by omega) (by omega) (by omega) fun d H3 d0 d1 o3 b3 => ?_
    obtain ⟨p, hp, p0, p1⟩ := price_at e0 e1 d0 d1
    exact uIx_lst (o3.lst h2 hAb) hp (q _ _ p0 p1 (q2.trans o3) (b3.mono (by omega)))
include F in
theorem read__law_plain (h : sp__law_plain K vs H Q E) : t__law_plain K E { nx := fun _ H' => Q .non H', rt := Q } (start ["_law_box_here", "_law_size_here", "_law_odds", "_law_great", "_law_flat", "_law_found", "_law_crate", "_law_line", "_law_way", "_law_price_here"] vs) H := by
  match vs, h with
  | [_, _], ⟨b, m, n, rfl, rfl, hn1, hn, hb, hm, q⟩ =>
    unfold t__law_plain
    walk_at "w"
    refine ⟨by decide, fun A hA => ?_⟩
    have hAb : A ≠ b := by
      obtain ⟨l0, hb0⟩ := hb.at_
      rintro rfl
      rw [hA] at hb0
      cases hb0
    refine take_of (m := m) (hb.upd hAb) (by omega) (by omega) (by omega) fun d H1 d0 d1 o1 b1 => ?_
    obtain ⟨od, hod⟩ := odds_at d0 d1
    refine uIx_lst (o1.lst upd_same hAb) hod ?_
    have o1 : Off b H H1 := Off.trans (Off.new Off.refl hA) o1
    refine take_of b1 (by omega) (by omega) (by omega) fun d2 H2 d20 d21 o2 b2 => ?_
    walk_at "w"
    refine take_of b2 (by omega) (by omega) (by omega) fun d3 H3 d30 d31 o3 b3 => ?_
    walk_at "w"
    refine ⟨by decide, fun L hL => ?_⟩
    have o3 : Off b H H3 := (o1.trans o2).trans o3
    have hLb : L ≠ b := by
      obtain ⟨l0, hb0⟩ := b3.at_
      rintro rfl
      rw [hL] at hb0
      cases hb0
    refine ⟨_, _, _, rfl, ?_⟩
    walk_at "w"
    generalize decide (d2 = 0) = gr
    generalize decide (d3 = 0) = fl
    have hL0 : H L = none := Off.free o3 hLb hL
    have oL : Off b H (upd H3 L (.lst [])) := Off.new o3 hL0
    refine for_rng1 (n := n) (fun R r => by
      walk_at "w"
      exact r) (by omega) (fun i σ H' => ∃ as rows o6 o7 o8 o9, σ = [some (.ref b), some (.int n), some (.int od), some (.bl gr), some (.bl fl), some (.ref L), o6, o7, o8, o9] ∧ PI H' L b as rows ∧ rows.length = i ∧ Bx H' b (m + 3 + 24 * i) ∧ Off b H H')
      ⟨[], [], none, none, none, none, rfl, ⟨upd_same, hLb, rfl, (fun r m => nomatch m), fun j a r z => nomatch z⟩, rfl, (b3.upd hLb).mono (by omega), oL⟩ ?_ ?_
    · rintro i σ H4 hi ⟨as, rows, o6, o7, o8, o9, rfl, hp, hr, hb4, ho4⟩
      walk_at "w"
      refine ⟨by decide, fun l hl => ?_⟩
      obtain ⟨hlL, hla⟩ := hp.fresh hl
      have hlb : l ≠ b := by
        obtain ⟨l0, hb0⟩ := hb4.at_
        rintro rfl
        rw [hl] at hb0
        cases hb0
      refine for_rng1 (n := 6) (fun R r => by
        walk_at "w"
        exact r) (by omega) (fun j σ H' => ∃ r o8 o9, σ = [some (.ref b), some (.int n), some (.int od), some (.bl gr), some (.bl fl), some (.ref L), some (.int i), some (.ref l), o8, o9] ∧ H' l = some (.lst (r.map pV)) ∧ r.length = j ∧ r.all lowP = true ∧ PI H' L b as rows ∧ Bx H' b (m + 3 + 24 * i + 4 * j) ∧ Off b H H')
        ⟨[], o8, o9, rfl, upd_same, rfl, rfl, hp.put hlL hla, (hb4.upd hlb).mono (by omega), ho4.trans (Same.off (same_new hl))⟩ ?_ ?_
      · rintro j σ H5 hj ⟨r, p8, p9, rfl, g1, g2, g3, g4, g5, g6⟩
        simp only [gName, List.set_cons_zero, List.set_cons_succ]
        rw [tSeq]
        refine plain_s1 g5 (by omega) fun p H6 p0 p1 o6 b6 => ?_
        show tSeq _ _ _ _ _
        rw [tSeq]
        refine plain_s2 b6 (by omega) p0 p1 fun p H7 p0 o7 b7 => ?_
        have o57 := o6.trans o7
        refine plain_s3 b7 (by omega) (o57.lst g1 hlb) (by rw [List.length_map, g2]; omega) hlb fun v H8 hv o8 b8 => ?_
        have o58 := o57.trans o8
        have hv2 : ∃ w, v = pV w ∧ lowP w = true := by
          rcases hv with rfl | rfl
          · exact ⟨none, rfl, rfl⟩
          · exact ⟨some p, rfl, decide_eq_true p0⟩
        obtain ⟨w, rfl, hw⟩ := hv2
        refine ⟨r ++ [w], _, _, rfl, by rw [upd_same]; simp, by simp [g2], by simp [g3, hw], (g4.off o58).put hlL hla, Bx.upd (b8.mono (by omega)) hlb, Off.new (g6.trans o58) ?_⟩
        exact Off.free (ho4) hlb hl
      · rintro σ H5 ⟨r, p8, p9, rfl, g1, g2, g3, g4, g5, g6⟩
        walk_at "w"
        refine ⟨tyL g4.1, app_of g4.1 (by rw [List.length_map, g4.2.2.1]; omega) ?_⟩
        exact ⟨as ++ [l], rows ++ [r], _, _, _, _, rfl, g4.push g1 hlL hlb g2 g3, by simp [hr], Bx.upd (g5.mono (by omega)) hLb, Off.new g6 hL0⟩
    · rintro σ H4 ⟨as, rows, o6, o7, o8, o9, rfl, hp, hr, hb4, ho4⟩
      walk_at "w"
      exact q rows _ _ hr ⟨by omega, by omega, fun r m => ⟨(hp.2.2.2.1 r m).1, lowL_ok (hp.2.2.2.1 r m).2⟩⟩ hp.rowV ho4 (hb4.mono (by omega)) (fun r m => (hp.2.2.2.1 r m).2) hp.rowVL
end
end U
namespace U
open PySem PySem.Spec PyProof.Rows L2

/-! ### what the laws' own `law` share -/
theorem d3_rep {n d : Nat} (h : d < 3) : D3 (List.replicate n d) := fun e m => by rw [List.eq_of_mem_replicate m]; exact h
theorem Bx.ne {H : Hp} {b : Addr} {m : Int} {l : Addr} (h : Bx H b m) (hl : H l = none) : l ≠ b := by
  obtain ⟨l0, hb0⟩ := h.at_
  rintro rfl
  rw [hl] at hb0
  cases hb0
/-- how many cells a law looks at -/
theorem most_of (n : Nat) (lim : Int) (hl : lim ≤ 100) : ∃ N : Nat, N ≤ 100 ∧ (if (if (n : Int) < lim then (n : Int) else lim) > 2 then (if (n : Int) < lim then (n : Int) else lim) else 2) = (N : Int) := by
  refine ⟨(if (if (n : Int) < lim then (n : Int) else lim) > 2 then (if (n : Int) < lim then (n : Int) else lim) else 2).toNat, ?_, ?_⟩
  · split <;> split <;> omega
  · split <;> split <;> omega
def sp_law0 (K : PySem.W.Frag) : Sp := sp1 fun x H Q _ => ∃ (a : Addr) (ns : List Int), x = .ref a ∧ SqL K H a (ns.map V.int) ∧ ∀ H', Q (.bl true) H'
theorem make_yard {K : PySem.W.Frag} {H : Hp} {E : XK} {rows : List (List (Option Int))} {v : V} {Q : Addr → Hp → Prop} (hr : RowV K H v rows) (ho : RowsOk rows) (q : ∀ x H', Same H H' → H x = none → Yd K H' x rows → Q x H') :
    ∀ x dx, H x = none → H dx = none → dx ≠ x → sp_Yard_init K [.ref x, v] (upd (upd H dx (.own x)) x (.ins (He.ga K "Yard") dx [])) (fun v H2 => v = .non ∧ Q x H2) E := by
  intro x dx hx hdx hne
  have s1 : Same H (upd H dx (.own x)) := same_new hdx
  have hx1 : upd H dx (.own x) x = none := by rw [upd_ne hne.symm]; exact hx
  have s2 : Same (upd H dx (.own x)) (upd (upd H dx (.own x)) x (.ins (He.ga K "Yard") dx [])) := same_new hx1
  refine ⟨x, dx, rfl, upd_same, .inl ⟨rows, hr.same (s1.trans s2), ho, fun H' o hy => ⟨rfl, q x H' ?_ hx hy⟩⟩⟩
  exact Off.same (Off.trans (Same.off (s1.trans s2)) o) hx
end U
namespace U
open PySem PySem.Spec PyProof.Rows L2

/-! ### tops of places, and the allowed moves by them -/
/-- no crate above crate k lies on its place -/
def isTop (ds : List Nat) (k : Nat) : Bool := (ds.drop (k + 1)).all fun e => decide (e ≠ ds[k]?.getD 0)
/-- no crate above crate k lies on place d -/
def bare (ds : List Nat) (k d : Nat) : Bool := (ds.drop (k + 1)).all fun e => decide (e ≠ d)
def topsL (ds : List Nat) : List Nat := (List.range ds.length).filter (isTop ds)
theorem all_third {l : List Nat} (h3 : D3 l) {c d : Nat} (hc : c < 3) (hd : d < 3) (n : c ≠ d) : (l = List.replicate l.length (3 - c - d)) ↔ ∀ e ∈ l, e ≠ c ∧ e ≠ d := by
  constructor
  · intro h e m
    rw [h] at m
    have := List.eq_of_mem_replicate m
    omega
  · intro h
    refine List.eq_replicate_iff.mpr ⟨rfl, fun e m => ?_⟩
    have h1 := h e m
    have h2 := h3 e m
    omega
theorem alw_iff {rows : List (List (Option Int))} {ds : List Nat} {k d : Nat} (h3 : D3 ds) (hd : d < 3) :
    alw rows ds k d = (isTop ds k && (decide (d ≠ ds[k]?.getD 0) && (bare ds k d && (prOf rows k (ds[k]?.getD 0) d).isSome))) := by
  have hc := d3_at h3 k
  unfold alw isTop bare
  generalize ds[k]?.getD 0 = c at *
  by_cases n : c = d
  · subst n
    simp
  · have hl : ds.length - (k + 1) = (ds.drop (k + 1)).length := by rw [List.length_drop]
    have hD : D3 (ds.drop (k + 1)) := fun e m => h3 e (List.mem_of_mem_drop m)
    rw [hl, Bool.eq_iff_iff]
    simp only [Bool.and_eq_true, decide_eq_true_eq, List.all_eq_true]
    rw [all_third hD hc hd n]
    constructor
    · rintro ⟨_, h2, h4⟩
      exact ⟨fun e m => (h4 e m).1, fun z => n z.symm, fun e m => (h4 e m).2, h2⟩
    · rintro ⟨h1, _, h2, h4⟩
      exact ⟨n, h4, fun e m => ⟨h1 e m, h2 e m⟩⟩
/-- the moves of a crate on top -/
def topMv (rows : List (List (Option Int))) (ds : List Nat) (k : Nat) : List (Nat × Nat) :=
  [(k, 0), (k, 1), (k, 2)].filter fun m => decide (m.2 ≠ ds[m.1]?.getD 0) && (bare ds m.1 m.2 && (prOf rows m.1 (ds[m.1]?.getD 0) m.2).isSome)
theorem flatMap_if {α : Type} (l : List Nat) (p : Nat → Bool) (f : Nat → List α) : (l.flatMap fun k => if p k = true then f k else []) = (l.filter p).flatMap f := by
  induction l with
  | nil => rfl
  | cons a r ih =>
    rw [List.flatMap_cons, ih]
    cases e : p a with
    | true => rw [List.filter_cons_of_pos e, List.flatMap_cons]; rfl
    | false => rw [List.filter_cons_of_neg (by rw [e]; decide)]; rfl
theorem alwL_tops {rows : List (List (Option Int))} {ds : List Nat} (h3 : D3 ds) (hl : ds.length = rows.length) : alwL rows ds = (topsL ds).flatMap (topMv rows ds) := by
  unfold alwL allL topsL
  rw [List.filter_flatMap, ← hl, ← flatMap_if]
  congr 1
  funext k
  by_cases t : isTop ds k = true
  · rw [if_pos t]
    unfold topMv
    refine List.filter_congr fun m hm => ?_
    have e : m.1 = k ∧ m.2 < 3 := by
      simp only [or_false, List.mem_cons, List.not_mem_nil] at hm
      rcases hm with rfl | rfl | rfl
      · exact ⟨rfl, (by show 0 < 3; decide)⟩
      · exact ⟨rfl, (by show 1 < 3; decide)⟩
      · exact ⟨rfl, (by show 2 < 3; decide)⟩
    rw [alw_iff h3 e.2, e.1, t, Bool.true_and]
  · rw [if_neg t]
    refine List.filter_eq_nil_iff.mpr fun m hm => ?_
    have e : m.1 = k ∧ m.2 < 3 := by
      simp only [or_false, List.mem_cons, List.not_mem_nil] at hm
      rcases hm with rfl | rfl | rfl
      · exact ⟨rfl, (by show 0 < 3; decide)⟩
      · exact ⟨rfl, (by show 1 < 3; decide)⟩
      · exact ⟨rfl, (by show 2 < 3; decide)⟩
    rw [alw_iff h3 e.2, e.1]
    have : isTop ds k = false := by simpa using t
    rw [this, Bool.false_and]
    decide
/-! the table of tops under way: (place, crate) for each place seen -/
def putT (t : List (Nat × Nat)) (d k : Nat) : List (Nat × Nat) := if (t.any fun q => decide (q.1 = d)) = true then t.map fun q => if q.1 = d then (q.1, k) else q else t ++ [(d, k)]
def TopsT (ds : List Nat) (n : Nat) (t : List (Nat × Nat)) : Prop := (t.map (·.1)).Nodup ∧ ∀ d k, (d, k) ∈ t ↔ k < n ∧ ds[k]? = some d ∧ ∀ j, k < j → j < n → ds[j]? ≠ some d
theorem topsT_nil (ds : List Nat) : TopsT ds 0 [] := ⟨.nil, fun d k => ⟨(fun m => nomatch m), fun z => absurd z.1 (Nat.not_lt_zero _)⟩⟩
theorem topsT_put {ds : List Nat} {n d : Nat} {t : List (Nat × Nat)} (h : TopsT ds n t) (hd : ds[n]? = some d) : TopsT ds (n + 1) (putT t d n) := by
  obtain ⟨h1, h2⟩ := h
  unfold putT
  by_cases a : (t.any fun q => decide (q.1 = d)) = true
  · rw [if_pos a]
    have keys : (t.map fun q => if q.1 = d then (q.1, n) else q).map (·.1) = t.map (·.1) := by
      rw [List.map_map]
      refine List.map_congr_left fun q _ => ?_
      show (if q.1 = d then (q.1, n) else q).1 = q.1
      split <;> rfl
    refine ⟨by rw [keys]; exact h1, fun e k => ?_⟩
    obtain ⟨q0, hq0, hd0⟩ := List.any_eq_true.mp a
    have hd0 : q0.1 = d := of_decide_eq_true hd0
    constructor
    · intro m
      obtain ⟨q, hq, hz⟩ := List.mem_map.mp m
      by_cases z : q.1 = d
      · rw [if_pos z] at hz
        injection hz with z1 z2
        subst z1 z2
        exact ⟨Nat.lt_succ_self _, by rw [hd, z], fun j j1 j2 => by omega⟩
      · rw [if_neg z] at hz
        subst hz
        obtain ⟨k1, k2, k3⟩ := (h2 e k).mp hq
        refine ⟨by omega, k2, fun j j1 j2 => ?_⟩
        by_cases jn : j = n
        · rw [jn, hd]
          intro w
          exact z (Option.some.inj w).symm
        · exact k3 j j1 (by omega)
    · rintro ⟨k1, k2, k3⟩
      by_cases kn : k = n
      · subst kn
        have : d = e := Option.some.inj (hd.symm.trans k2)
        subst this
        exact List.mem_map.mpr ⟨q0, hq0, by rw [if_pos hd0, hd0]⟩
      · have ne : e ≠ d := by
          rintro rfl
          exact k3 n (by omega) (by omega) hd
        have hm := (h2 e k).mpr ⟨by omega, k2, fun j j1 j2 => k3 j j1 (by omega)⟩
        exact List.mem_map.mpr ⟨_, hm, by rw [if_neg ne]⟩
  · rw [if_neg a]
    have out : ∀ q ∈ t, q.1 ≠ d := fun q hq z => a (List.any_eq_true.mpr ⟨q, hq, decide_eq_true z⟩)
    refine ⟨?_, fun e k => ?_⟩
    · rw [List.map_append]
      rw [List.nodup_append]
      refine ⟨h1, by simp, fun x hx y hy => ?_⟩
      obtain ⟨q, hq, rfl⟩ := List.mem_map.mp hx
      have : y = d := by simpa using hy
      rw [this]
      exact out q hq
    · rw [List.mem_append, List.mem_singleton]
      constructor
      · rintro (m | m)
        · obtain ⟨k1, k2, k3⟩ := (h2 e k).mp m
          refine ⟨by omega, k2, fun j j1 j2 => ?_⟩
          by_cases jn : j = n
          · rw [jn, hd]
            intro w
            exact out _ m (Option.some.inj w).symm
          · exact k3 j j1 (by omega)
        · injection m with m1 m2
          subst m1 m2
          exact ⟨Nat.lt_succ_self _, hd, fun j j1 j2 => by omega⟩
      · rintro ⟨k1, k2, k3⟩
        by_cases kn : k = n
        · subst kn
          have : d = e := Option.some.inj (hd.symm.trans k2)
          exact .inr (by rw [this])
        · exact .inl ((h2 e k).mpr ⟨by omega, k2, fun j j1 j2 => k3 j j1 (by omega)⟩)
theorem isTop_iff {ds : List Nat} {k : Nat} (hk : k < ds.length) : isTop ds k = true ↔ ∀ j, k < j → j < ds.length → ds[j]? ≠ some (ds[k]?.getD 0) := by
  unfold isTop
  rw [List.all_eq_true]
  constructor
  · intro h j j1 j2 z
    have m : ds[k]?.getD 0 ∈ ds.drop (k + 1) := by
      refine List.mem_iff_getElem?.mpr ⟨j - (k + 1), ?_⟩
      rw [List.getElem?_drop]
      have : k + 1 + (j - (k + 1)) = j := by omega
      rw [this, z]
    exact absurd rfl (of_decide_eq_true (h _ m))
  · intro h e m
    obtain ⟨i, hi⟩ := List.mem_iff_getElem?.mp m
    rw [List.getElem?_drop] at hi
    have lt := (List.getElem?_eq_some_iff.mp hi).1
    refine decide_eq_true fun z => h (k + 1 + i) (by omega) lt ?_
    rw [hi, z]
theorem topsT_mem {ds : List Nat} {t : List (Nat × Nat)} (h : TopsT ds ds.length t) (k : Nat) : k ∈ t.map (·.2) ↔ k ∈ topsL ds := by
  unfold topsL
  rw [List.mem_filter, List.mem_range, List.mem_map]
  constructor
  · rintro ⟨⟨d, j⟩, m, rfl⟩
    obtain ⟨k1, k2, k3⟩ := (h.2 d j).mp m
    refine ⟨k1, (isTop_iff k1).mpr fun i i1 i2 => ?_⟩
    rw [k2]
    exact k3 i i1 i2
  · rintro ⟨k1, k2⟩
    have e : ds[k]? = some (ds[k]?.getD 0) := by rw [List.getElem?_eq_getElem k1]; rfl
    exact ⟨(ds[k]?.getD 0, k), (h.2 _ _).mpr ⟨k1, e, (isTop_iff k1).mp k2⟩, rfl⟩
theorem topsT_nodup {ds : List Nat} {n : Nat} {t : List (Nat × Nat)} (h : TopsT ds n t) : (t.map (·.2)).Nodup := by
  obtain ⟨h1, h2⟩ := h
  rw [List.nodup_iff_pairwise_ne, List.pairwise_map] at h1 ⊢
  refine List.Pairwise.imp_of_mem (fun {a b} ha hb hne hz => ?_) h1
  obtain ⟨_, e1, _⟩ := (h2 a.1 a.2).mp ha
  obtain ⟨_, e2, _⟩ := (h2 b.1 b.2).mp hb
  rw [hz, e2] at e1
  exact hne (Option.some.inj e1).symm
theorem tops_sorted {ds : List Nat} {t : List (Nat × Nat)} (h : TopsT ds ds.length t) {ys : List Int} (hp : ys.Perm ((t.map (·.2)).map Int.ofNat)) (hs : ys.Pairwise (· ≤ ·)) : ys = (topsL ds).map Int.ofNat := by
  have nd : (topsL ds).Nodup := List.Nodup.sublist List.filter_sublist List.nodup_range
  have p1 : (t.map (·.2)).Perm (topsL ds) := (List.perm_ext_iff_of_nodup (topsT_nodup h) nd).mpr (topsT_mem h)
  have s1 : ((topsL ds).map Int.ofNat).Pairwise (· ≤ ·) := by
    rw [List.pairwise_map]
    have : (topsL ds).Pairwise (· < ·) := List.Pairwise.sublist List.filter_sublist List.pairwise_lt_range
    exact this.imp fun {a b} z => by show (a : Int) ≤ (b : Int); omega
  exact List.Perm.eq_of_pairwise (fun x y _ _ a b => Int.le_antisymm a b) hs s1 (hp.trans (p1.map _))
/-- the crate on top of place d, by the table: k and all above it off d -/
theorem topsT_bare {ds : List Nat} {t : List (Nat × Nat)} (h : TopsT ds ds.length t) (k d : Nat) (hk : k < ds.length) (hn : ds[k]?.getD 0 ≠ d) : bare ds k d = true ↔ ∀ j, (d, j) ∈ t → j < k := by
  unfold bare
  rw [List.all_eq_true]
  constructor
  · intro a j m
    obtain ⟨k1, k2, k3⟩ := (h.2 d j).mp m
    rcases Nat.lt_trichotomy j k with z | z | z
    · exact z
    · subst z
      rw [k2] at hn
      exact absurd rfl hn
    · have mm : d ∈ ds.drop (k + 1) := by
        refine List.mem_iff_getElem?.mpr ⟨j - (k + 1), ?_⟩
        rw [List.getElem?_drop]
        have : k + 1 + (j - (k + 1)) = j := by omega
        rw [this, k2]
      exact absurd rfl (of_decide_eq_true (a d mm))
  · intro a e m
    refine decide_eq_true ?_
    rintro rfl
    -- the last of them
    have key : ∀ n, ∀ i, ds.length - i = n → k < i → i < ds.length → ds[i]? = some e → ∃ j, k < j ∧ (e, j) ∈ t := by
      refine fun n => Nat.strongRecOn n fun n ih => ?_
      · intro i hi h1 h2 h3
        by_cases z : ∃ j, i < j ∧ j < ds.length ∧ ds[j]? = some e
        · obtain ⟨j, j1, j2, j3⟩ := z
          exact ih (ds.length - j) (by omega) j rfl (by omega) j2 j3
        · exact ⟨i, h1, (h.2 e i).mpr ⟨h2, h3, fun j j1 j2 j3 => z ⟨j, j1, j2, j3⟩⟩⟩
    obtain ⟨i, hi⟩ := List.mem_iff_getElem?.mp m
    rw [List.getElem?_drop] at hi
    have lt := (List.getElem?_eq_some_iff.mp hi).1
    obtain ⟨j, j1, j2⟩ := key _ _ rfl (show k < k + 1 + i by omega) lt hi
    have := a j j2
    omega
end U
namespace U
open PySem PySem.Spec PyProof.Rows L2

def sp__law_price (K : PySem.W.Frag) : Sp := sp4 fun x c u v H Q _ => ∃ rows k a b, RowV K H x rows ∧ RowsOk rows ∧ c = .int (k : Nat) ∧ u = .str (pl a) ∧ v = .str (pl b) ∧ k < rows.length ∧ a < 3 ∧ b < 3 ∧ a ≠ b ∧ ∀ H', Same H H' → Q (pV (prOf rows k a b)) H'
def sp__law_behind (K : PySem.W.Frag) : Sp := sp2 fun x m H Q _ => ∃ ds t k d, x = .str (wd ds) ∧ ds.length ≤ 60 ∧ m = .ref t ∧ Mv K H t k d ∧ k < ds.length ∧ Q (.str (wd (ds.set k d))) H
def t__law_price (K : PySem.W.Frag) (E : XK) : TS := (tRet (tOp (uIx K) (tOp (uIx K) (tVar 0) (tVar 1)) (tBM K "list" (rIndex K) (tLst (tCons (tC (.str "ab")) (tCons (tC (.str "ac")) (tCons (tC (.str "ba")) (tCons (tC (.str "bc")) (tCons (tC (.str "ca")) (tCons (tC (.str "cb")) tNil))))))) (tCons (tOp uAdd (tVar 2) (tVar 3)) tNil))))
def t__law_behind (K : PySem.W.Frag) (E : XK) : TS := (tRet (tOp uAdd (tOp uAdd (tSl (uSl K) (tVar 0) tNoPart (tPart (tOp (uIx K) (tVar 1) (tC (.int 0))))) (tOp (uIx K) (tVar 1) (tC (.int 1)))) (tSl (uSl K) (tVar 0) (tPart (tOp uAdd (tOp (uIx K) (tVar 1) (tC (.int 0))) (tC (.int 1)))) tNoPart)))
section
variable {K : PySem.W.Frag} (F : KF K) {vs : List V} {H : Hp} {Q : VK} {E : XK}
local macro_rules | `(tactic| walk_at "w") => `(tactic| try simp only [turnE, lcT, Snoc, tRet, tRetN, tAndV, tOrV, tNotV, tCB, tCons, tVar, tNil, tC, tOp, tSeq, tAsg, gName, gSub, tIfS, tDrop, tFn, tTup, tLst, tNext, tB, tTest, tNot, tAnd, tOr, tIf, tChain, tUn, rU, tFld, tPart, tNoPart, L2.tSl, tBM, tPar, tPar3, tTruth, tDNewK,
  L2.start, List.map_cons, List.map_nil, List.length_cons, List.length_nil, List.replicate_succ, List.replicate_zero, List.append_nil, List.nil_append, List.cons_append, List.singleton_append, Nat.sub_self, Nat.zero_add, Nat.reduceAdd, Nat.reduceSub,
  List.getElem?_cons_zero, List.getElem?_cons_succ, List.set_cons_zero, List.set_cons_succ, Option.some.injEq, exists_eq_left, exists_eq_left', V.int.injEq, V.bl.injEq, V.str.injEq, V.ref.injEq,
  uAdd_int, uAdd_str, uSub_int, uMul_int, uMul_str, uDiv_int, uMod_int, uPow_int, uLt_int, uLe_int, uGt_int, uGe_int, uIs_non, uNis_non, uIs_bl, uNis_bl, sp1, sp2, sp3, sp4, uEq_int, uEq_str, uNe_int, uNe_str, uSl_str, uLen_str, decide_eq_true_eq])
local macro_rules | `(tactic| walk_at "1") => `(tactic| try simp only [turnE, lcT, Snoc, tRet, tRetN, tAndV, tOrV, tNotV, tCB, tCons, tVar, tNil, tC, tOp, tAsg, gName, gSub, tIfS, tDrop, tFn, tTup, tLst, tNext, tB, tTest, tNot, tAnd, tOr, tIf, tChain, tUn, rU, tFld, tPart, tNoPart, L2.tSl, tBM, tPar, tPar3, tTruth, tDNewK,
  L2.start, List.map_cons, List.map_nil, List.length_cons, List.length_nil, List.replicate_succ, List.replicate_zero, List.append_nil, List.nil_append, List.cons_append, List.singleton_append, Nat.sub_self, Nat.zero_add, Nat.reduceAdd, Nat.reduceSub,
  List.getElem?_cons_zero, List.getElem?_cons_succ, List.set_cons_zero, List.set_cons_succ, Option.some.injEq, exists_eq_left, exists_eq_left', V.int.injEq, V.bl.injEq, V.str.injEq, V.ref.injEq,
  uAdd_int, uAdd_str, uSub_int, uMul_int, uMul_str, uDiv_int, uMod_int, uPow_int, uLt_int, uLe_int, uGt_int, uGe_int, uIs_non, uNis_non, uIs_bl, uNis_bl, sp1, sp2, sp3, sp4, uEq_int, uEq_str, uNe_int, uNe_str, uSl_str, uLen_str, decide_eq_true_eq])
local macro_rules | `(tactic| walk_at "s") => `(tactic| ((try dsimp only [turnE]); with_reducible refine seq_ ?_))

def waysV : List V := [.str "ab", .str "ac", .str "ba", .str "bc", .str "ca", .str "cb"]
theorem way_find {a b : Nat} {l : Addr} (ha : a < 3) (hb : b < 3) (n : a ≠ b) (hl : H l = some (.lst waysV)) (q : Q (.int (wayI a b : Nat)) H) : tyV K "list" (.ref l) H ∧ rIndex K (.ref l) [.str (wd [a, b])] H Q := by
  refine ⟨tyL hl, l, waysV, _, wayI a b, .str (wd [a, b]), rfl, rfl, .inl (.inl hl), rfl, rfl, ?_, decide_eq_true rfl, ?_, q⟩
  · match a, ha, b, hb with
    | 0, _, 0, _ => exact absurd rfl n
    | 0, _, 1, _ => decide
    | 0, _, 2, _ => decide
    | 1, _, 0, _ => decide
    | 1, _, 1, _ => exact absurd rfl n
    | 1, _, 2, _ => decide
    | 2, _, 0, _ => decide
    | 2, _, 1, _ => decide
    | 2, _, 2, _ => exact absurd rfl n
  · have key : ∀ m z', m < wayI a b → waysV[m]? = some z' → eqV z' (.str (wd [a, b])) = false := by
      intro m z' hm hz
      have h6 := wayI_lt ha hb n
      have hw : waysV[wayI a b]? = some (.str (wd [a, b])) := by
        match a, ha, b, hb with
        | 0, _, 0, _ => exact absurd rfl n
        | 0, _, 1, _ => decide
        | 0, _, 2, _ => decide
        | 1, _, 0, _ => decide
        | 1, _, 1, _ => exact absurd rfl n
        | 1, _, 2, _ => decide
        | 2, _, 0, _ => decide
        | 2, _, 1, _ => decide
        | 2, _, 2, _ => exact absurd rfl n
      have nd : waysV.Nodup := by decide
      have hm6 : m < waysV.length := by show m < 6; omega
      have hz2 : waysV[m] = z' := by
        rw [List.getElem?_eq_getElem hm6] at hz
        exact Option.some.inj hz
      have ne : z' ≠ .str (wd [a, b]) := by
        intro e
        rw [e, ← hw] at hz
        have := (List.getElem?_inj hm6 nd).mp hz
        omega
      have hstr : ∃ y, z' = .str y := by
        have : z' ∈ waysV := List.mem_of_getElem? hz
        simp only [waysV, or_false, List.mem_cons, List.not_mem_nil] at this
        rcases this with rfl | rfl | rfl | rfl | rfl | rfl <;> exact ⟨_, rfl⟩
      obtain ⟨y, rfl⟩ := hstr
      exact decide_eq_false fun e => ne (congrArg V.str e)
    exact key
include F in
theorem read__law_price (h : sp__law_price K vs H Q E) : t__law_price K E { nx := fun _ H' => Q .non H', rt := Q } (start ["_law_plain_here", "_law_crate", "_law_begin", "_law_place"] vs) H := by
  match vs, h with
  | [_, _, _, _], ⟨rows, k, a, b, ⟨p, xs, rfl, h1, h2, h3⟩, ho, rfl, rfl, rfl, hk, ha, hb, n, q⟩ =>
    unfold t__law_price
    walk_at "1"
    have hkx : k < xs.length := by omega
    obtain ⟨r, hr, hq⟩ := h3 k xs[k] rows[k] (List.getElem?_eq_getElem hkx) (List.getElem?_eq_getElem hk)
    refine ⟨xs, .ref r, h1, at_nat (by rw [List.getElem?_eq_getElem hkx, hr]), ?_⟩
    refine ⟨by decide, fun l hl => ?_⟩
    have s1 : Same H (upd H l (.lst waysV)) := same_new hl
    have g1 : upd H l (.lst waysV) l = some (.lst waysV) := upd_same
    have e1 : ([V.str "ab", .str "ac", .str "ba", .str "bc", .str "ca", .str "cb"] : List V) = waysV := rfl
    rw [e1]
    generalize upd H l (.lst waysV) = H1 at *
    have hap : pl a ++ pl b = wd [a, b] := wd_app [a] [b]
    refine ⟨tyL g1, ?_⟩
    refine ⟨by show 1 + 1 ≤ sizeLine; decide, ?_⟩
    rw [hap]
    refine (way_find (K := K) ha hb n g1 ?_).2
    have hr6 := ho.2.2 rows[k] (List.getElem_mem hk)
    have hw := wayI_lt ha hb n
    refine ⟨_, pV rows[k][wayI a b], hq.same s1, at_nat (by rw [List.getElem?_map, List.getElem?_eq_getElem (by omega)]; rfl), ?_⟩
    have e : prOf rows k a b = rows[k][wayI a b] := by
      unfold prOf
      rw [List.getElem?_eq_getElem hk]
      show (rows[k][wayI a b]?).getD none = _
      rw [List.getElem?_eq_getElem (by omega)]
      rfl
    rw [← e]
    exact q H1 s1
include F in
theorem read__law_behind (h : sp__law_behind K vs H Q E) : t__law_behind K E { nx := fun _ H' => Q .non H', rt := Q } (start ["_law_word_here", "_law_move"] vs) H := by
  match vs, h with
  | [_, _], ⟨ds, t, k, d, rfl, h60, rfl, hm, hk, q⟩ =>
    unfold t__law_behind
    have hsz : (wd ds).length ≤ sizeLine := Nat.le_trans (by rw [wd_length]; exact h60) (show 60 ≤ sizeLine by decide)
    have e1 : ((k : Int) + 1) = ((k + 1 : Nat) : Int) := by omega
    have la : (ds.take k).length = k := by rw [List.length_take]; omega
    walk_at "1"
    refine ⟨_, _, .inr hm, rfl, ?_⟩
    walk_at "1"
    refine ⟨hsz, ⟨_, .str (pl d), .inr hm, rfl, ?_⟩⟩
    rw [cut_to (by omega)]
    walk_at "1"
    refine ⟨Nat.le_trans (show _ ≤ 61 by rw [wd_length, la]; show k + 1 ≤ 61; omega) (by decide), ?_⟩
    refine ⟨_, _, .inr hm, rfl, ?_⟩
    walk_at "1"
    rw [e1, cut_from (by omega)]
    have hap : wd (ds.take k) ++ pl d = wd (ds.take k ++ [d]) := wd_app _ [d]
    rw [hap, wd_app]
    refine ⟨hsz, Nat.le_trans (show _ ≤ 200 by rw [wd_length, wd_length, List.length_append, la, List.length_drop, List.length_singleton]; omega) (by decide), ?_⟩
    have : ds.take k ++ [d] ++ ds.drop (k + 1) = ds.set k d := by
      rw [List.set_eq_take_append_cons_drop, if_pos (by omega), List.append_assoc]
      rfl
    rw [this]
    exact q
end
end U
namespace U
open PySem PySem.Spec PyProof.Rows L2

/-! ### a law's own list of allowed moves -/
/-- pairs of a move and its price -/
def Pms (K : PySem.W.Frag) (H : Hp) (rows : List (List (Option Int))) (ds : List Nat) (ts : List Addr) (ms : List (Nat × Nat)) : Prop := ts.length = ms.length ∧
  ∀ (i : Nat) (t : Addr) (m : Nat × Nat), ts[i]? = some t → ms[i]? = some m → ∃ u, SqT K H t [.ref u, pV (prOf rows m.1 (ds[m.1]?.getD 0) m.2)] ∧ Mv K H u m.1 m.2
section
variable {K : PySem.W.Frag} {H H' : Hp} {rows : List (List (Option Int))} {ds : List Nat} {ts : List Addr} {ms : List (Nat × Nat)}
theorem Pms.same (e : Same H H') (h : Pms K H rows ds ts ms) : Pms K H' rows ds ts ms := ⟨h.1, fun i t m z1 z2 => by
  obtain ⟨u, a, b⟩ := h.2 i t m z1 z2
  exact ⟨u, Same.sqT e a, Same.sqT e b⟩⟩
theorem pms_nil : Pms K H rows ds [] [] := ⟨rfl, fun i t m z => nomatch z⟩
theorem Pms.snoc {t u : Addr} {m : Nat × Nat} (h : Pms K H rows ds ts ms) (ht : SqT K H t [.ref u, pV (prOf rows m.1 (ds[m.1]?.getD 0) m.2)]) (hu : Mv K H u m.1 m.2) : Pms K H rows ds (ts ++ [t]) (ms ++ [m]) := by
  refine ⟨by simp [h.1], fun i w n z1 z2 => ?_⟩
  by_cases e : i < ts.length
  · rw [List.getElem?_append_left e] at z1
    rw [List.getElem?_append_left (by rw [← h.1]; exact e)] at z2
    exact h.2 i w n z1 z2
  · have e2 : i = ts.length := by
      have := (List.getElem?_eq_some_iff.mp z1).1
      simp at this
      omega
    subst e2
    rw [List.getElem?_append_right (Nat.le_refl _), Nat.sub_self] at z1
    rw [List.getElem?_append_right (by rw [h.1]; exact Nat.le_refl _), h.1, Nat.sub_self] at z2
    cases z1
    cases z2
    exact ⟨u, ht, hu⟩
end
def kvT (t : List (Nat × Nat)) : List (Key × V) := t.map fun q => (Sum.inr (pl q.1), V.int (q.2 : Nat))
theorem key_pl {a b : Nat} : decide ((Sum.inr (pl a) : Key) = Sum.inr (pl b)) = decide (a = b) := by
  rw [Bool.eq_iff_iff, decide_eq_true_iff, decide_eq_true_iff]
  exact ⟨fun h => pl_inj (Sum.inr.inj h), fun h => by rw [h]⟩
theorem kvT_put (t : List (Nat × Nat)) (d k : Nat) : putK (kvT t) (Sum.inr (pl d)) (.int (k : Nat)) = kvT (putT t d k) := by
  unfold putK putT kvT
  have e : ((t.map fun q => ((Sum.inr (pl q.1) : Key), V.int (q.2 : Nat))).any fun kv => decide (kv.1 = Sum.inr (pl d))) = t.any fun q => decide (q.1 = d) := by
    rw [List.any_map]
    congr 1
    funext q
    exact key_pl
  rw [e]
  cases (t.any fun q => decide (q.1 = d)) with
  | true =>
    rw [if_pos rfl, if_pos rfl, List.map_map, List.map_map]
    refine List.map_congr_left fun q _ => ?_
    show (if (Sum.inr (pl q.1) : Key) = Sum.inr (pl d) then _ else _) = _
    by_cases z : q.1 = d
    · simp [z]
    · have : ¬ (Sum.inr (pl q.1) : Key) = Sum.inr (pl d) := fun w => z (pl_inj (Sum.inr.inj w))
      simp [z, this]
  | false =>
    rw [if_neg (by decide), if_neg (by decide), List.map_append]
    rfl
/-- what the table tells of a place -/
theorem kvT_get {ds : List Nat} {n : Nat} {t : List (Nat × Nat)} (h : TopsT ds n t) (d : Nat) : (∃ j, (d, j) ∈ t ∧ valV (kvT t) (Sum.inr (pl d)) = some (.int (j : Nat)) ∧ ∀ i, (d, i) ∈ t → i = j) ∨ ((∀ j, (d, j) ∉ t) ∧ valV (kvT t) (Sum.inr (pl d)) = none) := by
  have e : valV (kvT t) (Sum.inr (pl d)) = (t.find? fun q => decide (q.1 = d)).map fun q => V.int (q.2 : Nat) := by
    unfold valV kvT
    rw [List.find?_map, Option.map_map]
    have : ((fun kv : Key × V => decide (kv.1 = Sum.inr (pl d))) ∘ fun q : Nat × Nat => ((Sum.inr (pl q.1) : Key), V.int (q.2 : Nat))) = fun q => decide (q.1 = d) := funext fun q => key_pl
    rw [this]
    rfl
  rw [e]
  cases f : t.find? fun q => decide (q.1 = d) with
  | none =>
    refine .inr ⟨fun j m => ?_, rfl⟩
    have := List.find?_eq_none.mp f _ m
    simp at this
  | some q =>
    have m := List.mem_of_find?_eq_some f
    have hq : q.1 = d := by
      have := List.find?_some f
      exact of_decide_eq_true this
    have m2 : (d, q.2) ∈ t := by rw [← hq]; exact m
    refine .inl ⟨q.2, m2, rfl, fun i hi => ?_⟩
    obtain ⟨a1, a2, a3⟩ := (h.2 d q.2).mp m2
    obtain ⟨b1, b2, b3⟩ := (h.2 d i).mp hi
    rcases Nat.lt_trichotomy i q.2 with z | z | z
    · exact absurd a2 (b3 _ z a1)
    · exact z
    · exact absurd b2 (a3 _ z b1)
end U
namespace U
open PySem PySem.Spec PyProof.Rows L2

def sp__law_moves (K : PySem.W.Frag) : Sp := sp2 fun v x H Q _ => ∃ rows ds, RowV K H v rows ∧ RowsOk rows ∧ Arr rows.length x ds ∧ ∀ l ts H', Same H H' → H' l = some (.lst (ts.map V.ref)) → Pms K H' rows ds ts (alwL rows ds) → Q (.ref l) H'
def t__law_moves (K : PySem.W.Frag) (E : XK) : TS := (tSeq (tAsg tDNewK (gName 2)) (tSeq (tFor (iRng1 (tCons (tCB (uLen K) (tCons (tVar 1) tNil)) tNil)) (gName 3) (tAsg (tVar 3) (gSub (tVar 2) (tOp (uIx K) (tVar 1) (tVar 3)) rSetD))) (tSeq (tAsg (tLst tNil) (gName 4)) (tSeq (tFor (iSeq K (tSortVals (tVar 2))) (gName 3) (tFor (iStr (tC (.str "abc"))) (gName 5) (tIfS (tAnd (tTest (tOp (uNe K) (tVar 5) (tOp (uIx K) (tVar 1) (tVar 3)))) (tTest (tOp uLt (tDGet2 (tVar 2) (tVar 5) (tUn (rU fun i => .int (-i)) (tC (.int 1)))) (tVar 3)))) (tSeq (tAsg (tFn (sp__law_price K) E (tCons (tVar 0) (tCons (tVar 3) (tCons (tOp (uIx K) (tVar 1) (tVar 3)) (tCons (tVar 5) tNil))))) (gName 6)) (tAsg (tOp uAdd (tVar 4) (tOp uMul (tLst (tCons (tTup (tCons (tTup (tCons (tVar 3) (tCons (tVar 5) tNil))) (tCons (tVar 6) tNil))) tNil)) (tCB rInt (tCons (tOp uNis (tVar 6) (tC .non)) tNil)))) (gName 4))) tNext))) (tRet (tVar 4))))))
theorem putT_len (t : List (Nat × Nat)) (d k : Nat) : (putT t d k).length ≤ t.length + 1 := by
  unfold putT
  split
  · rw [List.length_map]; omega
  · simp
def topP (rows : List (List (Option Int))) (ds : List Nat) (m : Nat × Nat) : Bool := decide (m.2 ≠ ds[m.1]?.getD 0) && (bare ds m.1 m.2 && (prOf rows m.1 (ds[m.1]?.getD 0) m.2).isSome)
section
variable {K : PySem.W.Frag} {H : Hp} {Q : VK} {E : XK} {rows : List (List (Option Int))} {ds : List Nat} {D : Ends} {T L : Addr}
local macro_rules | `(tactic| walk_at "w") => `(tactic| try simp only [turnE, lcT, Snoc, tRet, tRetN, tAndV, tOrV, tNotV, tCB, tCons, tVar, tNil, tC, tOp, tSeq, tAsg, gName, gSub, tIfS, tDrop, tFn, tTup, tLst, tNext, tB, tTest, tNot, tAnd, tOr, tIf, tChain, tUn, rU, tFld, tPart, tNoPart, L2.tSl, tBM, tPar, tPar3, tTruth, tDNewK,
  L2.start, List.map_cons, List.map_nil, List.length_cons, List.length_nil, List.replicate_succ, List.replicate_zero, List.append_nil, List.nil_append, List.cons_append, List.singleton_append, Nat.sub_self, Nat.zero_add, Nat.reduceAdd, Nat.reduceSub,
  List.getElem?_cons_zero, List.getElem?_cons_succ, List.set_cons_zero, List.set_cons_succ, Option.some.injEq, exists_eq_left, exists_eq_left', V.int.injEq, V.bl.injEq, V.str.injEq, V.ref.injEq,
  uAdd_int, uAdd_str, uSub_int, uMul_int, uMul_str, uDiv_int, uMod_int, uPow_int, uLt_int, uLe_int, uGt_int, uGe_int, uIs_non, uNis_non, uIs_bl, uNis_bl, sp1, sp2, sp3, sp4, uEq_int, uEq_str, uNe_int, uNe_str, uSl_str, uLen_str, decide_eq_true_eq])
local macro_rules | `(tactic| walk_at "1") => `(tactic| try simp only [turnE, lcT, Snoc, tRet, tRetN, tAndV, tOrV, tNotV, tCB, tCons, tVar, tNil, tC, tOp, tAsg, gName, gSub, tIfS, tDrop, tFn, tTup, tLst, tNext, tB, tTest, tNot, tAnd, tOr, tIf, tChain, tUn, rU, tFld, tPart, tNoPart, L2.tSl, tBM, tPar, tPar3, tTruth, tDNewK,
  L2.start, List.map_cons, List.map_nil, List.length_cons, List.length_nil, List.replicate_succ, List.replicate_zero, List.append_nil, List.nil_append, List.cons_append, List.singleton_append, Nat.sub_self, Nat.zero_add, Nat.reduceAdd, Nat.reduceSub,
  List.getElem?_cons_zero, List.getElem?_cons_succ, List.set_cons_zero, List.set_cons_succ, Option.some.injEq, exists_eq_left, exists_eq_left', V.int.injEq, V.bl.injEq, V.str.injEq, V.ref.injEq,
  uAdd_int, uAdd_str, uSub_int, uMul_int, uMul_str, uDiv_int, uMod_int, uPow_int, uLt_int, uLe_int, uGt_int, uGe_int, uIs_non, uNis_non, uIs_bl, uNis_bl, sp1, sp2, sp3, sp4, uEq_int, uEq_str, uNe_int, uNe_str, uSl_str, uLen_str, decide_eq_true_eq])
local macro_rules | `(tactic| walk_at "s") => `(tactic| ((try dsimp only [turnE]); with_reducible refine seq_ ?_))

theorem moves_s1 {x0 x3 x4 x5 x6 : Option V} (h60 : ds.length ≤ 60) (hT : H T = some (.dK []))
    (q : ∀ t H' x3, Off T H H' → H' T = some (.dK (kvT t)) → TopsT ds ds.length t → D.nx [x0, some (.str (wd ds)), some (.ref T), x3, x4, x5, x6] H') :
    (tFor (iRng1 (tCons (tCB (uLen K) (tCons (tVar 1) tNil)) tNil)) (gName 3) (tAsg (tVar 3) (gSub (tVar 2) (tOp (uIx K) (tVar 1) (tVar 3)) rSetD))) D [x0, some (.str (wd ds)), some (.ref T), x3, x4, x5, x6] H := by
  have hsz : (wd ds).length ≤ sizeLine := Nat.le_trans (by rw [wd_length]; exact h60) (show 60 ≤ sizeLine by decide)
  refine for_rng1 (n := ds.length) (fun R r => by
    walk_at "1"
    exact ⟨hsz, by rw [wd_length]; exact r⟩) (by omega) (fun i σ H' => ∃ t x3, σ = [x0, some (.str (wd ds)), some (.ref T), x3, x4, x5, x6] ∧ TopsT ds i t ∧ t.length ≤ i ∧ H' T = some (.dK (kvT t)) ∧ Off T H H')
    ⟨[], _, rfl, topsT_nil ds, Nat.le_refl _, hT, Off.refl⟩ ?_ ?_
  · rintro i σ H1 hi ⟨t, x3, rfl, ht, hl, h1, o1⟩
    simp only [gName, List.set_cons_zero, List.set_cons_succ]
    walk_at "1"
    refine str_at h60 hi ?_
    have hd : ds[i]? = some (ds[i]?.getD 0) := by rw [List.getElem?_eq_getElem hi]; rfl
    generalize ds[i]?.getD 0 = d at *
    have hlen : (kvT t).length < sizeLine := Nat.lt_of_le_of_lt (show (kvT t).length ≤ 60 by unfold kvT; rw [List.length_map]; omega) (by decide)
    refine ⟨T, _, rfl, DPut.k (k := Sum.inr (pl d)) h1 hlen, ?_⟩
    rw [kvT_put]
    exact ⟨_, _, rfl, topsT_put ht hd, Nat.le_trans (putT_len t d i) (by omega), upd_same, Off.trans o1 off_upd⟩
  · rintro σ H1 ⟨t, x3, rfl, ht, hl, h1, o1⟩
    exact q t H1 x3 o1 h1 ht
theorem moves_turn {v : V} {k d : Nat} {t : List (Nat × Nat)} {ts : List Addr} {ms : List (Nat × Nat)} {x6 : Option V} (hv : RowV K H v rows) (ho : RowsOk rows) (ha : ds.length = rows.length) (h3 : D3 ds) (h60 : ds.length ≤ 60)
    (hT : H T = some (.dK (kvT t))) (ht : TopsT ds ds.length t) (hk : k < ds.length) (hd : d < 3) (hL : H L = some (.lst (ts.map V.ref))) (hp : Pms K H rows ds ts ms) (hlen : ts.length ≤ 1000)
    (q : ∀ L' ts' H' x6, Same H H' → H' L' = some (.lst (ts'.map V.ref)) → Pms K H' rows ds ts' (ms ++ [(k, d)].filter (topP rows ds)) → D.nx [some v, some (.str (wd ds)), some (.ref T), some (.int k), some (.ref L'), some (.str (pl d)), x6] H') :
    (tIfS (tAnd (tTest (tOp (uNe K) (tVar 5) (tOp (uIx K) (tVar 1) (tVar 3)))) (tTest (tOp uLt (tDGet2 (tVar 2) (tVar 5) (tUn (rU fun i => .int (-i)) (tC (.int 1)))) (tVar 3)))) (tSeq (tAsg (tFn (sp__law_price K) E (tCons (tVar 0) (tCons (tVar 3) (tCons (tOp (uIx K) (tVar 1) (tVar 3)) (tCons (tVar 5) tNil))))) (gName 6)) (tAsg (tOp uAdd (tVar 4) (tOp uMul (tLst (tCons (tTup (tCons (tTup (tCons (tVar 3) (tCons (tVar 5) tNil))) (tCons (tVar 6) tNil))) tNil)) (tCB rInt (tCons (tOp uNis (tVar 6) (tC .non)) tNil)))) (gName 4))) tNext) D [some v, some (.str (wd ds)), some (.ref T), some (.int k), some (.ref L), some (.str (pl d)), x6] H := by
  have hc3 := d3_at h3 k
  have stay : topP rows ds (k, d) = false → D.nx [some v, some (.str (wd ds)), some (.ref T), some (.int k), some (.ref L), some (.str (pl d)), x6] H := fun z =>
    q L ts H x6 (Same.refl H) hL (by rw [List.filter_cons_of_neg (by rw [z]; decide)]; simpa using hp)
  walk_at "1"
  refine str_at h60 hk ?_
  walk_at "1"
  by_cases n : d = ds[k]?.getD 0
  · rw [if_neg (by simp [n])]
    exact stay (by unfold topP; simp [n])
  · have nn : ¬ pl d = pl (ds[k]?.getD 0) := fun z => n (pl_inj z)
    rw [if_pos (by simp [nn])]
    simp only [tDGet2]
    walk_at "1"
    refine ⟨.inl ⟨_, .inl hT⟩, _, DGet.k (k := Sum.inr (pl d)) hT, ?_⟩
    have hb := topsT_bare ht k d hk (fun z => n z.symm)
    have low : ∃ i : Int, (valV (kvT t) (Sum.inr (pl d))).getD (.int (-1)) = .int i ∧ (i < k ↔ bare ds k d = true) := by
      rcases kvT_get ht d with ⟨j, m, e, u⟩ | ⟨m, e⟩
      · refine ⟨j, by rw [e]; rfl, ?_⟩
        rw [hb]
        exact ⟨fun z i hi => by rw [u i hi]; omega, fun z => by have := z j m; omega⟩
      · refine ⟨-1, by rw [e]; rfl, ?_⟩
        rw [hb]
        exact ⟨fun _ i hi => absurd hi (m i), fun _ => by omega⟩
    obtain ⟨i, hi, lt⟩ := low
    rw [hi]
    walk_at "1"
    by_cases b : i < (k : Int)
    · rw [if_pos b]
      walk_at "s"
      walk_at "1"
      refine str_at h60 hk ?_
      refine ⟨rows, k, _, d, hv, ho, rfl, rfl, rfl, by omega, hc3, hd, fun z => n z.symm, fun H1 s1 => ?_⟩
      walk_at "1"
      refine ⟨by decide, fun u hu => ⟨by decide, fun w hw => ⟨by decide, fun R hR => ?_⟩⟩⟩
      generalize hHu : upd H1 u (.tup [.int k, .str (pl d)]) = Hu at *
      generalize hHw : upd Hu w (.tup [.ref u, pV (prOf rows k (ds[k]?.getD 0) d)]) = Hw at *
      generalize hHR : upd Hw R (.lst [.ref w]) = HR at *
      have su : Same H1 Hu := hHu ▸ same_new hu
      have sw : Same Hu Hw := hHw ▸ same_new hw
      have sR : Same Hw HR := hHR ▸ same_new hR
      have gu : Hu u = some (.tup [.int k, .str (pl d)]) := by rw [← hHu]; exact upd_same
      have gw : Hw w = some (.tup [.ref u, pV (prOf rows k (ds[k]?.getD 0) d)]) := by rw [← hHw]; exact upd_same
      have gR : HR R = some (.lst [.ref w]) := by rw [← hHR]; exact upd_same
      have sAll : Same H HR := ((s1.trans su).trans sw).trans sR
      have bt : bare ds k d = true := lt.mp b
      walk_at "1"
      rw [pV_none]
      refine .inr ⟨_, rfl, ?_⟩
      refine ⟨R, _, [.ref w], rfl, rfl, gR, by split <;> decide, by split <;> decide, ?_, fun M hM => ?_⟩
      · have : ((if (!(prOf rows k (ds[k]?.getD 0) d).isNone) = true then (1 : Int) else 0).toNat) ≤ 1 := by split <;> decide
        exact Nat.le_trans (show _ ≤ 1 by rw [List.length_singleton]; omega) (by decide)
      · generalize hys : (List.replicate (if (!(prOf rows k (ds[k]?.getD 0) d).isNone) = true then (1 : Int) else 0).toNat [V.ref w]).flatten = ys
        have sM : Same HR (upd HR M (.lst ys)) := same_new hM
        have gM : upd HR M (.lst ys) M = some (.lst ys) := upd_same
        generalize upd HR M (.lst ys) = HM at *
        have hL2 := sM _ _ (sAll _ _ hL)
        have yl : ys.length ≤ 1 := by
          rw [← hys]
          split <;> simp
        refine ⟨L, M, ts.map V.ref, ys, rfl, rfl, hL2, gM, Nat.le_trans (show _ ≤ 1001 by rw [List.length_map]; omega) (by decide), fun N hN => ?_⟩
        have sN : Same HM (upd HM N (.lst (ts.map V.ref ++ ys))) := same_new hN
        have gN : upd HM N (.lst (ts.map V.ref ++ ys)) N = some (.lst (ts.map V.ref ++ ys)) := upd_same
        generalize upd HM N (.lst (ts.map V.ref ++ ys)) = HN at *
        have sF : Same H HN := (sAll.trans sM).trans sN
        cases hpr : prOf rows k (ds[k]?.getD 0) d with
        | none =>
          have e0 : ys = [] := by rw [← hys, hpr]; rfl
          refine q N ts HN _ sF (by rw [gN, e0, List.append_nil]) ?_
          have z : topP rows ds (k, d) = false := by
            unfold topP
            simp [hpr]
          rw [List.filter_cons_of_neg (by rw [z]; decide)]
          simpa using hp.same sF
        | some pr =>
          have e1 : ys = [.ref w] := by rw [← hys, hpr]; rfl
          refine q N (ts ++ [w]) HN _ sF (by rw [gN, e1]; simp) ?_
          have z : topP rows ds (k, d) = true := by
            unfold topP
            simp [hpr, bt, n]
          rw [List.filter_cons_of_pos z]
          refine (hp.same sF).snoc (m := (k, d)) (u := u) ?_ ?_
          · refine Same.sqT ((sR.trans sM).trans sN) (.inl (.inl ?_))
            exact gw
          · exact Same.sqT (((sw.trans sR).trans sM).trans sN) (.inl (.inl gu))
    · rw [if_neg b]
      refine stay ?_
      have : bare ds k d = false := by
        cases z : bare ds k d with
        | false => rfl
        | true => exact absurd (lt.mpr z) b
      unfold topP
      simp [this]
end
end U
namespace U
open PySem PySem.Spec PyProof.Rows L2

section
variable {K : PySem.W.Frag} (F : KF K) {vs : List V} {H : Hp} {Q : VK} {E : XK}
local macro_rules | `(tactic| walk_at "w") => `(tactic| try simp only [turnE, lcT, Snoc, tRet, tRetN, tAndV, tOrV, tNotV, tCB, tCons, tVar, tNil, tC, tOp, tSeq, tAsg, gName, gSub, tIfS, tDrop, tFn, tTup, tLst, tNext, tB, tTest, tNot, tAnd, tOr, tIf, tChain, tUn, rU, tFld, tPart, tNoPart, L2.tSl, tBM, tPar, tPar3, tTruth, tDNewK,
  L2.start, List.map_cons, List.map_nil, List.length_cons, List.length_nil, List.replicate_succ, List.replicate_zero, List.append_nil, List.nil_append, List.cons_append, List.singleton_append, Nat.sub_self, Nat.zero_add, Nat.reduceAdd, Nat.reduceSub,
  List.getElem?_cons_zero, List.getElem?_cons_succ, List.set_cons_zero, List.set_cons_succ, Option.some.injEq, exists_eq_left, exists_eq_left', V.int.injEq, V.bl.injEq, V.str.injEq, V.ref.injEq,
  uAdd_int, uAdd_str, uSub_int, uMul_int, uMul_str, uDiv_int, uMod_int, uPow_int, uLt_int, uLe_int, uGt_int, uGe_int, uIs_non, uNis_non, uIs_bl, uNis_bl, sp1, sp2, sp3, sp4, uEq_int, uEq_str, uNe_int, uNe_str, uSl_str, uLen_str, decide_eq_true_eq])
local macro_rules | `(tactic| walk_at "1") => `(tactic| try simp only [turnE, lcT, Snoc, tRet, tRetN, tAndV, tOrV, tNotV, tCB, tCons, tVar, tNil, tC, tOp, tAsg, gName, gSub, tIfS, tDrop, tFn, tTup, tLst, tNext, tB, tTest, tNot, tAnd, tOr, tIf, tChain, tUn, rU, tFld, tPart, tNoPart, L2.tSl, tBM, tPar, tPar3, tTruth, tDNewK,
  L2.start, List.map_cons, List.map_nil, List.length_cons, List.length_nil, List.replicate_succ, List.replicate_zero, List.append_nil, List.nil_append, List.cons_append, List.singleton_append, Nat.sub_self, Nat.zero_add, Nat.reduceAdd, Nat.reduceSub,
  List.getElem?_cons_zero, List.getElem?_cons_succ, List.set_cons_zero, List.set_cons_succ, Option.some.injEq, exists_eq_left, exists_eq_left', V.int.injEq, V.bl.injEq, V.str.injEq, V.ref.injEq,
  uAdd_int, uAdd_str, uSub_int, uMul_int, uMul_str, uDiv_int, uMod_int, uPow_int, uLt_int, uLe_int, uGt_int, uGe_int, uIs_non, uNis_non, uIs_bl, uNis_bl, sp1, sp2, sp3, sp4, uEq_int, uEq_str, uNe_int, uNe_str, uSl_str, uLen_str, decide_eq_true_eq])
local macro_rules | `(tactic| walk_at "s") => `(tactic| ((try dsimp only [turnE]); with_reducible refine seq_ ?_))

theorem laps_of {J : It} {xs : List V} {G : Hp → Prop} (P : Plain J xs G) {g : TG} {tb : TS} {D : Ends} {σ : L2.St} {H : Hp} (Pv : Nat → L2.St → Hp → Prop) (h0 : Pv 0 σ H) (hG : ∀ i τ H', Pv i τ H' → G H')
    (hs : ∀ i x τ H, xs[i]? = some x → Pv i τ H → g x τ H fun ρ H2 => tb (turnE D (Pv (i + 1))) ρ H2) (hd : ∀ τ H, Pv xs.length τ H → D.nx τ H) : tFor (fun _ H' R => R J H') g tb D σ H :=
  for_plain P (wi := fun _ H' R => R J H') (fun R r => r) Pv h0 hG hs hd
theorem topMv_take {rows : List (List (Option Int))} {ds : List Nat} {k j d : Nat} (h : [0, 1, 2][j]? = some d) : ([(k, 0), (k, 1), (k, 2)].take (j + 1)).filter (topP rows ds) = ([(k, 0), (k, 1), (k, 2)].take j).filter (topP rows ds) ++ [(k, d)].filter (topP rows ds) := by
  rw [← List.filter_append]
  congr 1
  have lt := (List.getElem?_eq_some_iff.mp h).1
  match j, lt, h with
  | 0, _, h => cases h; rfl
  | 1, _, h => cases h; rfl
  | 2, _, h => cases h; rfl
include F in
theorem read__law_moves (h : sp__law_moves K vs H Q E) : t__law_moves K E { nx := fun _ H' => Q .non H', rt := Q } (start ["_law_plain_here", "_law_word_here", "_law_tops", "_law_crate", "_law_found", "_law_place", "_law_price_here"] vs) H := by
  match vs, h with
  | [v, _], ⟨rows, ds, hv, ho, ha, q⟩ =>
    obtain ⟨rfl, a1, a2⟩ := id ha
    have h60 : ds.length ≤ 60 := by have := ho.2.1; omega
    unfold t__law_moves
    walk_at "s"
    walk_at "1"
    intro T hT0
    have hT1 : upd H T (.dK []) T = some (.dK []) := upd_same
    have s1 : Same H (upd H T (.dK [])) := same_new hT0
    generalize upd H T (.dK []) = H1 at *
    walk_at "s"
    refine moves_s1 h60 hT1 fun t H2 x3 o2 hT2 ht => ?_
    have s2 : Same H H2 := Off.same (Off.trans (Same.off s1) o2) hT0
    walk_at "s"
    walk_at "1"
    refine ⟨by decide, fun L hL0 => ?_⟩
    have s3 : Same H2 (upd H2 L (.lst [])) := same_new hL0
    have hL3 : upd H2 L (.lst []) L = some (.lst []) := upd_same
    have hT3 := s3 _ _ hT2
    generalize upd H2 L (.lst []) = H3 at *
    have s03 := s2.trans s3
    walk_at "s"
    have hvals : (kvT t).map (·.2) = (t.map fun q => (q.2 : Int)).map V.int := by
      unfold kvT
      simp only [List.map_map]
      rfl
    have hperm : (t.map (·.2)).Perm (topsL ds) := by
      have nd : (topsL ds).Nodup := List.Nodup.sublist List.filter_sublist List.nodup_range
      exact (List.perm_ext_iff_of_nodup (topsT_nodup ht) nd).mpr (topsT_mem ht)
    have hlt : t.length ≤ 60 := by
      have e1 := hperm.length_eq
      rw [List.length_map] at e1
      have e2 : (topsL ds).length ≤ ds.length := by
        unfold topsL
        exact Nat.le_trans (List.length_filter_le _ _) (by simp)
      omega
    have sorted : ∀ R : VK, (∀ S H4, H3 S = none → H4 = upd H3 S (.lst ((topsL ds).map fun (k : Nat) => V.int (k : Int))) → R (.ref S) H4) → tSortVals (tVar 2) [some v, some (.str (wd ds)), some (.ref T), x3, some (.ref L), none, none] H3 R := fun R r => by
      refine ⟨_, rfl, T, kvT t, t.map fun q => (q.2 : Int), rfl, hT3, hvals, by rw [List.length_map]; omega, fun ys S hS hp hs => ?_⟩
      have e := tops_sorted ht (ys := ys) (by rw [List.map_map]; exact hp) hs
      refine r S _ hS ?_
      rw [e, List.map_map]
      rfl
    have body : ∀ S H4, H3 S = none → H4 = upd H3 S (.lst ((topsL ds).map fun (k : Nat) => V.int (k : Int))) →
        tFor (fun _ H' R => R (Itl K S) H') (gName 3) (tFor (iStr (tC (.str "abc"))) (gName 5) (tIfS (tAnd (tTest (tOp (uNe K) (tVar 5) (tOp (uIx K) (tVar 1) (tVar 3)))) (tTest (tOp uLt (tDGet2 (tVar 2) (tVar 5) (tUn (rU fun i => .int (-i)) (tC (.int 1)))) (tVar 3)))) (tSeq (tAsg (tFn (sp__law_price K) E (tCons (tVar 0) (tCons (tVar 3) (tCons (tOp (uIx K) (tVar 1) (tVar 3)) (tCons (tVar 5) tNil))))) (gName 6)) (tAsg (tOp uAdd (tVar 4) (tOp uMul (tLst (tCons (tTup (tCons (tTup (tCons (tVar 3) (tCons (tVar 5) tNil))) (tCons (tVar 6) tNil))) tNil)) (tCB rInt (tCons (tOp uNis (tVar 6) (tC .non)) tNil)))) (gName 4))) tNext)) { nx := tRet (tVar 4) { nx := fun _ H' => Q .non H', rt := Q }, rt := Q } [some v, some (.str (wd ds)), some (.ref T), x3, some (.ref L), none, none] H4 := fun S H4 hS e4 => by
      have s4 : Same H3 H4 := e4 ▸ same_new hS
      have hS4 : H4 S = some (.lst ((topsL ds).map fun (k : Nat) => V.int (k : Int))) := by rw [e4]; exact upd_same
      have s04 := s03.trans s4
      refine laps_of (plain_L (xs := (topsL ds).map fun (k : Nat) => V.int (k : Int))) (fun i τ H' => ∃ x3 L x5 x6 ts, τ = [some v, some (.str (wd ds)), some (.ref T), x3, some (.ref L), x5, x6] ∧ Same H4 H' ∧ H' L = some (.lst (ts.map V.ref)) ∧ Pms K H' rows ds ts (((topsL ds).take i).flatMap (topMv rows ds)) ∧ ts.length ≤ 3 * i)
        ⟨_, L, _, _, [], rfl, Same.refl _, s4 _ _ hL3, pms_nil, Nat.le_refl _⟩ (fun i τ H' ⟨_, _, _, _, _, _, z, _⟩ => .inl (.inl (z _ _ hS4))) ?_ ?_
      · rintro i x τ H5 hx ⟨y3, L1, y5, y6, ts, rfl, s5, hL5, hp5, hl5⟩
        rw [List.getElem?_map] at hx
        obtain ⟨k, hk, rfl⟩ := Option.map_eq_some_iff.mp hx
        have hkm : k ∈ topsL ds := List.mem_of_getElem? hk
        have hkn : k < ds.length := List.mem_range.mp (List.mem_filter.mp hkm).1
        have hi : i < 60 := by
          have := (List.getElem?_eq_some_iff.mp hk).1
          have e1 := hperm.length_eq
          rw [List.length_map] at e1
          omega
        have eflat : ((topsL ds).take (i + 1)).flatMap (topMv rows ds) = ((topsL ds).take i).flatMap (topMv rows ds) ++ topMv rows ds k := by
          rw [List.take_succ, hk, List.flatMap_append]
          simp
        generalize ((topsL ds).take i).flatMap (topMv rows ds) = A at *
        simp only [gName, List.set_cons_zero, List.set_cons_succ]
        have eabc : ("abc" : Str) = wd [0, 1, 2] := by decide
        refine for_strL (z := wd [0, 1, 2]) (fun R r => eabc ▸ r) (fun j τ H' => ∃ L x5 x6 ts, τ = [some v, some (.str (wd ds)), some (.ref T), some (.int k), some (.ref L), x5, x6] ∧ Same H4 H' ∧ H' L = some (.lst (ts.map V.ref)) ∧ Pms K H' rows ds ts (A ++ ([(k, 0), (k, 1), (k, 2)].take j).filter (topP rows ds)) ∧ ts.length ≤ 3 * i + j)
          ⟨L1, _, _, ts, rfl, s5, hL5, by simpa using hp5, by omega⟩ ?_ ?_
        · rintro j x τ H6 hj ⟨L2, z5, z6, us, rfl, s6, hL6, hp6, hl6⟩
          obtain ⟨d, hd0, rfl⟩ := strL_get hj
          have hd : d < 3 := by
            have := List.mem_of_getElem? hd0
            simp at this
            omega
          have hj3 : j < 3 := (List.getElem?_eq_some_iff.mp hd0).1
          simp only [gName, List.set_cons_zero, List.set_cons_succ]
          have s46 := s4.trans s6
          refine moves_turn (hv.same (s04.trans s6)) ho a1 a2 h60 (s46 _ _ hT3) ht hkn hd hL6 hp6 (by omega) fun L3 ws H7 y6 s7 hL7 hp7 => ?_
          refine ⟨L3, _, _, ws, rfl, s6.trans s7, hL7, ?_, ?_⟩
          · rw [topMv_take hd0, ← List.append_assoc]
            exact hp7
          · rw [hp7.1, List.length_append, ← hp6.1]
            have : ([(k, d)].filter (topP rows ds)).length ≤ 1 := Nat.le_trans (List.length_filter_le _ _) (by simp)
            omega
        · rintro τ H6 ⟨L2, z5, z6, us, rfl, s6, hL6, hp6, hl6⟩
          have e3 : (strL (wd [0, 1, 2])).length = 3 := by rw [strL_wd]; rfl
          rw [e3] at hp6 hl6
          refine ⟨_, L2, _, _, us, rfl, s6, hL6, ?_, by omega⟩
          rw [eflat]
          exact hp6
      · rintro τ H5 ⟨y3, L1, y5, y6, ts, rfl, s5, hL5, hp5, hl5⟩
        walk_at "1"
        have e5 : ((topsL ds).take ((topsL ds).map fun (k : Nat) => V.int (k : Int)).length) = topsL ds := by rw [List.length_map, List.take_length]
        rw [e5, ← alwL_tops a2 a1] at hp5
        exact q L1 ts H5 (s04.trans s5) hL5 hp5
    exact .inl (sorted _ fun S H4 hS e4 => ⟨S, rfl, ⟨_, .inl (.inl (e4 ▸ upd_same))⟩, body S H4 hS e4⟩)
end
end U
namespace U
open PySem PySem.Spec PyProof.Rows L2

/-! ### moves and prices as data -/
def mvD (m : Nat × Nat) : PyData := .tuple [.int (m.1 : Nat), .str (pl m.2)]
def prD : Option Int → PyData
  | none => .none
  | some i => .int i
theorem mvD_eqv (a b : Nat × Nat) : PyData.eqv (mvD a) (mvD b) = decide (a = b) := by
  show PyData.eqvAll [.int (a.1 : Nat), .str (pl a.2)] [.int (b.1 : Nat), .str (pl b.2)] = _
  simp only [PyData.eqvAll, PyData.eqv, Bool.and_true]
  rw [Bool.eq_iff_iff, Bool.and_eq_true, beq_iff_eq, beq_iff_eq, decide_eq_true_iff]
  constructor
  · rintro ⟨h1, h2⟩
    exact Prod.ext (by omega) (pl_inj h2)
  · rintro rfl
    exact ⟨rfl, rfl⟩
theorem pl_ok {d : Nat} (h : d < 3) : PyData.strOk (pl d) = true := by
  match d, h with
  | 0, _ => decide +kernel
  | 1, _ => decide +kernel
  | 2, _ => decide +kernel
theorem mvD_shaped {m : Nat × Nat} (h : m.2 < 3) : SeqAt.shaped (mvD m) = true := by
  simp [mvD, SeqAt.shaped, PyData.canLay0, PyData.canLayAll0, PyData.depth, PyData.depthAll, pl_ok h]
theorem mvsD_shaped {ms : List (Nat × Nat)} (h3 : ∀ m ∈ ms, m.2 < 3) : SeqAt.shaped (.list (ms.map mvD)) = true := by
  have h1 : ∀ l : List (Nat × Nat), (∀ m ∈ l, m.2 < 3) → PyData.canLayAll0 (l.map mvD) = true := by
    intro l
    induction l with
    | nil => intro _; rfl
    | cons a r ih =>
      intro h
      have i1 := ih fun m hm => h m (List.mem_cons_of_mem _ hm)
      have i2 := pl_ok (h a List.mem_cons_self)
      simp [mvD, PyData.canLayAll0, PyData.canLay0, i2] at i1 ⊢
      exact i1
  have h2 : ∀ l : List (Nat × Nat), PyData.depthAll (l.map mvD) ≤ 1 := by
    intro l
    induction l with
    | nil => exact Nat.zero_le _
    | cons a r ih =>
      show max (mvD a).depth (PyData.depthAll (r.map mvD)) ≤ 1
      have : (mvD a).depth = 1 := by simp [mvD, PyData.depth, PyData.depthAll]
      omega
  have d1 := h2 ms
  have d2 : (PyData.list (ms.map mvD)).depth ≤ 64 := by
    rw [PyData.depth]
    omega
  unfold SeqAt.shaped
  rw [PyData.canLay0, h1 ms h3, decide_eq_true d2]
  rfl
theorem mvsD_eqv (as bs : List (Nat × Nat)) : PyData.eqv (.list (as.map mvD)) (.list (bs.map mvD)) = decide (as = bs) := by
  rw [PyData.eqv]
  induction as generalizing bs with
  | nil => cases bs <;> simp [PyData.eqvAll]
  | cons a r ih =>
    cases bs with
    | nil => simp [PyData.eqvAll]
    | cons b t =>
      simp only [List.map_cons, PyData.eqvAll, ih, mvD_eqv]
      rw [Bool.eq_iff_iff]
      simp
section
variable {K : PySem.W.Frag} {H : Hp} {Q : VK} {t u l : Addr} {m n : Nat × Nat} {ts : List Addr} {ms : List (Nat × Nat)}
theorem dp_mv (h : Mv K H t m.1 m.2) : Dp K H (.ref t) (mvD m) := .tup h (.cons (.int _) (.cons (.str _) .nil))
theorem dp_mvs (hl : SqL K H l (ts.map V.ref)) (h : Mvs K H ts ms) : Dp K H (.ref l) (.list (ms.map mvD)) := by
  refine .lst hl ?_
  obtain ⟨h1, h2⟩ := h
  clear hl
  induction ts generalizing ms with
  | nil =>
    cases ms with
    | nil => exact .nil
    | cons a r => cases h1
  | cons a r ih =>
    cases ms with
    | nil => cases h1
    | cons b q => exact .cons (dp_mv (h2 0 a b rfl rfl)) (ih (by simpa using h1) fun i x y z1 z2 => h2 (i + 1) x y (by simpa using z1) (by simpa using z2))
theorem eq_mv (ht : Mv K H t m.1 m.2) (hu : Mv K H u n.1 n.2) (h3 : m.2 < 3) (h4 : n.2 < 3) (q : Q (.bl (decide (m = n))) H) : uEq K (.ref t) (.ref u) H Q := ⟨_, _, dp_mv ht, dp_mv hu, mvD_shaped h3, mvD_shaped h4, by rw [mvD_eqv]; exact q⟩
theorem ne_mv (ht : Mv K H t m.1 m.2) (hu : Mv K H u n.1 n.2) (h3 : m.2 < 3) (h4 : n.2 < 3) (q : Q (.bl (!decide (m = n))) H) : uNe K (.ref t) (.ref u) H Q := ⟨_, _, dp_mv ht, dp_mv hu, mvD_shaped h3, mvD_shaped h4, by rw [mvD_eqv]; exact q⟩
theorem in_mvs (ht : Mv K H t m.1 m.2) (h3 : m.2 < 3) (hl : SqL K H l (ts.map V.ref)) (h : Mvs K H ts ms) (h4 : ∀ m ∈ ms, m.2 < 3) (q : Q (.bl (decide (m ∈ ms))) H) : rInD K (.ref t) (.ref l) H Q := by
  refine ⟨_, _, dp_mv ht, dp_mvs hl h, mvD_shaped h3, mvsD_shaped h4, ?_⟩
  have : ((ms.map mvD).any fun z => PyData.eqv z (mvD m)) = decide (m ∈ ms) := by
    rw [List.any_map, Bool.eq_iff_iff, List.any_eq_true, decide_eq_true_iff]
    constructor
    · rintro ⟨x, h1, h2⟩
      have h2 : PyData.eqv (mvD x) (mvD m) = true := h2
      rw [mvD_eqv] at h2
      exact of_decide_eq_true h2 ▸ h1
    · intro h1
      exact ⟨m, h1, by show PyData.eqv (mvD m) (mvD m) = true; rw [mvD_eqv]; exact decide_eq_true rfl⟩
  rw [this]
  exact q
theorem ne_mvs {l' : Addr} {ts' : List Addr} {ms' : List (Nat × Nat)} (hl : SqL K H l (ts.map V.ref)) (h : Mvs K H ts ms) (h3 : ∀ m ∈ ms, m.2 < 3) (hl' : SqL K H l' (ts'.map V.ref)) (h' : Mvs K H ts' ms') (h4 : ∀ m ∈ ms', m.2 < 3) (q : Q (.bl (!decide (ms = ms'))) H) : uNe K (.ref l) (.ref l') H Q :=
  ⟨_, _, dp_mvs hl h, dp_mvs hl' h', mvsD_shaped h3, mvsD_shaped h4, by rw [mvsD_eqv]; exact q⟩
theorem eq_mvs {l' : Addr} {ts' : List Addr} {ms' : List (Nat × Nat)} (hl : SqL K H l (ts.map V.ref)) (h : Mvs K H ts ms) (h3 : ∀ m ∈ ms, m.2 < 3) (hl' : SqL K H l' (ts'.map V.ref)) (h' : Mvs K H ts' ms') (h4 : ∀ m ∈ ms', m.2 < 3) (q : Q (.bl (decide (ms = ms'))) H) : uEq K (.ref l) (.ref l') H Q :=
  ⟨_, _, dp_mvs hl h, dp_mvs hl' h', mvsD_shaped h3, mvsD_shaped h4, by rw [mvsD_eqv]; exact q⟩
theorem alwL_mem {rows : List (List (Option Int))} {ds : List Nat} (h : m ∈ alwL rows ds) : m.1 < rows.length ∧ m.2 < 3 ∧ alw rows ds m.1 m.2 = true := by
  unfold alwL at h
  obtain ⟨h1, h2⟩ := List.mem_filter.mp h
  exact ⟨(allL_mem h1).1, (allL_mem h1).2, h2⟩
end
end U
namespace U
open PySem PySem.Spec PyProof.Rows L2

/-! ### how many moves are allowed -/
theorem topsL_nodup (ds : List Nat) : (topsL ds).Nodup := List.Nodup.sublist List.filter_sublist List.nodup_range
theorem allL_nodup (n : Nat) : (allL n).Nodup := by
  induction n with
  | zero => exact .nil
  | succ n ih =>
    rw [allL_succ, List.nodup_append]
    refine ⟨ih, by simp, fun a ha b hb e => ?_⟩
    have h1 := (allL_mem ha).1
    subst e
    simp only [or_false, List.mem_cons, List.not_mem_nil] at hb
    rcases hb with rfl | rfl | rfl <;> exact absurd h1 (Nat.lt_irrefl n)
theorem alwL_nodup (rows : List (List (Option Int))) (ds : List Nat) : (alwL rows ds).Nodup := List.Nodup.sublist List.filter_sublist (allL_nodup _)
theorem bare_lt {ds : List Nat} {k j d : Nat} (h : bare ds k d = true) (hj : ds[j]? = some d) (hk : ds[k]?.getD 0 ≠ d) : j < k := by
  rcases Nat.lt_trichotomy j k with z | z | z
  · exact z
  · subst z
    rw [hj] at hk
    exact absurd rfl hk
  · have m : d ∈ ds.drop (k + 1) := by
      refine List.mem_iff_getElem?.mpr ⟨j - (k + 1), ?_⟩
      rw [List.getElem?_drop, show k + 1 + (j - (k + 1)) = j by omega, hj]
    exact absurd rfl (of_decide_eq_true (List.all_eq_true.mp h d m))
/-- an allowed move is known by the place that it doesn't touch -/
theorem alw_inj {rows rows' : List (List (Option Int))} {ds : List Nat} {k d k' d' : Nat} (h3 : D3 ds) (hk : k < ds.length) (hk' : k' < ds.length) (hd : d < 3) (hd' : d' < 3) (a : alw rows ds k d = true) (a' : alw rows' ds k' d' = true)
    (e : 3 - ds[k]?.getD 0 - d = 3 - ds[k']?.getD 0 - d') : k = k' ∧ d = d' := by
  rw [alw_iff h3 hd] at a
  rw [alw_iff h3 hd'] at a'
  simp only [decide_eq_true_eq, Bool.and_eq_true] at a a'
  obtain ⟨t, n, b, _⟩ := a
  obtain ⟨t', n', b', _⟩ := a'
  have c3 := d3_at h3 k
  have c3' := d3_at h3 k'
  have ek : ds[k]? = some (ds[k]?.getD 0) := by rw [List.getElem?_eq_getElem hk]; rfl
  have ek' : ds[k']? = some (ds[k']?.getD 0) := by rw [List.getElem?_eq_getElem hk']; rfl
  by_cases s : ds[k]?.getD 0 = ds[k']?.getD 0
  · have one : k = k' := by
      rcases Nat.lt_trichotomy k k' with z | z | z
      · exact absurd (ek'.trans (by rw [s])) ((isTop_iff hk).mp t k' z hk')
      · exact z
      · exact absurd (ek.trans (by rw [s])) ((isTop_iff hk').mp t' k z hk)
    exact ⟨one, by omega⟩
  · have h1 : ds[k']?.getD 0 = d := by omega
    have h2 : ds[k]?.getD 0 = d' := by omega
    have l1 := bare_lt b (j := k') (ek'.trans (by rw [h1])) (fun z => n z.symm)
    have l2 := bare_lt b' (j := k) (ek.trans (by rw [h2])) (fun z => n' z.symm)
    omega
theorem alwL_le {rows : List (List (Option Int))} {ds : List Nat} (h3 : D3 ds) (hl : ds.length = rows.length) : (alwL rows ds).length ≤ 3 := by
  rw [← List.length_map (f := fun m : Nat × Nat => 3 - ds[m.1]?.getD 0 - m.2)]
  have nd : ((alwL rows ds).map fun m => 3 - ds[m.1]?.getD 0 - m.2).Nodup := by
    rw [List.nodup_iff_pairwise_ne, List.pairwise_map]
    refine List.Pairwise.imp_of_mem (fun {x y} hx hy ne e => ?_) (List.nodup_iff_pairwise_ne.mp (alwL_nodup rows ds))
    obtain ⟨x1, x2, x3⟩ := alwL_mem hx
    obtain ⟨y1, y2, y3⟩ := alwL_mem hy
    obtain ⟨e1, e2⟩ := alw_inj h3 (by omega) (by omega) x2 y2 x3 y3 e
    exact ne (Prod.ext e1 e2)
  have sub : ((alwL rows ds).map fun m => 3 - ds[m.1]?.getD 0 - m.2) ⊆ [0, 1, 2] := by
    intro z hz
    obtain ⟨m, hm, rfl⟩ := List.mem_map.mp hz
    obtain ⟨x1, x2, x3⟩ := alwL_mem hm
    have n := alw_ne x3
    have c3 := d3_at h3 m.1
    simp only [or_false, List.mem_cons, List.not_mem_nil]
    omega
  generalize (alwL rows ds).map (fun m => 3 - ds[m.1]?.getD 0 - m.2) = l at nd sub ⊢
  have perm : l.Perm (([0, 1, 2] : List Nat).filter fun z => decide (z ∈ l)) := by
    refine (List.perm_ext_iff_of_nodup nd (List.Nodup.sublist List.filter_sublist (by decide))).mpr fun z => ?_
    rw [List.mem_filter, decide_eq_true_iff]
    exact ⟨fun m => ⟨sub m, m⟩, fun m => m.2⟩
  rw [perm.length_eq]
  exact Nat.le_trans (List.length_filter_le _ _) (by decide)
/-- the last crate that is not on place z -/
theorem last_off {ds : List Nat} {z : Nat} (h : ∃ e ∈ ds, e ≠ z) : ∃ k c, ds[k]? = some c ∧ c ≠ z ∧ ds.drop (k + 1) = List.replicate (ds.length - (k + 1)) z := by
  obtain ⟨e, m, n⟩ := h
  obtain ⟨i, hi⟩ := List.mem_iff_getElem?.mp m
  have key : ∀ n i e, ds.length - i = n → ds[i]? = some e → e ≠ z → ∃ k c, ds[k]? = some c ∧ c ≠ z ∧ ds.drop (k + 1) = List.replicate (ds.length - (k + 1)) z := by
    refine fun n => Nat.strongRecOn n fun n ih => ?_
    intro i e hn h1 h2
    by_cases w : ∃ j, i < j ∧ ∃ f, ds[j]? = some f ∧ f ≠ z
    · obtain ⟨j, j1, f, j2, j3⟩ := w
      have := (List.getElem?_eq_some_iff.mp j2).1
      exact ih (ds.length - j) (by omega) j f rfl j2 j3
    · refine ⟨i, e, h1, h2, List.eq_replicate_iff.mpr ⟨by rw [List.length_drop], fun f m => ?_⟩⟩
      obtain ⟨l, hl⟩ := List.mem_iff_getElem?.mp m
      rw [List.getElem?_drop] at hl
      by_cases y : f = z
      · exact y
      · exact absurd ⟨i + 1 + l, by omega, f, hl, y⟩ w
  exact key _ i e rfl hi n
/-- where no price is barred, a move for each place that is not all -/
theorem alwL_count {rows : List (List (Option Int))} {ds : List Nat} (h3 : D3 ds) (hl : ds.length = rows.length) (free : ∀ k a b, k < rows.length → a < 3 → b < 3 → a ≠ b → (prOf rows k a b).isSome = true) :
    (alwL rows ds).length = (([0, 1, 2] : List Nat).filter fun z => ds.any fun e => decide (e ≠ z)).length := by
  have nd : ((alwL rows ds).map fun m => 3 - ds[m.1]?.getD 0 - m.2).Nodup := by
    rw [List.nodup_iff_pairwise_ne, List.pairwise_map]
    refine List.Pairwise.imp_of_mem (fun {x y} hx hy ne e => ?_) (List.nodup_iff_pairwise_ne.mp (alwL_nodup rows ds))
    obtain ⟨x1, x2, x3⟩ := alwL_mem hx
    obtain ⟨y1, y2, y3⟩ := alwL_mem hy
    obtain ⟨e1, e2⟩ := alw_inj h3 (by omega) (by omega) x2 y2 x3 y3 e
    exact ne (Prod.ext e1 e2)
  rw [← List.length_map (f := fun m : Nat × Nat => 3 - ds[m.1]?.getD 0 - m.2)]
  refine ((List.perm_ext_iff_of_nodup nd (List.Nodup.sublist List.filter_sublist (by decide))).mpr fun z => ?_).length_eq
  rw [List.mem_filter, List.any_eq_true]
  constructor
  · intro hz
    obtain ⟨m, hm, rfl⟩ := List.mem_map.mp hz
    obtain ⟨x1, x2, x3⟩ := alwL_mem hm
    have n := alw_ne x3
    have c3 := d3_at h3 m.1
    have hk : ds[m.1]? = some (ds[m.1]?.getD 0) := by rw [List.getElem?_eq_getElem (show m.1 < ds.length by omega)]; rfl
    refine ⟨?_, ds[m.1]?.getD 0, List.mem_of_getElem? hk, decide_eq_true (by omega)⟩
    simp only [or_false, List.mem_cons, List.not_mem_nil]
    omega
  · rintro ⟨hz, e, me, ne⟩
    have z3 : z < 3 := by
      simp only [or_false, List.mem_cons, List.not_mem_nil] at hz
      omega
    obtain ⟨k, c, hk, hc, hr⟩ := last_off ⟨e, me, of_decide_eq_true ne⟩
    have kl := (List.getElem?_eq_some_iff.mp hk).1
    have c3 : c < 3 := h3 c (List.mem_of_getElem? hk)
    have ck : ds[k]?.getD 0 = c := by rw [hk]; rfl
    refine List.mem_map.mpr ⟨(k, 3 - z - c), ?_, by show 3 - ds[k]?.getD 0 - (3 - z - c) = z; rw [ck]; omega⟩
    unfold alwL
    refine List.mem_filter.mpr ⟨?_, ?_⟩
    · unfold allL
      refine List.mem_flatMap.mpr ⟨k, List.mem_range.mpr (by omega), ?_⟩
      have : 3 - z - c = 0 ∨ 3 - z - c = 1 ∨ 3 - z - c = 2 := by omega
      simp only [or_false, List.mem_cons, List.not_mem_nil, Prod.mk.injEq, true_and]
      exact this
    · show alw rows ds k (3 - z - c) = true
      unfold alw
      rw [ck, Bool.and_eq_true, Bool.and_eq_true, decide_eq_true_iff, decide_eq_true_iff]
      refine ⟨by omega, free k c _ (by omega) c3 (by omega) (by omega), ?_⟩
      rw [hr]
      congr 1
      omega
end U
namespace U
open PySem PySem.Spec PyProof.Rows L2

def LastOk (K : PySem.W.Frag) (H : Hp) (v : V) : Prop := v = .non ∨ ∃ t k d, v = .ref t ∧ Mv K H t k d ∧ d < 3
theorem LastOk.off {K : PySem.W.Frag} {H H' : Hp} {D : Addr} {l : List V} {v : V} (e : Off D H H') (hD : H D = some (.lst l)) (h : LastOk K H v) : LastOk K H' v := by
  rcases h with h | ⟨t, k, d, h1, h2, h3⟩
  · exact .inl h
  · exact .inr ⟨t, k, d, h1, e.sqT hD h2, h3⟩
theorem LastOk.same {K : PySem.W.Frag} {H H' : Hp} {v : V} (e : Same H H') (h : LastOk K H v) : LastOk K H' v := by
  rcases h with h | ⟨t, k, d, h1, h2, h3⟩
  · exact .inl h
  · exact .inr ⟨t, k, d, h1, Same.sqT e h2, h3⟩
theorem GoodR.snoc {rows : List (List (Option Int))} {ds : List Nat} {ms : List (Nat × Nat)} {m : Nat × Nat} (h : GoodR rows ds ms) (h1 : m.1 < rows.length) (h2 : m.2 < 3) (h3 : alw rows (beh ds ms) m.1 m.2 = true) : GoodR rows ds (ms ++ [m]) := by
  intro i n hn
  by_cases e : i < ms.length
  · rw [List.getElem?_append_left e] at hn
    obtain ⟨a, b, c⟩ := h i n hn
    refine ⟨a, b, ?_⟩
    rw [List.take_append_of_le_length (by omega)]
    exact c
  · have e2 : i = ms.length := by
      have := (List.getElem?_eq_some_iff.mp hn).1
      simp at this
      omega
    subst e2
    rw [List.getElem?_append_right (Nat.le_refl _), Nat.sub_self] at hn
    cases hn
    rw [List.take_append_of_le_length (by exact Nat.le_refl _), List.take_length]
    exact ⟨h1, h2, h3⟩
theorem beh_snoc (ds : List Nat) (ms : List (Nat × Nat)) (m : Nat × Nat) : beh ds (ms ++ [m]) = (beh ds ms).set m.1 m.2 := by
  unfold beh
  rw [List.foldl_append]
  rfl
def sp__law_walk (K : PySem.W.Frag) : Sp := sp4 fun x v w c H Q _ => ∃ b m rows ds, ∃ n : Nat, x = .ref b ∧ c = .int (n : Nat) ∧ n ≤ 1000 ∧ Bx H b m ∧ m ≤ 1000000 ∧ RowV K H v rows ∧ RowsOk rows ∧ Arr rows.length w ds ∧
  ∀ l ts ms H', Off b H H' → Bx H' b (m + 2001) → H l = none → H' l = some (.lst (ts.map V.ref)) → Mvs K H' ts ms → GoodR rows ds ms → ms.length ≤ 1000 → Q (.ref l) H'
def t__law_walk (K : PySem.W.Frag) (E : XK) : TS := (tSeq (tPar3 4 5 6 (tCons (tLst tNil) (tCons (tVar 2) (tCons (tC .non) tNil)))) (tSeq (tFor (iRng1 (tCons (tFn (sp__law_take K) E (tCons (tVar 0) (tCons (tOp uAdd (tVar 3) (tC (.int 1))) tNil))) tNil)) (gName 7) (tSeq (tAsg (tLc (iSeq K (tFn (sp__law_moves K) E (tCons (tVar 1) (tCons (tVar 5) tNil)))) (gTup K 2 (gCons (gName 8) (gCons (gName 10) gNil))) tYes (tVar 8) [8, 10]) (gName 9)) (tSeq (tIfS (tTest (tOp (uEq K) (tVar 9) (tLst tNil))) (tRet (tVar 4)) tNext) (tSeq (tAsg (tOp (uIx K) (tVar 9) (tFn (sp__law_take K) E (tCons (tVar 0) (tCons (tCB (uLen K) (tCons (tVar 9) tNil)) tNil)))) (gName 8)) (tSeq (tAsg (tIf (tAnd (tTest (tOp (rInD K) (tVar 6) (tVar 9))) (tTest (tOp (uEq K) (tFn (sp__law_take K) E (tCons (tVar 0) (tCons (tC (.int 5)) tNil))) (tC (.int 0))))) (tVar 6) (tVar 8)) (gName 8)) (tSeq (tAsg (tTup (tCons (tOp (uIx K) (tVar 8) (tC (.int 0))) (tCons (tOp (uIx K) (tVar 5) (tOp (uIx K) (tVar 8) (tC (.int 0)))) tNil))) (gName 6)) (tSeq (tDrop (tBM K "list" rAppend (tVar 4) (tCons (tVar 8) tNil))) (tAsg (tFn (sp__law_behind K) E (tCons (tVar 5) (tCons (tVar 8) tNil))) (gName 5))))))))) (tRet (tVar 4))))
section
variable {K : PySem.W.Frag} (F : KF K) {vs : List V} {H : Hp} {Q : VK} {E : XK}
local macro_rules | `(tactic| walk_at "w") => `(tactic| try simp only [turnE, lcT, Snoc, tRet, tRetN, tAndV, tOrV, tNotV, tCB, tCons, tVar, tNil, tC, tOp, tSeq, tAsg, gName, gSub, tIfS, tDrop, tFn, tTup, tLst, tNext, tB, tTest, tNot, tAnd, tOr, tIf, tChain, tUn, rU, tFld, tPart, tNoPart, L2.tSl, tBM, tPar, tPar3, tTruth, tDNewK,
  L2.start, List.map_cons, List.map_nil, List.length_cons, List.length_nil, List.replicate_succ, List.replicate_zero, List.append_nil, List.nil_append, List.cons_append, List.singleton_append, Nat.sub_self, Nat.zero_add, Nat.reduceAdd, Nat.reduceSub,
  List.getElem?_cons_zero, List.getElem?_cons_succ, List.set_cons_zero, List.set_cons_succ, Option.some.injEq, exists_eq_left, exists_eq_left', V.int.injEq, V.bl.injEq, V.str.injEq, V.ref.injEq,
  uAdd_int, uAdd_str, uSub_int, uMul_int, uMul_str, uDiv_int, uMod_int, uPow_int, uLt_int, uLe_int, uGt_int, uGe_int, uIs_non, uNis_non, uIs_bl, uNis_bl, sp1, sp2, sp3, sp4, uEq_int, uEq_str, uNe_int, uNe_str, uSl_str, uLen_str, decide_eq_true_eq])
local macro_rules | `(tactic| walk_at "1") => `(tactic| try simp only [turnE, lcT, Snoc, tRet, tRetN, tAndV, tOrV, tNotV, tCB, tCons, tVar, tNil, tC, tOp, tAsg, gName, gSub, tIfS, tDrop, tFn, tTup, tLst, tNext, tB, tTest, tNot, tAnd, tOr, tIf, tChain, tUn, rU, tFld, tPart, tNoPart, L2.tSl, tBM, tPar, tPar3, tTruth, tDNewK,
  L2.start, List.map_cons, List.map_nil, List.length_cons, List.length_nil, List.replicate_succ, List.replicate_zero, List.append_nil, List.nil_append, List.cons_append, List.singleton_append, Nat.sub_self, Nat.zero_add, Nat.reduceAdd, Nat.reduceSub,
  List.getElem?_cons_zero, List.getElem?_cons_succ, List.set_cons_zero, List.set_cons_succ, Option.some.injEq, exists_eq_left, exists_eq_left', V.int.injEq, V.bl.injEq, V.str.injEq, V.ref.injEq,
  uAdd_int, uAdd_str, uSub_int, uMul_int, uMul_str, uDiv_int, uMod_int, uPow_int, uLt_int, uLe_int, uGt_int, uGe_int, uIs_non, uNis_non, uIs_bl, uNis_bl, sp1, sp2, sp3, sp4, uEq_int, uEq_str, uNe_int, uNe_str, uSl_str, uLen_str, decide_eq_true_eq])
local macro_rules | `(tactic| walk_at "s") => `(tactic| ((try dsimp only [turnE]); with_reducible refine seq_ ?_))

theorem forR {ta : TA} {g : TG} {tb : TS} {D : Ends} {σ : L2.St} (h : ta σ H fun vs H1 => ∃ n : Int, vs = [.int n] ∧ -(2 ^ 62) ≤ n ∧ n < 2 ^ 62 ∧ tFor (fun _ H' R => R (Itr 0 n.toNat) H') g tb D σ H1) : tFor (iRng1 ta) g tb D σ H := h
theorem tLc_inL {t : TE} {g : TG} {tt : TT} {te : TE} {vs : List Nat} {σ : L2.St} (h : t σ H fun x H1 => ∃ a, x = .ref a ∧ (∃ xs, SqL K H1 a xs) ∧ ∀ D, H1 D = none → LcB (Itl K a) g tt te vs σ H1 D (Q (.ref D))) : tLc (iSeq K t) g tt te vs σ H Q := .inl h
theorem sqA_off {H' : Hp} {b p : Addr} {bs xs : List V} (e : Off b H H') (hb : H b = some (.lst bs)) (ne : xs ≠ bs) (h : SqA K H p xs) : SqA K H' p xs := by
  rcases h with ((h | ⟨o, h⟩) | h) | h
  · exact .inl (.inl (.inl (e _ _ (by rintro rfl; rw [hb] at h; injection h with h; injection h with h; exact ne h.symm) h)))
  · exact .inl (.inl (.inr ⟨o, e _ _ (by rintro rfl; rw [hb] at h; injection h with h; cases h) h⟩))
  · exact .inl (.inr h)
  · exact .inr (e.sqT hb h)
/-- the rows stay while the box is drawn from -/
theorem RowV.off {H' : Hp} {b : Addr} {m : Int} {x : V} {rows : List (List (Option Int))} (e : Off b H H') (hb : Bx H b m) (ho : RowsOk rows) (h : RowV K H x rows) : RowV K H' x rows := by
  obtain ⟨g, s, k, hb, _⟩ := hb
  obtain ⟨p, xs, rfl, hs, hl, hr⟩ := h
  refine ⟨p, xs, rfl, sqA_off e hb ?_ hs, hl, fun i v r z1 z2 => ?_⟩
  · rintro rfl
    have h0 := ho.1
    obtain ⟨q, e1, _⟩ := hr 0 (.int g) rows[0] rfl (List.getElem?_eq_getElem (by omega))
    cases e1
  · obtain ⟨q, e1, e2⟩ := hr i v r z1 z2
    refine ⟨q, e1, sqA_off e hb (fun w => ?_) e2⟩
    have l := congrArg List.length w
    rw [List.length_map, (ho.2.2 r (List.mem_of_getElem? z2)).1] at l
    cases l
theorem in_last {l : Addr} {ts : List Addr} {ms : List (Nat × Nat)} {v : V} (hv : LastOk K H v) (hl : SqL K H l (ts.map V.ref)) (h : Mvs K H ts ms) (h4 : ∀ m ∈ ms, m.2 < 3)
    (q1 : Q (.bl false) H) (q2 : ∀ t m, v = .ref t → Mv K H t m.1 m.2 → m ∈ ms → Q (.bl true) H) : rInD K v (.ref l) H Q := by
  rcases hv with rfl | ⟨t, k, d, rfl, hm, hd⟩
  · refine ⟨_, _, .non, dp_mvs hl h, by decide, mvsD_shaped h4, ?_⟩
    have : ((ms.map mvD).any fun z => PyData.eqv z PyData.none) = false := by
      rw [List.any_map, List.any_eq_false]
      intro x _
      simp [mvD, PyData.eqv]
    rw [this]
    exact q1
  · refine in_mvs (m := (k, d)) hm hd hl h h4 ?_
    by_cases e : (k, d) ∈ ms
    · rw [decide_eq_true e]
      exact q2 t (k, d) rfl hm e
    · rw [decide_eq_false e]
      exact q1
/-- the moves of such a list of pairs -/
theorem pick_moves {x0 x2 x3 x4 x6 x7 x8 x9 x10 : Option V} {rows : List (List (Option Int))} {es : List Nat} {v : V} (hv : RowV K H v rows) (ho : RowsOk rows) (ha : Arr rows.length (wdV es) es)
    (q : ∀ R us H', Same H H' → H R = none → H' R = some (.lst (us.map V.ref)) → Mvs K H' us (alwL rows es) → Q (.ref R) H') :
    tLc (iSeq K (tFn (sp__law_moves K) E (tCons (tVar 1) (tCons (tVar 5) tNil)))) (gTup K 2 (gCons (gName 8) (gCons (gName 10) gNil))) tYes (tVar 8) [8, 10] [x0, some v, x2, x3, x4, some (wdV es), x6, x7, x8, x9, x10] H Q := by
  refine tLc_inL ?_
  walk_at "1"
  refine ⟨rows, es, hv, ho, ha, fun l3 ts H1 s1 hl hp => ⟨l3, rfl, ⟨_, .inl (.inl hl)⟩, fun R hR => ?_⟩⟩
  have l60 : rows.length ≤ 60 := ho.2.1
  have le3 : (alwL rows es).length ≤ 3 := alwL_le ha.2.2 (ha.2.1)
  refine lc_plain (plain_L (xs := ts.map V.ref)) (fun i H' => Same H1 H' ∧ ∃ us, H' R = some (.lst (us.map V.ref)) ∧ Mvs K H' us ((alwL rows es).take i) ∧ us.length = i) ⟨same_new hR, [], upd_same, mvs_nil, rfl⟩ (fun i H' z => .inl (.inl (z.1 _ _ hl))) ?_ ?_
  · rintro i x H2 hx ⟨s2, us, hR2, hu, hi⟩
    rw [List.getElem?_map] at hx
    obtain ⟨t, ht, rfl⟩ := Option.map_eq_some_iff.mp hx
    have lt : i < ts.length := (List.getElem?_eq_some_iff.mp ht).1
    obtain ⟨m, hm⟩ : ∃ m, (alwL rows es)[i]? = some m := ⟨_, List.getElem?_eq_getElem (by rw [← hp.1]; exact lt)⟩
    obtain ⟨u, hu1, hu2⟩ := hp.2 i t m ht hm
    have li : i < (alwL rows es).length := by rw [← hp.1]; exact lt
    simp only [lcT, wipe]
    refine ⟨t, _, rfl, Same.sqT s2 hu1, rfl, _, _, rfl, _, _, rfl, ⟨rfl, ?_⟩⟩
    simp only [gName, List.set_cons_zero, List.set_cons_succ]
    refine ⟨trivial, ?_⟩
    simp only [tYes, if_true]
    refine ⟨_, rfl, _, hR2, ?_, (Off.trans (Same.off s2) off_upd).same hR, us ++ [u], ?_, ?_, by simp [hi]⟩
    · rw [List.length_map, hi]
      exact Nat.lt_of_lt_of_le (show i < 4 by omega) (by decide)
    · rw [upd_same, List.map_append]
      rfl
    · rw [List.take_succ, hm]
      exact Mvs.off off_upd hR2 (hu.snoc (Same.sqT s2 hu2))
  · rintro H2 ⟨s2, us, hR2, hu, hi⟩
    refine q R us H2 (s1.trans s2) (s1.free hR) hR2 ?_
    rwa [List.take_of_length_le (by rw [List.length_map, hp.1]; exact Nat.le_refl _)] at hu
theorem walk_tail {b L t : Addr} {es : List Nat} {k d : Nat} {l : List V} {v w c x6 x7 x9 x10 : Option V} {D : Ends} (h60 : es.length ≤ 60) (hm : Mv K H t k d) (hk : k < es.length) (hL : H L = some (.lst l)) (hl : l.length ≤ 1000)
    (q : ∀ T H1, Same H H1 → Mv K H1 T k (es[k]?.getD 0) → D.nx [some (.ref b), v, w, c, some (.ref L), some (wdV (es.set k d)), some (.ref T), x7, some (.ref t), x9, x10] (upd H1 L (.lst (l ++ [.ref t])))) :
    tSeq (tAsg (tTup (tCons (tOp (uIx K) (tVar 8) (tC (.int 0))) (tCons (tOp (uIx K) (tVar 5) (tOp (uIx K) (tVar 8) (tC (.int 0)))) tNil))) (gName 6)) (tSeq (tDrop (tBM K "list" rAppend (tVar 4) (tCons (tVar 8) tNil))) (tAsg (tFn (sp__law_behind K) E (tCons (tVar 5) (tCons (tVar 8) tNil))) (gName 5))) D [some (.ref b), v, w, c, some (.ref L), some (wdV es), x6, x7, some (.ref t), x9, x10] H := by
  walk_at "s"
  walk_at "1"
  refine ⟨_, _, .inr hm, rfl, ?_⟩
  refine ⟨_, _, .inr hm, rfl, ?_⟩
  refine str_at h60 hk ⟨by decide, fun T hT => ?_⟩
  have s1 : Same H (upd H T (.tup [.int k, .str (pl (es[k]?.getD 0))])) := same_new hT
  have gT : upd H T (.tup [.int k, .str (pl (es[k]?.getD 0))]) T = some (.tup [.int k, .str (pl (es[k]?.getD 0))]) := upd_same
  have hm1 := Same.sqT s1 hm
  have hL1 := s1 _ _ hL
  generalize upd H T (.tup [.int k, .str (pl (es[k]?.getD 0))]) = H1 at *
  walk_at "s"
  walk_at "1"
  refine app_at hL1 (by omega) ?_
  walk_at "1"
  refine ⟨es, t, k, d, rfl, h60, rfl, off_upd.sqT hL1 hm1, hk, ?_⟩
  exact q T H1 s1 (.inl (.inl gT))
include F in
theorem read__law_walk (h : sp__law_walk K vs H Q E) : t__law_walk K E { nx := fun _ H' => Q .non H', rt := Q } (start ["_law_box_here", "_law_plain_here", "_law_word_here", "_law_most", "_law_row", "_law_now", "_law_last", "_law_lap", "_law_move", "_law_moves_here", "_law_price_here"] vs) H := by
  match vs, h with
  | [_, v, _, _], ⟨b, m, rows, ds, n, rfl, rfl, hn, hb, hm, hv, ho, ha, q⟩ =>
    obtain ⟨rfl, a1, a2⟩ := id ha
    have l60 : rows.length ≤ 60 := ho.2.1
    unfold t__law_walk
    walk_at "s"
    walk_at "1"
    refine ⟨by decide, fun L hL => ?_⟩
    have s1 : Same H (upd H L (.lst [])) := same_new hL
    have nL := hb.ne hL
    have gL : upd H L (.lst []) L = some (.lst []) := upd_same
    have b1 := hb.same s1
    generalize upd H L (.lst []) = H1 at *
    refine ⟨_, _, _, rfl, ?_⟩
    walk_at "s"
    refine forR ?_
    walk_at "1"
    refine take_of b1 (by omega) (by omega) (by omega) fun d H2 d0 d1 o2 b2 => ?_
    refine ⟨d, rfl, by omega, by omega, ?_⟩
    have gL2 := o2.lst gL nL
    have o02 : Off b H H2 := Off.trans (Same.off s1) o2
    refine for_plain (plain_R (lo := 0) (n := d.toNat)) (fun R r => r)
      (fun i σ H' => Off b H H' ∧ Bx H' b (m + 1 + 2 * i) ∧ ∃ ts ms lst, H' L = some (.lst (ts.map V.ref)) ∧ Mvs K H' ts ms ∧ GoodR rows ds ms ∧ ms.length ≤ i ∧ LastOk K H' lst ∧
        ∃ o7 o8 o9 o10, σ = [some (.ref b), some v, some (wdV ds), some (.int n), some (.ref L), some (wdV (beh ds ms)), some lst, o7, o8, o9, o10])
      ⟨o02, by simpa using b2, [], [], .non, gL2, mvs_nil, (fun i m z => nomatch z), Nat.le_refl _, .inl rfl, none, none, none, none, rfl⟩ (fun _ _ _ _ => trivial) ?_ ?_
    · rintro i x σ H3 hx ⟨o3, b3, ts, ms, lst, gL3, hmv, hg, hle, hlast, o7, o8, o9, o10, rfl⟩
      have li : i < d.toNat := by
        have := (List.getElem?_eq_some_iff.mp hx).1
        simpa [intsL] using this
      simp only [gName, List.set_cons_zero, List.set_cons_succ]
      have hes : (beh ds ms).length = rows.length := by rw [beh_len, a1]
      have hd3 : D3 (beh ds ms) := by
        have := hg.d3 a2 ms.length
        rwa [List.take_length] at this
      have hv3 := hv.off o3 hb ho
      walk_at "s"
      show tLc _ _ _ _ _ _ _ _
      refine pick_moves hv3 ho ⟨rfl, hes, hd3⟩ fun R us H4 s4 hR gR hus => ?_
      walk_at "1"
      walk_at "s"
      walk_at "1"
      refine ⟨by decide, fun N hN => ?_⟩
      have gR5 : upd H4 N (.lst []) R = some (.lst (us.map V.ref)) := same_new hN _ _ gR
      have gN5 : upd H4 N (.lst []) N = some (.lst (([] : List Addr).map V.ref)) := upd_same
      have s5 : Same H3 (upd H4 N (.lst [])) := s4.trans (same_new hN)
      have hus5 := hus.same (same_new (o := .lst []) hN)
      generalize upd H4 N (.lst []) = H5 at *
      have a3 : ∀ x ∈ alwL rows (beh ds ms), x.2 < 3 := fun x hx => (alwL_mem hx).2.1
      have gL5 := s5 _ _ gL3
      have b5 := b3.same s5
      have o5 : Off b H H5 := Off.trans o3 (Same.off s5)
      have hmv5 := hmv.same s5
      have hlast5 := hlast.same s5
      refine eq_mvs (.inl (.inl gR5)) hus5 a3 (.inl (.inl gN5)) mvs_nil (fun m z => nomatch z) ⟨_, rfl, ?_⟩
      by_cases e0 : alwL rows (beh ds ms) = []
      · rw [decide_eq_true e0, if_pos rfl]
        exact q L ts ms H5 o5 (b5.mono (by omega)) hL gL5 hmv5 hg (by omega)
      · rw [decide_eq_false e0, if_neg (by decide)]
        have le3 : (alwL rows (beh ds ms)).length ≤ 3 := alwL_le hd3 hes
        have lpos : 0 < (alwL rows (beh ds ms)).length := List.length_pos_iff.mpr e0
        have hul : us.length = (alwL rows (beh ds ms)).length := hus5.1
        have nR : R ≠ b := b3.ne hR
        obtain ⟨lb, hlb⟩ := b3.at_
        -- what follows for any move of the list
        have fin : ∀ (t : Addr) (mm : Nat × Nat) (x9 : Option V) H6, Off b H H6 → Bx H6 b (m + 1 + 2 * ((i + 1 : Nat) : Int)) → H6 L = some (.lst (ts.map V.ref)) → Mvs K H6 ts ms → Mv K H6 t mm.1 mm.2 → mm ∈ alwL rows (beh ds ms) →
            tSeq (tAsg (tTup (tCons (tOp (uIx K) (tVar 8) (tC (.int 0))) (tCons (tOp (uIx K) (tVar 5) (tOp (uIx K) (tVar 8) (tC (.int 0)))) tNil))) (gName 6)) (tSeq (tDrop (tBM K "list" rAppend (tVar 4) (tCons (tVar 8) tNil))) (tAsg (tFn (sp__law_behind K) E (tCons (tVar 5) (tCons (tVar 8) tNil))) (gName 5))) (turnE { nx := tRet (tVar 4) { nx := fun _ H' => Q .non H', rt := Q }, rt := Q } fun σ H' => Off b H H' ∧ Bx H' b (m + 1 + 2 * ((i + 1 : Nat) : Int)) ∧ ∃ ts ms lst, H' L = some (.lst (ts.map V.ref)) ∧ Mvs K H' ts ms ∧ GoodR rows ds ms ∧ ms.length ≤ i + 1 ∧ LastOk K H' lst ∧
              ∃ o7 o8 o9 o10, σ = [some (.ref b), some v, some (wdV ds), some (.int n), some (.ref L), some (wdV (beh ds ms)), some lst, o7, o8, o9, o10])
              [some (.ref b), some v, some (wdV ds), some (.int n), some (.ref L), some (wdV (beh ds ms)), some lst, some x, some (.ref t), x9, o10] H6 := by
          intro t mm x9 H6 o6 b6 gL6 hmv6 mv6 hmem
          obtain ⟨k1, k2, k3⟩ := alwL_mem hmem
          refine walk_tail (by omega) mv6 (by omega) gL6 (by rw [List.length_map, hmv6.1]; omega) fun T H7 s7 mvT => ?_
          have gL7 := s7 _ _ gL6
          refine ⟨?_, (b6.same s7).upd nL, ts ++ [t], ms ++ [mm], .ref T, ?_, ?_, hg.snoc k1 k2 k3, by simp; omega, .inr ⟨T, _, _, rfl, off_upd.sqT gL7 mvT, d3_at hd3 _⟩, _, _, _, _, by rw [beh_snoc]⟩
          · exact Off.new (Off.trans o6 (Same.off s7)) hL
          · rw [upd_same, List.map_append]
            rfl
          · exact Mvs.off off_upd gL7 ((hmv6.same s7).snoc (Same.sqT s7 mv6))
        show tSeq _ _ _ _ _
        walk_at "s"
        walk_at "1"
        refine uLen_seq (.inl (.inl (.inl gR5))) ?_
        refine take_of b5 (by omega) (by rw [List.length_map]; omega) (by rw [List.length_map]; omega) fun e H6 e1 e2 o6 b6 => ?_
        have gR6 := o6.lst gR5 nR
        have gL6 := o6.lst gL5 nL
        have hus6 := Mvs.off o6 (s5 _ _ hlb) hus5
        have hmv6 := Mvs.off o6 (s5 _ _ hlb) hmv5
        have hlast6 := hlast5.off o6 (s5 _ _ hlb)
        have o06 := Off.trans o5 o6
        rw [List.length_map] at e2
        obtain ⟨t, ht⟩ : ∃ t, us[e.toNat]? = some t := ⟨_, List.getElem?_eq_getElem (by omega)⟩
        obtain ⟨mm, hmm⟩ : ∃ mm, (alwL rows (beh ds ms))[e.toNat]? = some mm := ⟨_, List.getElem?_eq_getElem (by omega)⟩
        have mv6 := hus6.2 _ _ _ ht hmm
        have ee : e = ((e.toNat : Nat) : Int) := by omega
        refine ⟨_, .ref t, .inl (.inl (.inl gR6)), ?_, ?_⟩
        · rw [ee]
          exact at_nat (by rw [List.getElem?_map, ht]; rfl)
        walk_at "s"
        walk_at "1"
        refine in_last hlast6 (.inl (.inl gR6)) hus6 a3 ?_ fun t2 m2 el mv2 mem2 => ?_
        · refine ⟨_, rfl, ?_⟩
          rw [if_neg (by decide)]
          exact fin t mm _ H6 o06 (b6.mono (by omega)) gL6 hmv6 mv6 (List.mem_of_getElem? hmm)
        · refine ⟨_, rfl, ?_⟩
          rw [if_pos rfl]
          refine take_of b6 (by omega) (by omega) (by omega) fun e' H7 e3 e4 o7 b7 => ?_
          have gL7 := o7.lst gL6 nL
          obtain ⟨lb6, hlb6⟩ := b6.at_
          have hmv7 := Mvs.off o7 hlb6 hmv6
          have mv7 : Mv K H7 t mm.1 mm.2 := o7.sqT hlb6 mv6
          have mv27 : Mv K H7 t2 m2.1 m2.2 := o7.sqT hlb6 mv2
          have b7' := b7.mono (n := m + 1 + 2 * ((i + 1 : Nat) : Int)) (by omega)
          walk_at "1"
          by_cases z : e' = 0
          · rw [if_pos z, el]
            exact fin t2 m2 _ H7 (Off.trans o06 o7) b7' gL7 hmv7 mv27 mem2
          · rw [if_neg z]
            exact fin t mm _ H7 (Off.trans o06 o7) b7' gL7 hmv7 mv7 (List.mem_of_getElem? hmm)
    · rintro σ H3 ⟨o3, b3, ts, ms, lst, gL3, hmv, hg, hle, hlast, o7, o8, o9, o10, rfl⟩
      have e : (intsL 0 d.toNat).length = d.toNat := by simp [intsL]
      rw [e] at b3 hle
      walk_at "1"
      exact q L ts ms H3 o3 (b3.mono (by omega)) hL gL3 hmv hg (by omega)
end
end U
namespace U
open PySem PySem.Spec PyProof.Rows L2

theorem costN_succ (rows : List (List (Option Int))) (ds : List Nat) (ms : List (Nat × Nat)) (n : Nat) : costN rows ds ms (n + 1) = costN rows ds ms n + stepC rows ds ms n := by
  unfold costN
  rw [List.range_succ, List.map_append, List.sum_append]
  simp
theorem trailN_last (ds : List Nat) (ms : List (Nat × Nat)) (n : Nat) : atI ((trailN ds ms n).map wdV) (-1) = some (wdV (beh ds (ms.take n))) := by
  unfold atI ixN
  have hl : ((trailN ds ms n).map wdV).length = n + 1 := by rw [List.length_map]; exact trailN_len _ _ _
  rw [if_neg (by decide), if_pos (by omega)]
  have e : ((-1 : Int) + (((trailN ds ms n).map wdV).length : Nat)).toNat = n := by omega
  show ((trailN ds ms n).map wdV)[_]? = _
  rw [e, List.getElem?_map]
  unfold trailN
  rw [List.getElem?_map, List.getElem?_range (by omega)]
  rfl
def sp__law_followed (K : PySem.W.Frag) : Sp := sp3 fun v w z H Q _ => ∃ rows ds ms, RowV K H v rows ∧ RowsOk rows ∧ Arr rows.length w ds ∧ RowM K H z ms ∧ GoodR rows ds ms ∧
  ∀ T l H', Same H H' → H l = none → H' l = some (.lst ((trail ds ms).map wdV)) → SqT K H' T [.ref l, .int (costR rows ds ms)] → Q (.ref T) H'
def t__law_followed (K : PySem.W.Frag) (E : XK) : TS := (tSeq (tPar 3 4 (tCons (tLst (tCons (tVar 1) tNil)) (tCons (tC (.int 0)) tNil))) (tSeq (tFor (iSeq K (tVar 2)) (gName 5) (tSeq (tAsg (tOp uAdd (tVar 4) (tFn (sp__law_price K) E (tCons (tVar 0) (tCons (tOp (uIx K) (tVar 5) (tC (.int 0))) (tCons (tOp (uIx K) (tOp (uIx K) (tVar 3) (tUn (rU fun i => .int (-i)) (tC (.int 1)))) (tOp (uIx K) (tVar 5) (tC (.int 0)))) (tCons (tOp (uIx K) (tVar 5) (tC (.int 1))) tNil)))))) (gName 4)) (tDrop (tBM K "list" rAppend (tVar 3) (tCons (tFn (sp__law_behind K) E (tCons (tOp (uIx K) (tVar 3) (tUn (rU fun i => .int (-i)) (tC (.int 1)))) (tCons (tVar 5) tNil))) tNil))))) (tRet (tTup (tCons (tVar 3) (tCons (tVar 4) tNil))))))
section
variable {K : PySem.W.Frag} (F : KF K) {vs : List V} {H : Hp} {Q : VK} {E : XK}
local macro_rules | `(tactic| walk_at "w") => `(tactic| try simp only [turnE, lcT, Snoc, tRet, tRetN, tAndV, tOrV, tNotV, tCB, tCons, tVar, tNil, tC, tOp, tSeq, tAsg, gName, gSub, tIfS, tDrop, tFn, tTup, tLst, tNext, tB, tTest, tNot, tAnd, tOr, tIf, tChain, tUn, rU, tFld, tPart, tNoPart, L2.tSl, tBM, tPar, tPar3, tTruth, tDNewK,
  L2.start, List.map_cons, List.map_nil, List.length_cons, List.length_nil, List.replicate_succ, List.replicate_zero, List.append_nil, List.nil_append, List.cons_append, List.singleton_append, Nat.sub_self, Nat.zero_add, Nat.reduceAdd, Nat.reduceSub,
  List.getElem?_cons_zero, List.getElem?_cons_succ, List.set_cons_zero, List.set_cons_succ, Option.some.injEq, exists_eq_left, exists_eq_left', V.int.injEq, V.bl.injEq, V.str.injEq, V.ref.injEq,
  uAdd_int, uAdd_str, uSub_int, uMul_int, uMul_str, uDiv_int, uMod_int, uPow_int, uLt_int, uLe_int, uGt_int, uGe_int, uIs_non, uNis_non, uIs_bl, uNis_bl, sp1, sp2, sp3, sp4, uEq_int, uEq_str, uNe_int, uNe_str, uSl_str, uLen_str, decide_eq_true_eq])
local macro_rules | `(tactic| walk_at "1") => `(tactic| try simp only [turnE, lcT, Snoc, tRet, tRetN, tAndV, tOrV, tNotV, tCB, tCons, tVar, tNil, tC, tOp, tAsg, gName, gSub, tIfS, tDrop, tFn, tTup, tLst, tNext, tB, tTest, tNot, tAnd, tOr, tIf, tChain, tUn, rU, tFld, tPart, tNoPart, L2.tSl, tBM, tPar, tPar3, tTruth, tDNewK,
  L2.start, List.map_cons, List.map_nil, List.length_cons, List.length_nil, List.replicate_succ, List.replicate_zero, List.append_nil, List.nil_append, List.cons_append, List.singleton_append, Nat.sub_self, Nat.zero_add, Nat.reduceAdd, Nat.reduceSub,
  List.getElem?_cons_zero, List.getElem?_cons_succ, List.set_cons_zero, List.set_cons_succ, Option.some.injEq, exists_eq_left, exists_eq_left', V.int.injEq, V.bl.injEq, V.str.injEq, V.ref.injEq,
  uAdd_int, uAdd_str, uSub_int, uMul_int, uMul_str, uDiv_int, uMod_int, uPow_int, uLt_int, uLe_int, uGt_int, uGe_int, uIs_non, uNis_non, uIs_bl, uNis_bl, sp1, sp2, sp3, sp4, uEq_int, uEq_str, uNe_int, uNe_str, uSl_str, uLen_str, decide_eq_true_eq])
local macro_rules | `(tactic| walk_at "s") => `(tactic| ((try dsimp only [turnE]); with_reducible refine seq_ ?_))

theorem step_price {rows : List (List (Option Int))} {ds : List Nat} {ms : List (Nat × Nat)} {i : Nat} {m : Nat × Nat} (hmi : ms[i]? = some m) (h : alw rows (beh ds (ms.take i)) m.1 m.2 = true) :
    pV (prOf rows m.1 ((beh ds (ms.take i))[m.1]?.getD 0) m.2) = .int (stepC rows ds ms i) := by
  unfold alw at h
  simp only [decide_eq_true_eq, Bool.and_eq_true] at h
  have est : stepC rows ds ms i = (prOf rows m.1 ((beh ds (ms.take i))[m.1]?.getD 0) m.2).getD 0 := by
    unfold stepC
    rw [hmi]
  rw [est]
  have h2 := h.2.1
  generalize prOf rows m.1 ((beh ds (ms.take i))[m.1]?.getD 0) m.2 = o at *
  cases o with
  | none => cases h2
  | some j => rfl
include F in
theorem read__law_followed (h : sp__law_followed K vs H Q E) : t__law_followed K E { nx := fun _ H' => Q .non H', rt := Q } (start ["_law_plain_here", "_law_word_here", "_law_row", "_law_found", "_law_cost", "_law_move"] vs) H := by
  match vs, h with
  | [v, _, _], ⟨rows, ds, ms, hv, ho, ⟨rfl, a1, a2⟩, ⟨p, ts, rfl, hs, hmv, h1000⟩, hg, q⟩ =>
    have l60 : rows.length ≤ 60 := ho.2.1
    unfold t__law_followed
    walk_at "s"
    walk_at "1"
    refine ⟨by decide, fun L hL => ?_⟩
    have s1 : Same H (upd H L (.lst [.str (wd ds)])) := same_new hL
    have gL : upd H L (.lst [.str (wd ds)]) L = some (.lst [.str (wd ds)]) := upd_same
    generalize upd H L (.lst [.str (wd ds)]) = H1 at *
    refine ⟨_, _, rfl, ?_⟩
    walk_at "s"
    refine for_sqA (H0 := H) (p := p) (xs := ts.map V.ref) hs (fun R r => by walk_at "1"; exact r)
      (fun i σ H' => Same H H' ∧ H' L = some (.lst ((trailN ds ms i).map wdV)) ∧ ∃ o5, σ = [some v, some (wdV ds), some (.ref p), some (.ref L), some (.int (costN rows ds ms i)), o5])
      ⟨s1, gL, none, rfl⟩ (fun i τ H' z => z.1) ?_ ?_
    · rintro i x σ H2 hx ⟨s2, gL2, o5, rfl⟩
      obtain ⟨t, m, rfl, ht, hmi, mv⟩ := mv_at (hmv.same s2) hx
      obtain ⟨m1, m2, hal⟩ := hg i m hmi
      have lt : i < ms.length := (List.getElem?_eq_some_iff.mp hmi).1
      have hbl := beh_len ds (ms.take i)
      have hd3 := hg.d3 a2 i
      have hst := step_price hmi hal
      simp only [gName, List.set_cons_zero, List.set_cons_succ]
      walk_at "s"
      walk_at "1"
      refine ⟨_, _, .inr mv, rfl, ?_⟩
      refine ⟨_, _, .inl (.inl (.inl gL2)), trailN_last ds ms i, ?_⟩
      refine ⟨_, _, .inr mv, rfl, ?_⟩
      refine str_at (by omega) (by omega) ?_
      refine ⟨_, _, .inr mv, rfl, ?_⟩
      refine ⟨rows, m.1, (beh ds (ms.take i))[m.1]?.getD 0, m.2, hv.same s2, ho, rfl, rfl, rfl, m1, d3_at hd3 _, m2, alw_ne hal, fun H3 s3 => ?_⟩
      rw [hst]
      walk_at "1"
      have gL3 := s3 _ _ gL2
      refine ⟨Or.inl ⟨rfl, _, .inl (.inl gL3)⟩, ?_⟩
      refine ⟨_, _, .inl (.inl (.inl gL3)), trailN_last ds ms i, ?_⟩
      refine ⟨beh ds (ms.take i), t, m.1, m.2, rfl, by omega, rfl, Same.sqT s3 mv, by omega, ?_⟩
      refine (app_at (K := K) gL3 (by rw [List.length_map, trailN_len]; omega) ?_).2
      refine ⟨(Off.trans (Same.off (s2.trans s3)) off_upd).same hL, ?_, some (.ref t), ?_⟩
      · rw [upd_same, trailN_succ, List.map_append, beh_take hmi]
        rfl
      · rw [costN_succ]
    · rintro σ H2 ⟨s2, gL2, o5, rfl⟩
      rw [List.length_map, hmv.1] at gL2 
      walk_at "1"
      refine ⟨by decide, fun T hT => ?_⟩
      rw [List.length_map, hmv.1]
      exact q T L _ (s2.trans (same_new hT)) hL (same_new hT _ _ gL2) (.inl (.inl upd_same))
end
end U
namespace U
open PySem PySem.Spec PyProof.Rows L2

theorem map_wdV (l : List (List Nat)) : l.map wdV = (l.map wd).map V.str := by rw [List.map_map]; rfl
theorem wd_ok {d : List Nat} (h : D3 d) : PyData.strOk (wd d) = true := by
  unfold PyData.strOk wd
  rw [Array.all_eq_true_iff_forall_mem]
  intro x hx
  obtain ⟨e, he, rfl⟩ := List.mem_map.mp (by simpa using hx)
  have := h e he
  exact decide_eq_true (show 97 + e < 1114112 by omega)
theorem trail_ok {rows : List (List (Option Int))} {ds : List Nat} {ms : List (Nat × Nat)} (hg : GoodR rows ds ms) (h : D3 ds) : ∀ x ∈ (trail ds ms).map wd, PyData.strOk x = true := by
  intro x hx
  obtain ⟨d, hd, rfl⟩ := List.mem_map.mp hx
  unfold trail trailN at hd
  obtain ⟨i, _, rfl⟩ := List.mem_map.mp hd
  exact wd_ok (hg.d3 h i)
theorem costN_bound {rows : List (List (Option Int))} {ds : List Nat} {ms : List (Nat × Nat)} (hlo : RowsLo rows) (n : Nat) : 0 ≤ costN rows ds ms n ∧ costN rows ds ms n ≤ n * 10 ^ 32 := by
  induction n with
  | zero =>
    have e : costN rows ds ms 0 = 0 := rfl
    rw [e]
    exact ⟨Int.le_refl _, by simp⟩
  | succ n ih =>
    have hs : 0 ≤ stepC rows ds ms n ∧ stepC rows ds ms n ≤ 10 ^ 32 := by
      unfold stepC
      split
      · rename_i m _
        have h : lowP (prOf rows m.1 ((beh ds (ms.take n))[m.1]?.getD 0) m.2) = true := by
          unfold prOf
          cases e : rows[m.1]? with
          | none => rfl
          | some r =>
            show lowP ((r[wayI _ _]?).getD none) = true
            cases e2 : r[wayI ((beh ds (ms.take n))[m.1]?.getD 0) m.2]? with
            | none => rfl
            | some o => exact List.all_eq_true.mp (hlo r (List.mem_of_getElem? e)) o (List.mem_of_getElem? e2)
        generalize prOf rows m.1 ((beh ds (ms.take n))[m.1]?.getD 0) m.2 = o at *
        cases o with
        | none => exact ⟨Int.le_refl _, by decide⟩
        | some i =>
          have h := of_decide_eq_true h
          show 0 ≤ i ∧ i ≤ 10 ^ 32
          omega
      · exact ⟨Int.le_refl _, by decide⟩
    rw [costN_succ]
    have e : ((n + 1 : Nat) : Int) * 10 ^ 32 = n * 10 ^ 32 + 10 ^ 32 := by rw [Int.natCast_add, Int.add_mul]; simp
    omega
theorem cost_log {rows : List (List (Option Int))} {ds : List Nat} {ms : List (Nat × Nat)} (hlo : RowsLo rows) (h : ms.length ≤ 1000) : (costR rows ds ms).natAbs.log2 < 1920 := by
  obtain ⟨a, b⟩ := costN_bound (ds := ds) (ms := ms) hlo ms.length
  unfold costR
  generalize costN rows ds ms ms.length = c at *
  have c2 : c ≤ 1000 * 10 ^ 32 := Int.le_trans b (Int.mul_le_mul_of_nonneg_right (by omega) (by decide))
  by_cases e : c.natAbs = 0
  · rw [e]; decide
  · have : c.natAbs.log2 < 200 := (Nat.log2_lt e).mpr (by
      have e2 : (1000 * 10 ^ 32 : Int) < 2 ^ 200 := by decide
      have e3 : ((2 ^ 200 : Nat) : Int) = 2 ^ 200 := by decide
      omega)
    omega
theorem sqL_off {K : PySem.W.Frag} {H H' : Hp} {b p : Addr} {bs xs : List V} (e : Off b H H') (hb : H b = some (.lst bs)) (ne : xs ≠ bs) (h : SqL K H p xs) : SqL K H' p xs := by
  rcases h with (h | ⟨ow, h⟩) | h
  · exact .inl (.inl (e _ _ (by rintro rfl; rw [hb] at h; injection h with h; injection h with h; exact ne h.symm) h))
  · exact .inl (.inr ⟨ow, e _ _ (by rintro rfl; rw [hb] at h; injection h with h; cases h) h⟩)
  · exact .inr h
theorem RowVL.off {K : PySem.W.Frag} {H H' : Hp} {b : Addr} {m : Int} {x : V} {rows : List (List (Option Int))} (e : Off b H H') (hb : Bx H b m) (ho : RowsOk rows) (h : RowVL K H x rows) : RowVL K H' x rows := by
  obtain ⟨g, s, k, hb, _⟩ := hb
  obtain ⟨p, xs, rfl, hs, hl, hr⟩ := h
  refine ⟨p, xs, rfl, sqL_off e hb ?_ hs, hl, fun i v r z1 z2 => ?_⟩
  · rintro rfl
    have h0 := ho.1
    obtain ⟨q, e1, _⟩ := hr 0 (.int g) rows[0] rfl (List.getElem?_eq_getElem (by omega))
    cases e1
  · obtain ⟨q, e1, e2⟩ := hr i v r z1 z2
    refine ⟨q, e1, sqA_off e hb (fun w => ?_) e2⟩
    have l := congrArg List.length w
    rw [List.length_map, (ho.2.2 r (List.mem_of_getElem? z2)).1] at l
    cases l
/-! ### the largest crates alone -/
theorem beh_largest (ds : List Nat) (ms : List (Nat × Nat)) (k : Nat) : (beh ds ms).take k = beh (ds.take k) (largeL ms k) := by
  unfold beh largeL
  induction ms generalizing ds with
  | nil => rfl
  | cons m r ih =>
    rw [List.foldl_cons, ih]
    by_cases e : m.1 < k
    · rw [List.filter_cons_of_pos (by simpa using e), List.foldl_cons, List.take_set]
    · rw [List.filter_cons_of_neg (by simpa using e), List.take_set, List.set_eq_of_length_le (by rw [List.length_take]; omega)]
theorem alw_largest {rows : List (List (Option Int))} {es : List Nat} {k c d : Nat} (hc : c < k) (hk : k ≤ es.length) (h : alw rows es c d = true) : alw (rows.take k) (es.take k) c d = true := by
  unfold alw at h ⊢
  simp only [decide_eq_true_eq, Bool.and_eq_true] at h ⊢
  have e1 : (es.take k)[c]?.getD 0 = es[c]?.getD 0 := by rw [List.getElem?_take_of_lt hc]
  have e2 : ∀ a b, prOf (rows.take k) c a b = prOf rows c a b := fun a b => by
    unfold prOf
    rw [List.getElem?_take_of_lt hc]
  rw [e1, e2]
  refine ⟨h.1, h.2.1, ?_⟩
  have h3 := h.2.2
  rw [List.drop_take, h3, List.take_replicate, List.length_take]
  congr 1
  omega
theorem good_largest {rows : List (List (Option Int))} {ds : List Nat} {ms : List (Nat × Nat)} {k : Nat} (hl : ds.length = rows.length) (hk : k ≤ rows.length) (h : GoodR rows ds ms) : GoodR (rows.take k) (ds.take k) (largeL ms k) := by
  have key : ∀ n, n ≤ ms.length → GoodR (rows.take k) (ds.take k) (largeL (ms.take n) k) := by
    intro n
    induction n with
    | zero => exact fun _ i m z => nomatch z
    | succ n ih =>
      intro hn
      have ih := ih (by omega)
      have hm : ms[n]? = some ms[n] := List.getElem?_eq_getElem (by omega)
      have et : ms.take (n + 1) = ms.take n ++ [ms[n]] := by rw [List.take_succ, hm]; rfl
      have es : largeL (ms.take (n + 1)) k = largeL (ms.take n) k ++ (if ms[n].1 < k then [ms[n]] else []) := by
        unfold largeL
        rw [et, List.filter_append]
        by_cases e : ms[n].1 < k
        · simp [e]
        · simp [e]
      rw [es]
      by_cases e : ms[n].1 < k
      · rw [if_pos e]
        obtain ⟨a, b, c⟩ := h n _ hm
        refine ih.snoc (by rw [List.length_take]; omega) b ?_
        rw [← beh_largest]
        exact alw_largest e (by rw [beh_len]; omega) c
      · rw [if_neg e, List.append_nil]
        exact ih
  have := key ms.length (Nat.le_refl _)
  rwa [List.take_length] at this
theorem large_all {rows : List (List (Option Int))} {ds : List Nat} {ms : List (Nat × Nat)} (h : GoodR rows ds ms) : largeL ms rows.length = ms := by
  unfold largeL
  exact List.filter_eq_self.mpr fun m hm => decide_eq_true (h.small hm).1
end U
namespace U
open PySem PySem.Spec PyProof.Rows L2

/-- what the law holds in hand, b the box -/
structure Fx (K : PySem.W.Frag) (H : Hp) (b : Addr) (m : Int) (y : Addr) (v z : V) (rows : List (List (Option Int))) (ds : List Nat) (ms : List (Nat × Nat)) (p kp L : Addr) (ts : List Addr) : Prop where
  yd : Yd K H y rows
  rv : RowVL K H v rows
  gp : H p = some (.lst (ts.map V.ref))
  gk : H kp = some (.lst (ts.map V.ref))
  gL : H L = some (.lst ((trail ds ms).map wdV))
  mv : Mvs K H ts ms
  rm : RowM K H z ms
  bx : Bx H b m
section
variable {K : PySem.W.Frag} {H H' : Hp} {b : Addr} {m : Int} {y : Addr} {v z : V} {rows : List (List (Option Int))} {ds : List Nat} {ms : List (Nat × Nat)} {p kp L : Addr} {ts : List Addr}
theorem Fx.same (e : Same H H') (h : Fx K H b m y v z rows ds ms p kp L ts) : Fx K H' b m y v z rows ds ms p kp L ts :=
  ⟨h.yd.same e, h.rv.same e, e _ _ h.gp, e _ _ h.gk, e _ _ h.gL, h.mv.same e, h.rm.same e, h.bx.same e⟩
theorem refs_box {l : Addr} {us : List Addr} (hb : Bx H b m) (h : H l = some (.lst (us.map V.ref))) : l ≠ b := by
  rintro rfl
  obtain ⟨g, s, k, hb, _⟩ := hb
  rw [h] at hb
  injection hb with hb
  injection hb with hb
  cases us with
  | nil => cases hb
  | cons a r =>
    injection hb with hb
    cases hb
theorem Fx.off {m' : Int} (e : Off b H H') (b' : Bx H' b m') (ho : RowsOk rows) (h : Fx K H b m y v z rows ds ms p kp L ts) : Fx K H' b m' y v z rows ds ms p kp L ts := by
  obtain ⟨lb, hlb⟩ := h.bx.at_
  have nL : L ≠ b := by
    rintro rfl
    obtain ⟨g, s, k, hb, _⟩ := h.bx
    have gL := h.gL
    rw [hb] at gL
    injection gL with gL
    injection gL with gL
    have hl := congrArg List.length gL
    unfold trail trailN at gL
    rw [List.range_succ_eq_map] at gL
    injection gL with gL
    cases gL
  refine ⟨Off.yd e hlb h.yd, h.rv.off e h.bx ho, e.lst h.gp (refs_box h.bx h.gp), e.lst h.gk (refs_box h.bx h.gk), e.lst h.gL nL, Mvs.off e hlb h.mv, ?_, b'⟩
  obtain ⟨q, us, r1, r2, r3, r4⟩ := h.rm
  refine ⟨q, us, r1, ?_, Mvs.off e hlb r3, r4⟩
  obtain ⟨g, s, k, hb, _⟩ := h.bx
  refine sqA_off e hb ?_ r2
  cases us with
  | nil => exact fun w => nomatch w
  | cons a r =>
    intro w
    injection w with w
    cases w
theorem Fx.rin {x : V} (h : Fx K H b m y v z rows ds ms p kp L ts) (ha : Arr rows.length x ds) (hg : GoodR rows ds ms) {k : List (List (Option Int)) → List Nat → List (Nat × Nat) → Prop} (q : k rows ds ms) : RowIn K H (.ref y) x z k := ⟨y, rows, ds, ms, rfl, h.yd, ha, h.rm, hg, q⟩
end
section
variable {K : PySem.W.Frag} (F : KF K) {vs : List V} {H : Hp} {Q : VK} {E : XK}
local macro_rules | `(tactic| walk_at "w") => `(tactic| try simp only [turnE, lcT, Snoc, tRet, tRetN, tAndV, tOrV, tNotV, tCB, tCons, tVar, tNil, tC, tOp, tSeq, tAsg, gName, gSub, tIfS, tDrop, tFn, tTup, tLst, tNext, tB, tTest, tNot, tAnd, tOr, tIf, tChain, tUn, rU, tFld, tPart, tNoPart, L2.tSl, tBM, tPar, tPar3, tTruth, tDNewK,
  L2.start, List.map_cons, List.map_nil, List.length_cons, List.length_nil, List.replicate_succ, List.replicate_zero, List.append_nil, List.nil_append, List.cons_append, List.singleton_append, Nat.sub_self, Nat.zero_add, Nat.reduceAdd, Nat.reduceSub,
  List.getElem?_cons_zero, List.getElem?_cons_succ, List.set_cons_zero, List.set_cons_succ, Option.some.injEq, exists_eq_left, exists_eq_left', V.int.injEq, V.bl.injEq, V.str.injEq, V.ref.injEq,
  uAdd_int, uAdd_str, uSub_int, uMul_int, uMul_str, uDiv_int, uMod_int, uPow_int, uLt_int, uLe_int, uGt_int, uGe_int, uIs_non, uNis_non, uIs_bl, uNis_bl, sp1, sp2, sp3, sp4, uEq_int, uEq_str, uNe_int, uNe_str, uSl_str, uLen_str, decide_eq_true_eq])
local macro_rules | `(tactic| walk_at "1") => `(tactic| try simp only [turnE, lcT, Snoc, tRet, tRetN, tAndV, tOrV, tNotV, tCB, tCons, tVar, tNil, tC, tOp, tAsg, gName, gSub, tIfS, tDrop, tFn, tTup, tLst, tNext, tB, tTest, tNot, tAnd, tOr, tIf, tChain, tUn, rU, tFld, tPart, tNoPart, L2.tSl, tBM, tPar, tPar3, tTruth, tDNewK,
  L2.start, List.map_cons, List.map_nil, List.length_cons, List.length_nil, List.replicate_succ, List.replicate_zero, List.append_nil, List.nil_append, List.cons_append, List.singleton_append, Nat.sub_self, Nat.zero_add, Nat.reduceAdd, Nat.reduceSub,
  List.getElem?_cons_zero, List.getElem?_cons_succ, List.set_cons_zero, List.set_cons_succ, Option.some.injEq, exists_eq_left, exists_eq_left', V.int.injEq, V.bl.injEq, V.str.injEq, V.ref.injEq,
  uAdd_int, uAdd_str, uSub_int, uMul_int, uMul_str, uDiv_int, uMod_int, uPow_int, uLt_int, uLe_int, uGt_int, uGe_int, uIs_non, uNis_non, uIs_bl, uNis_bl, sp1, sp2, sp3, sp4, uEq_int, uEq_str, uNe_int, uNe_str, uSl_str, uLen_str, decide_eq_true_eq])
local macro_rules | `(tactic| walk_at "s") => `(tactic| ((try dsimp only [turnE]); with_reducible refine seq_ ?_))

/-- [move for move in row if test]: the moves that the test takes -/
theorem lc_filter {σ : L2.St} {i j : Nat} {tt : TT} {p : Addr} {ts : List Addr} {ms : List (Nat × Nat)} (f : Nat × Nat → Bool) (hv : σ[i]? = some (some (V.ref p))) (hj : j < σ.length) (hs : SqA K H p (ts.map V.ref)) (hm : Mvs K H ts ms) (h1000 : ms.length ≤ 1000)
    (htt : ∀ t m H', Same H H' → Mv K H' t m.1 m.2 → ∀ R : Bool → Hp → Prop, R (f m) H' → tt (σ.set j (some (.ref t))) H' R)
    (q : ∀ D us H', Same H H' → H D = none → H' D = some (.lst (us.map V.ref)) → Mvs K H' us (ms.filter f) → Q (.ref D) H') : tLc (iSeq K (tVar i)) (gName j) tt (tVar j) [j] σ H Q := by
  refine tLc_seq (p := p) hs (fun Q => tVar_eq hv Q) fun J G P hG D hD => ?_
  refine lc_plain P (fun i H' => Same H H' ∧ ∃ us, H' D = some (.lst (us.map V.ref)) ∧ Mvs K H' us ((ms.take i).filter f) ∧ us.length ≤ i) ⟨same_new hD, [], upd_same, mvs_nil, Nat.le_refl _⟩ (fun i H' z => hG H' z.1) ?_ ?_
  · rintro i x H2 hx ⟨s2, us, gD, hu, hlen⟩
    obtain ⟨t, m, rfl, ht, hmi, mv⟩ := mv_at (hm.same s2) hx
    show wipe _ [j] = wipe σ [j] ∧ _
    refine ⟨by simp only [wipe, List.set_set], ?_⟩
    have ew : (wipe σ [j]).set j (some (V.ref t)) = σ.set j (some (V.ref t)) := by simp only [wipe, List.set_set]
    show tt ((wipe σ [j]).set j (some (.ref t))) H2 fun b H3 => if b = true then tVar j ((wipe σ [j]).set j (some (.ref t))) H3 _ else _
    rw [ew]
    refine htt t m H2 s2 mv _ ?_
    have et : ms.take (i + 1) = ms.take i ++ [m] := by rw [List.take_succ, hmi]; rfl
    have lt : i < ms.length := (List.getElem?_eq_some_iff.mp hmi).1
    cases e : f m with
    | true =>
      rw [if_pos rfl]
      show tVar j (σ.set j (some (.ref t))) H2 _
      rw [tVar_eq (List.getElem?_set_self hj)]
      refine ⟨_, gD, ?_, (Off.trans (Same.off s2) off_upd).same hD, us ++ [t], ?_, ?_, by simp; omega⟩
      · rw [List.length_map]
        exact Nat.lt_of_lt_of_le (show us.length < 1001 by omega) (by decide)
      · rw [upd_same, List.map_append]
        rfl
      · have : (ms.take (i + 1)).filter f = (ms.take i).filter f ++ [m] := by rw [et, List.filter_append]; simp [e]
        rw [this]
        exact Mvs.snoc (Mvs.off off_upd gD hu) (off_upd.sqT gD mv)
    | false =>
      rw [if_neg (by decide)]
      refine ⟨s2, us, gD, ?_, by omega⟩
      have : (ms.take (i + 1)).filter f = (ms.take i).filter f := by rw [et, List.filter_append]; simp [e]
      rw [this]
      exact hu
  · rintro H2 ⟨s2, us, gD, hu, _⟩
    rw [List.length_map, hm.1, List.take_length] at hu
    exact q D us H2 s2 hD gD hu
theorem cutV_to {xs : List V} {k : Nat} (h : k ≤ xs.length) : cutV xs none (some (k : Int)) = xs.take k := by
  unfold cutV
  rw [HT.sIx_none, HT.sIx_nat, List.drop_zero]
  congr 1
  omega
/-- plain[:k] -/
theorem cut_rows {v : V} {rows : List (List (Option Int))} {k : Nat} (h : RowVL K H v rows) (hk : k ≤ rows.length) (q : ∀ l H', Same H H' → RowV K H' (.ref l) (rows.take k) → Q (.ref l) H') : uSl K v none (some (k : Int)) H Q := by
  obtain ⟨p, xs, rfl, hs, hl, hr⟩ := h
  refine .inl ⟨p, xs, rfl, hs, fun l nl => q l _ (same_new nl) ⟨l, _, rfl, .inl (.inl (.inl upd_same)), ?_, fun i v r z1 z2 => ?_⟩⟩
  · rw [cutV_to (by omega), List.length_take, List.length_take, hl]
  · rw [cutV_to (by omega)] at z1
    have lt : i < k := by
      have := (List.getElem?_eq_some_iff.mp z1).1
      rw [List.length_take] at this
      omega
    rw [List.getElem?_take_of_lt lt] at z1 z2
    obtain ⟨u, e1, e2⟩ := hr i v r z1 z2
    exact ⟨u, e1, e2.same (same_new nl)⟩
theorem rows_take_ok {rows : List (List (Option Int))} {k : Nat} (h : RowsOk rows) (hk : k ≤ rows.length) (h1 : 1 ≤ k) : RowsOk (rows.take k) := by
  refine ⟨by rw [List.length_take]; omega, by rw [List.length_take]; have := h.2.1; omega, fun r hr => h.2.2 r (List.mem_of_mem_take hr)⟩
end
end U
namespace U
open PySem PySem.Spec PyProof.Rows L2

def sp__law_right (K : PySem.W.Frag) : Sp := sp4 fun x v w z H Q _ => ∃ b m rows ds ms p ts, x = .ref b ∧ Bx H b m ∧ m ≤ 1000000 ∧ RowVL K H v rows ∧ RowsOk rows ∧ RowsLo rows ∧ Arr rows.length w ds ∧ z = .ref p ∧ H p = some (.lst (ts.map V.ref)) ∧ Mvs K H ts ms ∧ GoodR rows ds ms ∧ ms.length ≤ 1000 ∧
  ∀ H', Off b H H' → Bx H' b (m + 2) → Q (.bl true) H'
def t__law_right (K : PySem.W.Frag) (E : XK) : TS := (tSeq (tPar 4 5 (tCons (tMake (He.ga K "Yard") (sp_Yard_init K) [] E (tCons (tVar 1) tNil)) (tCons (tCB (uLst K) (tCons (tVar 3) tNil)) tNil))) (tSeq (tAsg (tFn (sp__law_followed K) E (tCons (tVar 1) (tCons (tVar 2) (tCons (tVar 3) tNil)))) (gTup K 2 (gCons (gName 6) (gCons (gName 7) gNil)))) (tSeq (tAsg (tOp (uIx K) (tLst (tCons (tVar 3) (tCons (tCB (uTup K) (tCons (tVar 3) tNil)) tNil))) (tFn (sp__law_take K) E (tCons (tVar 0) (tCons (tC (.int 2)) tNil)))) (gName 8)) (tSeq (tAsg (tFn (sp_all_behind K) E (tCons (tVar 4) (tCons (tVar 2) (tCons (tVar 8) tNil)))) (gName 9)) (tSeq (tIfS (tOr (tTest (tOp (uNe K) (tVar 9) (tVar 6))) (tTest (tOp (uNe K) (tFn (sp_behind K) E (tCons (tVar 4) (tCons (tVar 2) (tCons (tVar 8) tNil)))) (tOp (uIx K) (tVar 6) (tUn (rU fun i => .int (-i)) (tC (.int 1))))))) (tRet (tC (.bl false))) tNext) (tSeq (tIfS (tTest (tOp (uNe K) (tCB (uRepr K) (tCons (tFn (sp_row_cost K) E (tCons (tVar 4) (tCons (tVar 2) (tCons (tVar 8) tNil)))) tNil)) (tCB (uRepr K) (tCons (tVar 7) tNil)))) (tRet (tC (.bl false))) tNext) (tSeq (tDrop (tBM K "list" rAppend (tVar 9) (tCons (tC .non) tNil))) (tSeq (tAsg (tFn (sp_row_crates K) E (tCons (tVar 4) (tCons (tVar 2) (tCons (tVar 8) tNil)))) (gName 10)) (tSeq (tAsg (tLc (iRng1 (tCons (tCB (uLen K) (tCons (tVar 2) tNil)) tNil)) (gName 15) tYes (tCB (uLen K) (tCons (tLc (iSeq K (tVar 3)) (gName 16) (tTest (tOp (uEq K) (tOp (uIx K) (tVar 16) (tC (.int 0))) (tVar 15))) (tVar 16) [16]) tNil)) [15]) (gName 11)) (tSeq (tIfS (tTest (tOp (uNe K) (tCB (uRepr K) (tCons (tVar 10) tNil)) (tCB (uRepr K) (tCons (tVar 11) tNil)))) (tRet (tC (.bl false))) tNext) (tSeq (tDrop (tBM0 K "list" rClear (tVar 10))) (tSeq (tIfS (tOr (tTest (tOp uNis (tFn (sp_first_bad K) E (tCons (tVar 4) (tCons (tVar 2) (tCons (tVar 8) tNil)))) (tC .non))) (tOr (tTest (tOp uNis (tFn (sp_is_row K) E (tCons (tVar 4) (tCons (tVar 2) (tCons (tVar 8) tNil)))) (tC (.bl true)))) (tTest (tOp (uNe K) (tVar 3) (tVar 5))))) (tRet (tC (.bl false))) tNext) (tSeq (tAsg (tFn (sp__law_take K) E (tCons (tVar 0) (tCons (tOp uAdd (tCB (uLen K) (tCons (tVar 2) tNil)) (tC (.int 1))) tNil))) (gName 12)) (tSeq (tAsg (tFn (sp_row_of_largest K) E (tCons (tVar 4) (tCons (tVar 2) (tCons (tVar 3) (tCons (tVar 12) tNil))))) (gName 13)) (tSeq (tIfS (tTest (tOp (uNe K) (tVar 13) (tLc (iSeq K (tVar 3)) (gName 16) (tTest (tOp uLt (tOp (uIx K) (tVar 16) (tC (.int 0))) (tVar 12))) (tVar 16) [16]))) (tRet (tC (.bl false))) tNext) (tSeq (tIfS (tTest (tOp uGt (tVar 12) (tC (.int 0)))) (tSeq (tAsg (tMake (He.ga K "Yard") (sp_Yard_init K) [] E (tCons (tSl (uSl K) (tVar 1) tNoPart (tPart (tVar 12))) tNil)) (gName 14)) (tIfS (tTest (tOp (uNe K) (tFn (sp_behind K) E (tCons (tVar 14) (tCons (tSl (uSl K) (tVar 2) tNoPart (tPart (tVar 12))) (tCons (tVar 13) tNil)))) (tSl (uSl K) (tOp (uIx K) (tVar 6) (tUn (rU fun i => .int (-i)) (tC (.int 1)))) tNoPart (tPart (tVar 12))))) (tRet (tC (.bl false))) tNext)) tNext) (tSeq (tDrop (tBM K "list" rAppend (tVar 13) (tCons (tC .non) tNil))) (tRet (tAndV (tOp (uEq K) (tFn (sp_all_behind K) E (tCons (tVar 4) (tCons (tVar 2) (tCons (tVar 3) tNil)))) (tVar 6)) (tOp (uEq K) (tFn (sp_row_of_largest K) E (tCons (tVar 4) (tCons (tVar 2) (tCons (tVar 3) (tCons (tCB (uLen K) (tCons (tVar 2) tNil)) tNil))))) (tVar 3)))))))))))))))))))))
section
variable {K : PySem.W.Frag} (F : KF K) {vs : List V} {H : Hp} {Q : VK} {E : XK}
local macro_rules | `(tactic| walk_at "w") => `(tactic| try simp only [turnE, lcT, Snoc, tRet, tRetN, tAndV, tOrV, tNotV, tCB, tCons, tVar, tNil, tC, tOp, tSeq, tAsg, gName, gSub, tIfS, tDrop, tFn, tTup, tLst, tNext, tB, tTest, tNot, tAnd, tOr, tIf, tChain, tUn, rU, tFld, tPart, tNoPart, L2.tSl, tBM, tPar, tPar3, tTruth, tDNewK,
  L2.start, List.map_cons, List.map_nil, List.length_cons, List.length_nil, List.replicate_succ, List.replicate_zero, List.append_nil, List.nil_append, List.cons_append, List.singleton_append, Nat.sub_self, Nat.zero_add, Nat.reduceAdd, Nat.reduceSub,
  List.getElem?_cons_zero, List.getElem?_cons_succ, List.set_cons_zero, List.set_cons_succ, Option.some.injEq, exists_eq_left, exists_eq_left', V.int.injEq, V.bl.injEq, V.str.injEq, V.ref.injEq,
  uAdd_int, uAdd_str, uSub_int, uMul_int, uMul_str, uDiv_int, uMod_int, uPow_int, uLt_int, uLe_int, uGt_int, uGe_int, uIs_non, uNis_non, uIs_bl, uNis_bl, sp1, sp2, sp3, sp4, uEq_int, uEq_str, uNe_int, uNe_str, uSl_str, uLen_str, decide_eq_true_eq])
local macro_rules | `(tactic| walk_at "1") => `(tactic| try simp only [turnE, lcT, Snoc, tRet, tRetN, tAndV, tOrV, tNotV, tCB, tCons, tVar, tNil, tC, tOp, tAsg, gName, gSub, tIfS, tDrop, tFn, tTup, tLst, tNext, tB, tTest, tNot, tAnd, tOr, tIf, tChain, tUn, rU, tFld, tPart, tNoPart, L2.tSl, tBM, tPar, tPar3, tTruth, tDNewK,
  L2.start, List.map_cons, List.map_nil, List.length_cons, List.length_nil, List.replicate_succ, List.replicate_zero, List.append_nil, List.nil_append, List.cons_append, List.singleton_append, Nat.sub_self, Nat.zero_add, Nat.reduceAdd, Nat.reduceSub,
  List.getElem?_cons_zero, List.getElem?_cons_succ, List.set_cons_zero, List.set_cons_succ, Option.some.injEq, exists_eq_left, exists_eq_left', V.int.injEq, V.bl.injEq, V.str.injEq, V.ref.injEq,
  uAdd_int, uAdd_str, uSub_int, uMul_int, uMul_str, uDiv_int, uMod_int, uPow_int, uLt_int, uLe_int, uGt_int, uGe_int, uIs_non, uNis_non, uIs_bl, uNis_bl, sp1, sp2, sp3, sp4, uEq_int, uEq_str, uNe_int, uNe_str, uSl_str, uLen_str, decide_eq_true_eq])
local macro_rules | `(tactic| walk_at "s") => `(tactic| ((try dsimp only [turnE]); with_reducible refine seq_ ?_))

variable {b : Addr} {m : Int} {y : Addr} {v z : V} {rows : List (List (Option Int))} {ds : List Nat} {ms : List (Nat × Nat)} {p kp L : Addr} {ts : List Addr}
theorem rowM_list (hp : H p = some (.lst (ts.map V.ref))) (hm : Mvs K H ts ms) (h1000 : ms.length ≤ 1000) : RowM K H (.ref p) ms := ⟨p, ts, rfl, .inl (.inl (.inl hp)), hm, h1000⟩
theorem good3 (hg : GoodR rows ds ms) : ∀ m ∈ ms, m.2 < 3 := fun _ hm => (hg.small hm).2
theorem eq_trail {l l' : Addr} (hg : GoodR rows ds ms) (h3 : D3 ds) (h : H l = some (.lst ((trail ds ms).map wdV))) (h' : H l' = some (.lst ((trail ds ms).map wdV))) (q : Q (.bl true) H) : uEq K (.ref l) (.ref l') H Q := by
  rw [map_wdV] at h h'
  refine eq_strs (.inl (.inl h)) (.inl (.inl h')) (trail_ok hg h3) (trail_ok hg h3) ?_
  rw [decide_eq_true rfl]
  exact q
theorem ne_trail {l l' : Addr} (hg : GoodR rows ds ms) (h3 : D3 ds) (h : H l = some (.lst ((trail ds ms).map wdV))) (h' : H l' = some (.lst ((trail ds ms).map wdV))) (q : Q (.bl false) H) : uNe K (.ref l) (.ref l') H Q := by
  rw [map_wdV] at h h'
  refine ne_strs (.inl (.inl h)) (.inl (.inl h')) (trail_ok hg h3) (trail_ok hg h3) ?_
  rw [decide_eq_true rfl]
  exact q
theorem right_3 {H0 : Hp} {x7 x9 x10 x11 x12 x14 x15 x16 : Option V} {so : Addr} {xs : List V} {nx : L2.St → Hp → Prop} (F : KF K) (f : Fx K H0 b m y v z rows ds ms p kp L ts) (ha : Arr rows.length (wdV ds) ds) (hg : GoodR rows ds ms) (h1000 : ms.length ≤ 1000)
    (s0 : Same H0 H) (n0 : H0 so = none) (gs : H so = some (.lst xs)) (hxs : xs.length ≤ 1000) (q : ∀ H', Same H0 H' → Q (.bl true) H') :
    tSeq (tDrop (tBM K "list" rAppend (tVar 13) (tCons (tC .non) tNil))) (tRet (tAndV (tOp (uEq K) (tFn (sp_all_behind K) E (tCons (tVar 4) (tCons (tVar 2) (tCons (tVar 3) tNil)))) (tVar 6)) (tOp (uEq K) (tFn (sp_row_of_largest K) E (tCons (tVar 4) (tCons (tVar 2) (tCons (tVar 3) (tCons (tCB (uLen K) (tCons (tVar 2) tNil)) tNil))))) (tVar 3)))) { nx := nx, rt := Q } [some (.ref b), some v, some (wdV ds), some (.ref p), some (.ref y), some (.ref kp), some (.ref L), x7, some z, x9, x10, x11, x12, some (.ref so), x14, x15, x16] H := by
  obtain ⟨_, a1, a2⟩ := id ha
  walk_at "s"
  walk_at "1"
  refine app_at gs (by omega) ?_
  have s1 : Same H0 (upd H so (.lst (xs ++ [V.non]))) := (Off.trans (Same.off s0) off_upd).same n0
  generalize upd H so (.lst (xs ++ [V.non])) = H1 at *
  have f1 := f.same s1
  refine ⟨y, rows, ds, ms, rfl, f1.yd, ha, rowM_list f1.gp f1.mv h1000, hg, fun l H2 s2 hl g2 => ?_⟩
  have s02 := s1.trans s2
  have f2 := f.same s02
  refine eq_trail hg a2 g2 f2.gL ⟨_, rfl, ?_⟩
  rw [if_pos rfl]
  refine ⟨Nat.le_trans (by rw [wd_length]; obtain ⟨_, _, _, _, _, _, l1, _⟩ := f.yd; omega) (show 60 ≤ sizeLine by decide), ?_⟩
  refine ⟨y, rows, ds, ms, rfl, f2.yd, ha, rowM_list f2.gp f2.mv h1000, hg, (wd ds).length, rfl, by rw [wd_length]; omega, fun l us H3 s3 hl3 g3 hu3 => ?_⟩
  have f3 := f2.same s3
  have el : largeL ms (wd ds).length = ms := by rw [wd_length, a1]; exact large_all hg
  rw [el] at hu3
  refine eq_mvs (.inl (.inl g3)) hu3 (good3 hg) (.inl (.inl f3.gp)) f3.mv (good3 hg) ?_
  rw [decide_eq_true rfl]
  exact q H3 (s02.trans s3)
theorem right_2 {x7 x9 x10 x11 x12 x13 x14 x15 x16 : Option V} {nx : L2.St → Hp → Prop} (F : KF K) (f : Fx K H b m y v z rows ds ms p kp L ts) (hm : m ≤ 100000000) (ho : RowsOk rows) (ha : Arr rows.length (wdV ds) ds) (hg : GoodR rows ds ms) (h1000 : ms.length ≤ 1000)
    (q : ∀ H', Off b H H' → Bx H' b (m + 1) → Q (.bl true) H') :
    tSeq (tAsg (tFn (sp__law_take K) E (tCons (tVar 0) (tCons (tOp uAdd (tCB (uLen K) (tCons (tVar 2) tNil)) (tC (.int 1))) tNil))) (gName 12)) (tSeq (tAsg (tFn (sp_row_of_largest K) E (tCons (tVar 4) (tCons (tVar 2) (tCons (tVar 3) (tCons (tVar 12) tNil))))) (gName 13)) (tSeq (tIfS (tTest (tOp (uNe K) (tVar 13) (tLc (iSeq K (tVar 3)) (gName 16) (tTest (tOp uLt (tOp (uIx K) (tVar 16) (tC (.int 0))) (tVar 12))) (tVar 16) [16]))) (tRet (tC (.bl false))) tNext) (tSeq (tIfS (tTest (tOp uGt (tVar 12) (tC (.int 0)))) (tSeq (tAsg (tMake (He.ga K "Yard") (sp_Yard_init K) [] E (tCons (tSl (uSl K) (tVar 1) tNoPart (tPart (tVar 12))) tNil)) (gName 14)) (tIfS (tTest (tOp (uNe K) (tFn (sp_behind K) E (tCons (tVar 14) (tCons (tSl (uSl K) (tVar 2) tNoPart (tPart (tVar 12))) (tCons (tVar 13) tNil)))) (tSl (uSl K) (tOp (uIx K) (tVar 6) (tUn (rU fun i => .int (-i)) (tC (.int 1)))) tNoPart (tPart (tVar 12))))) (tRet (tC (.bl false))) tNext)) tNext) (tSeq (tDrop (tBM K "list" rAppend (tVar 13) (tCons (tC .non) tNil))) (tRet (tAndV (tOp (uEq K) (tFn (sp_all_behind K) E (tCons (tVar 4) (tCons (tVar 2) (tCons (tVar 3) tNil)))) (tVar 6)) (tOp (uEq K) (tFn (sp_row_of_largest K) E (tCons (tVar 4) (tCons (tVar 2) (tCons (tVar 3) (tCons (tCB (uLen K) (tCons (tVar 2) tNil)) tNil))))) (tVar 3)))))))) { nx := nx, rt := Q } [some (.ref b), some v, some (wdV ds), some (.ref p), some (.ref y), some (.ref kp), some (.ref L), x7, some z, x9, x10, x11, x12, x13, x14, x15, x16] H := by
  obtain ⟨_, a1, a2⟩ := id ha
  obtain ⟨_, _, _, _, _, _, l1, l2, _⟩ := id f.yd
  have hsz : (wd ds).length ≤ sizeLine := Nat.le_trans (by rw [wd_length]; omega) (show 60 ≤ sizeLine by decide)
  walk_at "s"
  walk_at "1"
  refine ⟨hsz, ?_⟩
  refine take_of f.bx (by omega) (by omega) (by rw [wd_length]; omega) fun d H1 d0 d1 o1 b1 => ?_
  rw [wd_length] at d1
  obtain ⟨k, rfl⟩ : ∃ k : Nat, d = k := ⟨d.toNat, by omega⟩
  have f1 := f.off o1 b1 ho
  walk_at "s"
  walk_at "1"
  refine ⟨y, rows, ds, ms, rfl, f1.yd, ha, rowM_list f1.gp f1.mv h1000, hg, k, rfl, by omega, fun so us H2 s2 nso gso hus => ?_⟩
  have f2 := f1.same s2
  walk_at "s"
  walk_at "1"
  refine lc_filter (f := fun m => decide (m.1 < k)) rfl (by simp) (.inl (.inl (.inl f2.gp))) f2.mv h1000 ?_ ?_
  · rintro t mm H' s' mv R r
    simp only [List.set_cons_zero, List.set_cons_succ]
    walk_at "1"
    refine ⟨_, _, .inr mv, rfl, _, rfl, ?_⟩
    have e : decide ((mm.1 : Int) < (k : Int)) = decide (mm.1 < k) := by simp
    show R (decide ((mm.1 : Int) < (k : Int))) H'
    rw [e]
    exact r
  · rintro D2 us2 H3 s3 nD2 gD2 hus2
    have gso3 := s3 _ _ gso
    refine ne_mvs (.inl (.inl gso3)) (hus.same s3) (fun m hm => good3 hg m (List.mem_filter.mp hm).1) (.inl (.inl gD2)) hus2 (fun m hm => good3 hg m (List.mem_filter.mp hm).1) ⟨_, rfl, ?_⟩
    rw [decide_eq_true (show largeL ms k = ms.filter (fun m => decide (m.1 < k)) from rfl), if_neg (by decide)]
    show tSeq _ _ _ _ _
    have f3 := f2.same s3
    have s13 := s2.trans s3
    have hlen : us.length ≤ 1000 := by
      rw [hus.1]
      exact Nat.le_trans (List.length_filter_le _ _) h1000
    walk_at "s"
    walk_at "1"
    by_cases k0 : 0 < k
    · rw [if_pos (by omega)]
      walk_at "s"
      walk_at "1"
      simp only [tMake]
      walk_at "1"
      refine cut_rows f3.rv (by omega) fun pl2 H4 s4 hv4 => ?_
      refine make_yard hv4 (rows_take_ok ho (by omega) (by omega)) fun y2 H5 s5 ny2 hy2 => ?_
      have s45 := s4.trans s5
      have f5 := f3.same s45
      have gso5 := s45 _ _ gso3
      have hus5 := (hus.same s3).same s45
      walk_at "1"
      rw [cut_to (by omega)]
      refine ⟨hsz, ?_⟩
      have ha2 : Arr (rows.take k).length (wdV (ds.take k)) (ds.take k) := ⟨rfl, by rw [List.length_take, List.length_take, a1], fun d hd => a2 d (List.mem_of_mem_take hd)⟩
      refine ⟨y2, rows.take k, ds.take k, largeL ms k, rfl, hy2, ha2, rowM_list gso5 hus5 (Nat.le_trans (List.length_filter_le _ _) h1000), good_largest a1 (by omega) hg, fun H6 s6 => ?_⟩
      have f6 := f5.same s6
      refine ⟨_, _, .inl (.inl (.inl f6.gL)), trail_last ds ms, ?_⟩
      show uSl K (wdV (beh ds ms)) none (some (k : Int)) H6 _
      refine ⟨Nat.le_trans (by rw [wd_length, beh_len]; omega) (show 60 ≤ sizeLine by decide), ?_⟩
      rw [cut_to (by rw [beh_len]; omega), beh_largest]
      refine ⟨_, rfl, ?_⟩
      rw [decide_eq_true rfl, if_neg (by decide)]
      have s16 := s13.trans (s45.trans s6)
      exact right_3 F f1 ha hg h1000 s16 nso (s6 _ _ gso5) (by rw [List.length_map]; exact hlen) fun H' s' => q H' (Off.trans o1 (Same.off s')) (b1.same s')
    · rw [if_neg (by omega)]
      show tSeq _ _ _ _ _
      exact right_3 F f1 ha hg h1000 s13 nso gso3 (by rw [List.length_map]; exact hlen) fun H' s' => q H' (Off.trans o1 (Same.off s')) (b1.same s')
end
end U
namespace U
open PySem PySem.Spec PyProof.Rows L2

section
variable {K : PySem.W.Frag} (F : KF K) {vs : List V} {H : Hp} {Q : VK} {E : XK}
local macro_rules | `(tactic| walk_at "w") => `(tactic| try simp only [turnE, lcT, Snoc, tRet, tRetN, tAndV, tOrV, tNotV, tCB, tCons, tVar, tNil, tC, tOp, tSeq, tAsg, gName, gSub, tIfS, tDrop, tFn, tTup, tLst, tNext, tB, tTest, tNot, tAnd, tOr, tIf, tChain, tUn, rU, tFld, tPart, tNoPart, L2.tSl, tBM, tPar, tPar3, tTruth, tDNewK,
  L2.start, List.map_cons, List.map_nil, List.length_cons, List.length_nil, List.replicate_succ, List.replicate_zero, List.append_nil, List.nil_append, List.cons_append, List.singleton_append, Nat.sub_self, Nat.zero_add, Nat.reduceAdd, Nat.reduceSub,
  List.getElem?_cons_zero, List.getElem?_cons_succ, List.set_cons_zero, List.set_cons_succ, Option.some.injEq, exists_eq_left, exists_eq_left', V.int.injEq, V.bl.injEq, V.str.injEq, V.ref.injEq,
  uAdd_int, uAdd_str, uSub_int, uMul_int, uMul_str, uDiv_int, uMod_int, uPow_int, uLt_int, uLe_int, uGt_int, uGe_int, uIs_non, uNis_non, uIs_bl, uNis_bl, sp1, sp2, sp3, sp4, uEq_int, uEq_str, uNe_int, uNe_str, uSl_str, uLen_str, decide_eq_true_eq])
local macro_rules | `(tactic| walk_at "1") => `(tactic| try simp only [turnE, lcT, Snoc, tRet, tRetN, tAndV, tOrV, tNotV, tCB, tCons, tVar, tNil, tC, tOp, tAsg, gName, gSub, tIfS, tDrop, tFn, tTup, tLst, tNext, tB, tTest, tNot, tAnd, tOr, tIf, tChain, tUn, rU, tFld, tPart, tNoPart, L2.tSl, tBM, tPar, tPar3, tTruth, tDNewK,
  L2.start, List.map_cons, List.map_nil, List.length_cons, List.length_nil, List.replicate_succ, List.replicate_zero, List.append_nil, List.nil_append, List.cons_append, List.singleton_append, Nat.sub_self, Nat.zero_add, Nat.reduceAdd, Nat.reduceSub,
  List.getElem?_cons_zero, List.getElem?_cons_succ, List.set_cons_zero, List.set_cons_succ, Option.some.injEq, exists_eq_left, exists_eq_left', V.int.injEq, V.bl.injEq, V.str.injEq, V.ref.injEq,
  uAdd_int, uAdd_str, uSub_int, uMul_int, uMul_str, uDiv_int, uMod_int, uPow_int, uLt_int, uLe_int, uGt_int, uGe_int, uIs_non, uNis_non, uIs_bl, uNis_bl, sp1, sp2, sp3, sp4, uEq_int, uEq_str, uNe_int, uNe_str, uSl_str, uLen_str, decide_eq_true_eq])
local macro_rules | `(tactic| walk_at "s") => `(tactic| ((try dsimp only [turnE]); with_reducible refine seq_ ?_))

variable {b : Addr} {m : Int} {y : Addr} {v z : V} {rows : List (List (Option Int))} {ds : List Nat} {ms : List (Nat × Nat)} {p kp L : Addr} {ts : List Addr}
def oftI (ms : List (Nat × Nat)) (n : Nat) : List Int := (List.range n).map fun k => ((oftenN ms ms.length k : Nat) : Int)
theorem oftI_map (ms : List (Nat × Nat)) (n : Nat) : ((List.range n).map fun k => V.int (oftenN ms ms.length k : Nat)) = (oftI ms n).map V.int := by
  unfold oftI
  rw [List.map_map]
  rfl
theorem oftI_small (h : ms.length ≤ 1000) (n : Nat) : ∀ i ∈ oftI ms n, 0 ≤ i ∧ i < 1000000 := by
  intro i hi
  obtain ⟨k, _, rfl⟩ := List.mem_map.mp hi
  have : oftenN ms ms.length k ≤ ms.length := by
    unfold oftenN
    rw [List.take_length]
    exact List.length_filter_le _ _
  omega
theorem due_crates {x0 x1 x4 x5 x6 x7 x8 x9 x10 x11 x12 x13 x14 x15 x16 : Option V} (h60 : ds.length ≤ 60) (gp : H p = some (.lst (ts.map V.ref))) (mv : Mvs K H ts ms) (h1000 : ms.length ≤ 1000)
    (q : ∀ D H', Same H H' → H D = none → H' D = some (.lst ((oftI ms ds.length).map V.int)) → Q (.ref D) H') :
    tLc (iRng1 (tCons (tCB (uLen K) (tCons (tVar 2) tNil)) tNil)) (gName 15) tYes (tCB (uLen K) (tCons (tLc (iSeq K (tVar 3)) (gName 16) (tTest (tOp (uEq K) (tOp (uIx K) (tVar 16) (tC (.int 0))) (tVar 15))) (tVar 16) [16]) tNil)) [15]
      [x0, x1, some (wdV ds), some (.ref p), x4, x5, x6, x7, x8, x9, x10, x11, x12, x13, x14, x15, x16] H Q := by
  have hsz : (wd ds).length ≤ sizeLine := Nat.le_trans (by rw [wd_length]; omega) (show 60 ≤ sizeLine by decide)
  refine tLc_rng1 (n := ds.length) (fun R r => by
    walk_at "1"
    refine ⟨hsz, ?_⟩
    rw [wd_length]
    exact r) (by omega) fun D hD => ?_
  have el : (intsL 0 ds.length).length = ds.length := by simp [intsL]
  refine lc_grow (plain_R (lo := 0) (n := ds.length)) (fun acc _ => acc = (oftI ms acc.length).map V.int) hD (by rw [el]; exact Nat.le_trans h60 (by decide)) (fun _ _ => trivial) (fun _ _ => rfl) (fun _ _ _ _ _ _ h => h) ?_ ?_
  · rintro i x acc H2 Q' hx s2 hl ha k
    have lt : i < ds.length := by
      have := (List.getElem?_eq_some_iff.mp hx).1
      omega
    have ex : x = .int (i : Nat) := by
      simp [intsL, lt] at hx
      exact hx.symm
    subst ex
    simp only [List.set_cons_zero, List.set_cons_succ]
    walk_at "1"
    refine lc_filter (f := fun m => decide (m.1 = i)) rfl (by simp) (.inl (.inl (.inl (s2 _ _ gp)))) (mv.same s2) h1000 ?_ ?_
    · rintro t mm H' s' mvt R r
      simp only [List.set_cons_zero, List.set_cons_succ]
      walk_at "1"
      refine ⟨_, _, .inr mvt, rfl, _, rfl, ?_⟩
      have e : decide ((mm.1 : Int) = (i : Int)) = decide (mm.1 = i) := by
        rw [Bool.eq_iff_iff, decide_eq_true_iff, decide_eq_true_iff]
        constructor <;> intro h <;> omega
      show R (decide ((mm.1 : Int) = (i : Int))) H'
      rw [e]
      exact r
    · rintro D2 us2 H3 s3 nD2 gD2 hus2
      refine uLen_seq (.inl (.inl (.inl gD2))) ?_
      have eo : (us2.map V.ref).length = oftenN ms ms.length i := by
        rw [List.length_map, hus2.1]
        unfold oftenN
        rw [List.take_length]
      rw [eo]
      refine k _ _ s3 ?_
      have : acc ++ [V.int (oftenN ms ms.length i : Nat)] = (oftI ms (i + 1)).map V.int := by
        rw [ha, hl]
        unfold oftI
        rw [List.range_succ, List.map_append, List.map_append]
        rfl
      rw [this, List.length_map]
      unfold oftI
      rw [(List.length_map (as := List.range (i + 1)) _), List.length_range]
  · rintro acc H2 hl s2 gD ha
    rw [el] at hl
    rw [hl] at ha
    rw [ha] at gD
    exact q D H2 s2 hD gD
theorem right_1 {H0 : Hp} {x7 x9 x10 x11 x12 x13 x14 x15 x16 : Option V} {nx : L2.St → Hp → Prop} (F : KF K) (f : Fx K H0 b m y v z rows ds ms p kp L ts) (s0 : Same H0 H) (hm : m ≤ 10000000) (ho : RowsOk rows) (ha : Arr rows.length (wdV ds) ds) (hg : GoodR rows ds ms) (h1000 : ms.length ≤ 1000)
    (q : ∀ H', Off b H0 H' → Bx H' b (m + 1) → Q (.bl true) H') :
    tSeq (tAsg (tFn (sp_row_crates K) E (tCons (tVar 4) (tCons (tVar 2) (tCons (tVar 8) tNil)))) (gName 10)) (tSeq (tAsg (tLc (iRng1 (tCons (tCB (uLen K) (tCons (tVar 2) tNil)) tNil)) (gName 15) tYes (tCB (uLen K) (tCons (tLc (iSeq K (tVar 3)) (gName 16) (tTest (tOp (uEq K) (tOp (uIx K) (tVar 16) (tC (.int 0))) (tVar 15))) (tVar 16) [16]) tNil)) [15]) (gName 11)) (tSeq (tIfS (tTest (tOp (uNe K) (tCB (uRepr K) (tCons (tVar 10) tNil)) (tCB (uRepr K) (tCons (tVar 11) tNil)))) (tRet (tC (.bl false))) tNext) (tSeq (tDrop (tBM0 K "list" rClear (tVar 10))) (tSeq (tIfS (tOr (tTest (tOp uNis (tFn (sp_first_bad K) E (tCons (tVar 4) (tCons (tVar 2) (tCons (tVar 8) tNil)))) (tC .non))) (tOr (tTest (tOp uNis (tFn (sp_is_row K) E (tCons (tVar 4) (tCons (tVar 2) (tCons (tVar 8) tNil)))) (tC (.bl true)))) (tTest (tOp (uNe K) (tVar 3) (tVar 5))))) (tRet (tC (.bl false))) tNext) (tSeq (tAsg (tFn (sp__law_take K) E (tCons (tVar 0) (tCons (tOp uAdd (tCB (uLen K) (tCons (tVar 2) tNil)) (tC (.int 1))) tNil))) (gName 12)) (tSeq (tAsg (tFn (sp_row_of_largest K) E (tCons (tVar 4) (tCons (tVar 2) (tCons (tVar 3) (tCons (tVar 12) tNil))))) (gName 13)) (tSeq (tIfS (tTest (tOp (uNe K) (tVar 13) (tLc (iSeq K (tVar 3)) (gName 16) (tTest (tOp uLt (tOp (uIx K) (tVar 16) (tC (.int 0))) (tVar 12))) (tVar 16) [16]))) (tRet (tC (.bl false))) tNext) (tSeq (tIfS (tTest (tOp uGt (tVar 12) (tC (.int 0)))) (tSeq (tAsg (tMake (He.ga K "Yard") (sp_Yard_init K) [] E (tCons (tSl (uSl K) (tVar 1) tNoPart (tPart (tVar 12))) tNil)) (gName 14)) (tIfS (tTest (tOp (uNe K) (tFn (sp_behind K) E (tCons (tVar 14) (tCons (tSl (uSl K) (tVar 2) tNoPart (tPart (tVar 12))) (tCons (tVar 13) tNil)))) (tSl (uSl K) (tOp (uIx K) (tVar 6) (tUn (rU fun i => .int (-i)) (tC (.int 1)))) tNoPart (tPart (tVar 12))))) (tRet (tC (.bl false))) tNext)) tNext) (tSeq (tDrop (tBM K "list" rAppend (tVar 13) (tCons (tC .non) tNil))) (tRet (tAndV (tOp (uEq K) (tFn (sp_all_behind K) E (tCons (tVar 4) (tCons (tVar 2) (tCons (tVar 3) tNil)))) (tVar 6)) (tOp (uEq K) (tFn (sp_row_of_largest K) E (tCons (tVar 4) (tCons (tVar 2) (tCons (tVar 3) (tCons (tCB (uLen K) (tCons (tVar 2) tNil)) tNil))))) (tVar 3))))))))))))) { nx := nx, rt := Q } [some (.ref b), some v, some (wdV ds), some (.ref p), some (.ref y), some (.ref kp), some (.ref L), x7, some z, x9, x10, x11, x12, x13, x14, x15, x16] H := by
  obtain ⟨_, a1, a2⟩ := id ha
  obtain ⟨_, _, _, _, _, _, l1, l2, _⟩ := id f.yd
  have f0 := f.same s0
  walk_at "s"
  walk_at "1"
  refine f0.rin ha hg fun C H1 s1 nC gC => ?_
  have f1 := f0.same s1
  walk_at "s"
  show tLc _ _ _ _ _ _ _ _
  refine due_crates (by omega) f1.gp f1.mv h1000 fun D H2 s2 nD gD => ?_
  have f2 := f1.same s2
  have gC2 := s2 _ _ gC
  rw [oftI_map] at gC2
  rw [a1] at gD
  walk_at "1"
  walk_at "s"
  walk_at "1"
  refine repr_ints (.inl (.inl gC2)) (oftI_small h1000 _) (by unfold oftI; simp; omega) ?_
  refine repr_ints (.inl (.inl gD)) (oftI_small h1000 _) (by unfold oftI; simp; omega) ?_
  walk_at "1"
  rw [if_neg (by simp)]
  show tSeq _ _ _ _ _
  walk_at "s"
  walk_at "1"
  simp only [tBM0]
  walk_at "1"
  refine ⟨Or.inl ⟨rfl, _, .inl (.inl gC2)⟩, C, _, rfl, rfl, gC2, ?_⟩
  have s3 : Same H0 (upd H2 C (.lst [])) := (Off.trans (Same.off (s0.trans (s1.trans s2))) off_upd).same (s0.free nC)
  generalize upd H2 C (.lst []) = H3 at *
  have f3 := f.same s3
  walk_at "s"
  walk_at "1"
  refine f3.rin ha hg fun H4 s4 => ?_
  walk_at "1"
  rw [if_neg (by simp)]
  have f4 := f3.same s4
  refine f4.rin ha hg fun H5 s5 => ?_
  walk_at "1"
  rw [if_neg (by simp)]
  have f5 := f4.same s5
  have s05 := s3.trans (s4.trans s5)
  refine ne_mvs (.inl (.inl f5.gp)) f5.mv (good3 hg) (.inl (.inl f5.gk)) f5.mv (good3 hg) ⟨_, rfl, ?_⟩
  rw [decide_eq_true rfl, if_neg (by decide)]
  show tSeq _ _ _ _ _
  exact right_2 F f5 (by omega) ho ha hg h1000 fun H' o b' => q H' (Off.trans (Same.off s05) o) b'
end
end U
namespace U
open PySem PySem.Spec PyProof.Rows L2

section
variable {K : PySem.W.Frag} (F : KF K) {vs : List V} {H : Hp} {Q : VK} {E : XK}
local macro_rules | `(tactic| walk_at "w") => `(tactic| try simp only [turnE, lcT, Snoc, tRet, tRetN, tAndV, tOrV, tNotV, tCB, tCons, tVar, tNil, tC, tOp, tSeq, tAsg, gName, gSub, tIfS, tDrop, tFn, tTup, tLst, tNext, tB, tTest, tNot, tAnd, tOr, tIf, tChain, tUn, rU, tFld, tPart, tNoPart, L2.tSl, tBM, tPar, tPar3, tTruth, tDNewK,
  L2.start, List.map_cons, List.map_nil, List.length_cons, List.length_nil, List.replicate_succ, List.replicate_zero, List.append_nil, List.nil_append, List.cons_append, List.singleton_append, Nat.sub_self, Nat.zero_add, Nat.reduceAdd, Nat.reduceSub,
  List.getElem?_cons_zero, List.getElem?_cons_succ, List.set_cons_zero, List.set_cons_succ, Option.some.injEq, exists_eq_left, exists_eq_left', V.int.injEq, V.bl.injEq, V.str.injEq, V.ref.injEq,
  uAdd_int, uAdd_str, uSub_int, uMul_int, uMul_str, uDiv_int, uMod_int, uPow_int, uLt_int, uLe_int, uGt_int, uGe_int, uIs_non, uNis_non, uIs_bl, uNis_bl, sp1, sp2, sp3, sp4, uEq_int, uEq_str, uNe_int, uNe_str, uSl_str, uLen_str, decide_eq_true_eq])
local macro_rules | `(tactic| walk_at "1") => `(tactic| try simp only [turnE, lcT, Snoc, tRet, tRetN, tAndV, tOrV, tNotV, tCB, tCons, tVar, tNil, tC, tOp, tAsg, gName, gSub, tIfS, tDrop, tFn, tTup, tLst, tNext, tB, tTest, tNot, tAnd, tOr, tIf, tChain, tUn, rU, tFld, tPart, tNoPart, L2.tSl, tBM, tPar, tPar3, tTruth, tDNewK,
  L2.start, List.map_cons, List.map_nil, List.length_cons, List.length_nil, List.replicate_succ, List.replicate_zero, List.append_nil, List.nil_append, List.cons_append, List.singleton_append, Nat.sub_self, Nat.zero_add, Nat.reduceAdd, Nat.reduceSub,
  List.getElem?_cons_zero, List.getElem?_cons_succ, List.set_cons_zero, List.set_cons_succ, Option.some.injEq, exists_eq_left, exists_eq_left', V.int.injEq, V.bl.injEq, V.str.injEq, V.ref.injEq,
  uAdd_int, uAdd_str, uSub_int, uMul_int, uMul_str, uDiv_int, uMod_int, uPow_int, uLt_int, uLe_int, uGt_int, uGe_int, uIs_non, uNis_non, uIs_bl, uNis_bl, sp1, sp2, sp3, sp4, uEq_int, uEq_str, uNe_int, uNe_str, uSl_str, uLen_str, decide_eq_true_eq])
local macro_rules | `(tactic| walk_at "s") => `(tactic| ((try dsimp only [turnE]); with_reducible refine seq_ ?_))

variable {b : Addr} {m : Int} {y : Addr} {v z : V} {rows : List (List (Option Int))} {ds : List Nat} {ms : List (Nat × Nat)} {p kp L : Addr} {ts : List Addr}
theorem right_0 {x9 x10 x11 x12 x13 x14 x15 x16 : Option V} {nx : L2.St → Hp → Prop} (F : KF K) (f : Fx K H b m y v z rows ds ms p kp L ts) (hm : m ≤ 10000000) (ho : RowsOk rows) (hlo : RowsLo rows) (ha : Arr rows.length (wdV ds) ds) (hg : GoodR rows ds ms) (h1000 : ms.length ≤ 1000)
    (q : ∀ H', Off b H H' → Bx H' b (m + 1) → Q (.bl true) H') :
    tSeq (tAsg (tFn (sp_all_behind K) E (tCons (tVar 4) (tCons (tVar 2) (tCons (tVar 8) tNil)))) (gName 9)) (tSeq (tIfS (tOr (tTest (tOp (uNe K) (tVar 9) (tVar 6))) (tTest (tOp (uNe K) (tFn (sp_behind K) E (tCons (tVar 4) (tCons (tVar 2) (tCons (tVar 8) tNil)))) (tOp (uIx K) (tVar 6) (tUn (rU fun i => .int (-i)) (tC (.int 1))))))) (tRet (tC (.bl false))) tNext) (tSeq (tIfS (tTest (tOp (uNe K) (tCB (uRepr K) (tCons (tFn (sp_row_cost K) E (tCons (tVar 4) (tCons (tVar 2) (tCons (tVar 8) tNil)))) tNil)) (tCB (uRepr K) (tCons (tVar 7) tNil)))) (tRet (tC (.bl false))) tNext) (tSeq (tDrop (tBM K "list" rAppend (tVar 9) (tCons (tC .non) tNil))) (tSeq (tAsg (tFn (sp_row_crates K) E (tCons (tVar 4) (tCons (tVar 2) (tCons (tVar 8) tNil)))) (gName 10)) (tSeq (tAsg (tLc (iRng1 (tCons (tCB (uLen K) (tCons (tVar 2) tNil)) tNil)) (gName 15) tYes (tCB (uLen K) (tCons (tLc (iSeq K (tVar 3)) (gName 16) (tTest (tOp (uEq K) (tOp (uIx K) (tVar 16) (tC (.int 0))) (tVar 15))) (tVar 16) [16]) tNil)) [15]) (gName 11)) (tSeq (tIfS (tTest (tOp (uNe K) (tCB (uRepr K) (tCons (tVar 10) tNil)) (tCB (uRepr K) (tCons (tVar 11) tNil)))) (tRet (tC (.bl false))) tNext) (tSeq (tDrop (tBM0 K "list" rClear (tVar 10))) (tSeq (tIfS (tOr (tTest (tOp uNis (tFn (sp_first_bad K) E (tCons (tVar 4) (tCons (tVar 2) (tCons (tVar 8) tNil)))) (tC .non))) (tOr (tTest (tOp uNis (tFn (sp_is_row K) E (tCons (tVar 4) (tCons (tVar 2) (tCons (tVar 8) tNil)))) (tC (.bl true)))) (tTest (tOp (uNe K) (tVar 3) (tVar 5))))) (tRet (tC (.bl false))) tNext) (tSeq (tAsg (tFn (sp__law_take K) E (tCons (tVar 0) (tCons (tOp uAdd (tCB (uLen K) (tCons (tVar 2) tNil)) (tC (.int 1))) tNil))) (gName 12)) (tSeq (tAsg (tFn (sp_row_of_largest K) E (tCons (tVar 4) (tCons (tVar 2) (tCons (tVar 3) (tCons (tVar 12) tNil))))) (gName 13)) (tSeq (tIfS (tTest (tOp (uNe K) (tVar 13) (tLc (iSeq K (tVar 3)) (gName 16) (tTest (tOp uLt (tOp (uIx K) (tVar 16) (tC (.int 0))) (tVar 12))) (tVar 16) [16]))) (tRet (tC (.bl false))) tNext) (tSeq (tIfS (tTest (tOp uGt (tVar 12) (tC (.int 0)))) (tSeq (tAsg (tMake (He.ga K "Yard") (sp_Yard_init K) [] E (tCons (tSl (uSl K) (tVar 1) tNoPart (tPart (tVar 12))) tNil)) (gName 14)) (tIfS (tTest (tOp (uNe K) (tFn (sp_behind K) E (tCons (tVar 14) (tCons (tSl (uSl K) (tVar 2) tNoPart (tPart (tVar 12))) (tCons (tVar 13) tNil)))) (tSl (uSl K) (tOp (uIx K) (tVar 6) (tUn (rU fun i => .int (-i)) (tC (.int 1)))) tNoPart (tPart (tVar 12))))) (tRet (tC (.bl false))) tNext)) tNext) (tSeq (tDrop (tBM K "list" rAppend (tVar 13) (tCons (tC .non) tNil))) ((tRet (tAndV (tOp (uEq K) (tFn (sp_all_behind K) E (tCons (tVar 4) (tCons (tVar 2) (tCons (tVar 3) tNil)))) (tVar 6)) (tOp (uEq K) (tFn (sp_row_of_largest K) E (tCons (tVar 4) (tCons (tVar 2) (tCons (tVar 3) (tCons (tCB (uLen K) (tCons (tVar 2) tNil)) tNil))))) (tVar 3)))))))))))))))))) { nx := nx, rt := Q } [some (.ref b), some v, some (wdV ds), some (.ref p), some (.ref y), some (.ref kp), some (.ref L), some (.int (costR rows ds ms)), some z, x9, x10, x11, x12, x13, x14, x15, x16] H := by
  obtain ⟨_, a1, a2⟩ := id ha
  walk_at "s"
  walk_at "1"
  refine f.rin ha hg fun td H1 s1 ntd gtd => ?_
  have f1 := f.same s1
  walk_at "s"
  walk_at "1"
  refine ne_trail hg a2 gtd f1.gL ⟨_, rfl, ?_⟩
  rw [if_neg (by decide)]
  refine f1.rin ha hg fun H2 s2 => ?_
  have f2 := f1.same s2
  refine ⟨_, _, .inl (.inl (.inl f2.gL)), trail_last ds ms, ?_⟩
  refine ⟨_, rfl, ?_⟩
  rw [decide_eq_true rfl, if_neg (by decide)]
  show tSeq _ _ _ _ _
  walk_at "s"
  walk_at "1"
  refine f2.rin ha hg fun H3 s3 => ?_
  have f3 := f2.same s3
  have lg := cost_log (ds := ds) (ms := ms) hlo h1000
  refine ⟨lg, ?_⟩
  refine ⟨lg, ?_⟩
  walk_at "1"
  rw [if_neg (by simp)]
  show tSeq _ _ _ _ _
  walk_at "s"
  walk_at "1"
  have gtd3 := (s2.trans s3) _ _ gtd
  refine app_at gtd3 (by rw [List.length_map]; unfold trail; rw [trailN_len]; omega) ?_
  have s4 : Same H (upd H3 td (.lst ((trail ds ms).map wdV ++ [V.non]))) := (Off.trans (Same.off (s1.trans (s2.trans s3))) off_upd).same ntd
  generalize upd H3 td (.lst ((trail ds ms).map wdV ++ [V.non])) = H4 at *
  exact right_1 F f s4 (by omega) ho ha hg h1000 q
include F in
theorem read__law_right (h : sp__law_right K vs H Q E) : t__law_right K E { nx := fun _ H' => Q .non H', rt := Q } (start ["_law_box_here", "_law_plain_here", "_law_word_here", "_law_row", "_law_yard", "_law_kept", "_law_found", "_law_cost", "_law_handed", "_law_told", "_law_crates", "_law_due", "_law_count", "_law_some", "_law_few", "_law_crate", "_law_move"] vs) H := by
  match vs, h with
  | [_, v, _, _], ⟨b, m, rows, ds, ms, p, ts, rfl, hb, hm, hv, ho, hlo, ha, rfl, gp, mv, hg, h1000, q⟩ =>
    obtain ⟨rfl, a1, a2⟩ := id ha
    have l60 := ho.2.1
    unfold t__law_right
    walk_at "s"
    simp only [tMake]
    walk_at "1"
    simp only [tMake]
    walk_at "1"
    refine make_yard hv.rowV ho fun y H1 s1 ny hy => ?_
    refine ⟨_, .inl (.inl (.inl (s1 _ _ gp))), fun kp nkp => ?_⟩
    have s2 : Same H1 (upd H1 kp (.lst (ts.map V.ref))) := same_new nkp
    have gk : upd H1 kp (.lst (ts.map V.ref)) kp = some (.lst (ts.map V.ref)) := upd_same
    have s02 := s1.trans s2
    have hy2 := hy.same s2
    generalize upd H1 kp (.lst (ts.map V.ref)) = H2 at *
    refine ⟨_, _, rfl, ?_⟩
    walk_at "s"
    walk_at "1"
    refine ⟨rows, ds, ms, hv.rowV.same s02, ho, ha, rowM_list (s02 _ _ gp) (mv.same s02) h1000, hg, fun T L H3 s3 nL gL gT => ?_⟩
    refine ⟨T, _, rfl, gT, rfl, _, _, rfl, _, _, rfl, ⟨rfl, ?_⟩⟩
    simp only [gName, List.set_cons_zero, List.set_cons_succ]
    have s03 := s02.trans s3
    walk_at "s"
    walk_at "1"
    refine ⟨_, .inl ⟨.inl (.inl (s03 _ _ gp)), fun tp ntp => ?_⟩⟩
    have s4 : Same H3 (upd H3 tp (.tup (ts.map V.ref))) := same_new ntp
    have gtp : upd H3 tp (.tup (ts.map V.ref)) tp = some (.tup (ts.map V.ref)) := upd_same
    generalize upd H3 tp (.tup (ts.map V.ref)) = H4 at *
    refine ⟨by decide, fun A nA => ?_⟩
    have s5 : Same H4 (upd H4 A (.lst [.ref p, .ref tp])) := same_new nA
    have gA : upd H4 A (.lst [.ref p, .ref tp]) A = some (.lst [.ref p, .ref tp]) := upd_same
    generalize upd H4 A (.lst [.ref p, .ref tp]) = H5 at *
    have s25 := s3.trans (s4.trans s5)
    have s05 := s02.trans s25
    have s35 := s4.trans s5
    have fp : Fx K H5 b m y v (.ref p) rows ds ms p kp L ts := ⟨hy2.same s25, hv.same s05, s05 _ _ gp, s25 _ _ gk, s35 _ _ gL, mv.same s05, rowM_list (s05 _ _ gp) (mv.same s05) h1000, hb.same s05⟩
    have ft : Fx K H5 b m y v (.ref tp) rows ds ms p kp L ts := ⟨hy2.same s25, hv.same s05, s05 _ _ gp, s25 _ _ gk, s35 _ _ gL, mv.same s05, ⟨tp, ts, rfl, .inr (.inl (.inl (s5 _ _ gtp))), mv.same s05, h1000⟩, hb.same s05⟩
    refine take_of fp.bx (by omega) (by omega) (by omega) fun e H6 e0 e1 o6 b6 => ?_
    have nAb : A ≠ b := (hb.same (s03.trans s4)).ne nA
    have gA6 := o6.lst gA nAb
    have fp6 := fp.off o6 b6 ho
    have ft6 := ft.off o6 b6 ho
    have fin : ∀ z, Fx K H6 b (m + 1) y v z rows ds ms p kp L ts → ∀ H', Off b H6 H' → Bx H' b (m + 1 + 1) → Q (.bl true) H' := fun z _ H' o b' => q H' (Off.trans (Same.off s05) (Off.trans o6 o)) (b'.mono (by omega))
    obtain rfl | rfl : e = 0 ∨ e = 1 := by omega
    · refine ⟨_, .ref p, .inl (.inl (.inl gA6)), rfl, ?_⟩
      exact right_0 F fp6 (by omega) ho hlo ha hg h1000 (fin _ fp6)
    · refine ⟨_, .ref tp, .inl (.inl (.inl gA6)), rfl, ?_⟩
      exact right_0 F ft6 (by omega) ho hlo ha hg h1000 (fin _ ft6)
end
end U
namespace U
open PySem PySem.Spec PyProof.Rows L2

section
variable {K : PySem.W.Frag} (F : KF K) {vs : List V} {H : Hp} {Q : VK} {E : XK}
def t_law (K : PySem.W.Frag) (E : XK) : TS := (tSeq (tFor (iRng1 (tCons (tCB uMax2 (tCons (tC (.int 2)) (tCons (tCB uMin2 (tCons (tC (.int 5)) (tCons (tCB (uLen K) (tCons (tVar 0) tNil)) tNil))) tNil))) tNil)) (gName 1) (tSeq (tAsg (tFn (sp__law_box K) E (tCons (tFn (sp__law_cell K) E (tCons (tVar 0) (tCons (tVar 1) tNil))) tNil)) (gName 2)) (tSeq (tAsg (tFn (sp__law_size K) E (tCons (tVar 2) (tCons (tOp (uIx K) (tLst (tCons (tC (.int 4)) (tCons (tC (.int 12)) (tCons (tC (.int 60)) tNil)))) (tFn (sp__law_take K) E (tCons (tVar 2) (tCons (tC (.int 3)) tNil)))) tNil))) (gName 3)) (tSeq (tPar 4 5 (tCons (tFn (sp__law_plain K) E (tCons (tVar 2) (tCons (tVar 3) tNil))) (tCons (tFn (sp__law_word K) E (tCons (tVar 2) (tCons (tVar 3) tNil))) tNil))) (tSeq (tAsg (tIf (tAnd (tTest (tOp (uEq K) (tVar 1) (tC (.int 0)))) (tAnd (tTest (tOp uLt (tVar 3) (tC (.int 13)))) (tTest (tOp (uEq K) (tFn (sp__law_take K) E (tCons (tVar 2) (tCons (tC (.int 5)) tNil))) (tC (.int 0)))))) (tC (.int 1000)) (tC (.int 40))) (gName 6)) (tIfS (tNot (tB (tFn (sp__law_right K) E (tCons (tVar 2) (tCons (tVar 4) (tCons (tVar 5) (tCons (tFn (sp__law_walk K) E (tCons (tVar 2) (tCons (tVar 4) (tCons (tVar 5) (tCons (tVar 6) tNil))))) tNil))))))) (tRet (tC (.bl false))) tNext)))))) (tRet (tC (.bl true))))
local macro_rules | `(tactic| walk_at "w") => `(tactic| try simp only [turnE, lcT, Snoc, tRet, tRetN, tAndV, tOrV, tNotV, tCB, tCons, tVar, tNil, tC, tOp, tSeq, tAsg, gName, gSub, tIfS, tDrop, tFn, tTup, tLst, tNext, tB, tTest, tNot, tAnd, tOr, tIf, tChain, tUn, rU, tFld, tPart, tNoPart, L2.tSl, tBM, tPar, tPar3, tTruth, tDNewK,
  L2.start, List.map_cons, List.map_nil, List.length_cons, List.length_nil, List.replicate_succ, List.replicate_zero, List.append_nil, List.nil_append, List.cons_append, List.singleton_append, Nat.sub_self, Nat.zero_add, Nat.reduceAdd, Nat.reduceSub,
  List.getElem?_cons_zero, List.getElem?_cons_succ, List.set_cons_zero, List.set_cons_succ, Option.some.injEq, exists_eq_left, exists_eq_left', V.int.injEq, V.bl.injEq, V.str.injEq, V.ref.injEq,
  uAdd_int, uAdd_str, uSub_int, uMul_int, uMul_str, uDiv_int, uMod_int, uPow_int, uLt_int, uLe_int, uGt_int, uGe_int, uIs_non, uNis_non, uIs_bl, uNis_bl, sp1, sp2, sp3, sp4, uEq_int, uEq_str, uNe_int, uNe_str, uSl_str, uLen_str, decide_eq_true_eq])
local macro_rules | `(tactic| walk_at "1") => `(tactic| try simp only [turnE, lcT, Snoc, tRet, tRetN, tAndV, tOrV, tNotV, tCB, tCons, tVar, tNil, tC, tOp, tAsg, gName, gSub, tIfS, tDrop, tFn, tTup, tLst, tNext, tB, tTest, tNot, tAnd, tOr, tIf, tChain, tUn, rU, tFld, tPart, tNoPart, L2.tSl, tBM, tPar, tPar3, tTruth, tDNewK,
  L2.start, List.map_cons, List.map_nil, List.length_cons, List.length_nil, List.replicate_succ, List.replicate_zero, List.append_nil, List.nil_append, List.cons_append, List.singleton_append, Nat.sub_self, Nat.zero_add, Nat.reduceAdd, Nat.reduceSub,
  List.getElem?_cons_zero, List.getElem?_cons_succ, List.set_cons_zero, List.set_cons_succ, Option.some.injEq, exists_eq_left, exists_eq_left', V.int.injEq, V.bl.injEq, V.str.injEq, V.ref.injEq,
  uAdd_int, uAdd_str, uSub_int, uMul_int, uMul_str, uDiv_int, uMod_int, uPow_int, uLt_int, uLe_int, uGt_int, uGe_int, uIs_non, uNis_non, uIs_bl, uNis_bl, sp1, sp2, sp3, sp4, uEq_int, uEq_str, uNe_int, uNe_str, uSl_str, uLen_str, decide_eq_true_eq])
local macro_rules | `(tactic| walk_at "s") => `(tactic| ((try dsimp only [turnE]); with_reducible refine seq_ ?_))

include F in
theorem read_law (h : sp_law0 K vs H Q E) : t_law K E { nx := fun _ H' => Q .non H', rt := Q } (start ["_law_script", "_law_k", "_law_box_here", "_law_size_here", "_law_plain_here", "_law_word_here", "_law_most"] vs) H := by
  match vs, h with
  | [_], ⟨a, ns, rfl, hs, q⟩ =>
    unfold t_law
    walk_at "s"
    obtain ⟨N, hN6, hN⟩ := most_of (ns.map V.int).length 5 (by decide)
    refine for_rng1 (n := N) (fun R r => by
      walk_at "1"
      refine uLen_seq (.inl hs) ⟨_, _, rfl, ⟨_, _, rfl, ?_⟩⟩
      show R [.int _] H
      rw [hN]
      exact r) (by omega) (fun i σ H' => Same H H' ∧ ∃ x1 x2 x3 x4 x5 x6, σ = [some (.ref a), x1, x2, x3, x4, x5, x6]) ⟨Same.refl H, _, _, _, _, _, _, rfl⟩ ?_ ?_
    · rintro i σ H0 hi ⟨s0, x1, x2, x3, x4, x5, x6, rfl⟩
      simp only [gName, List.set_cons_zero, List.set_cons_succ]
      walk_at "s"
      walk_at "1"
      refine ⟨a, ns, i, rfl, rfl, Same.seq s0 hs, by omega, by omega, fun c H1 s1 => ?_⟩
      refine ⟨c, rfl, fun b H2 hb0 s2 hb => ?_⟩
      have s02 := s0.trans (s1.trans s2)
      have nb := (s0.trans s1).free hb0
      walk_at "s"
      walk_at "1"
      refine ⟨by decide, fun A hA => ?_⟩
      have hAb := hb.ne hA
      refine take_of (hb.upd hAb) (by omega) (by omega) (by omega) fun d H3 d0 d1 o3 b3 => ?_
      have hA3 := o3.lst upd_same hAb
      have o3 : Off b H2 H3 := Off.trans (Same.off (same_new hA)) o3
      have hmost : ∃ k : Int, atI [V.int 4, .int 12, .int 60] d = some (.int k) ∧ 1 ≤ k ∧ k ≤ 60 := by
        obtain rfl | rfl | rfl : d = 0 ∨ d = 1 ∨ d = 2 := by omega
        all_goals exact ⟨_, rfl, by omega, by omega⟩
      obtain ⟨k, hk, k1, k60⟩ := hmost
      refine uIx_lst hA3 hk ?_
      refine ⟨b, _, k, rfl, rfl, k1, by omega, b3, by omega, fun r H4 r1 rk o4 b4 => ?_⟩
      obtain ⟨n, rfl⟩ : ∃ n : Nat, r = n := ⟨r.toNat, by omega⟩
      have o4 := o3.trans o4
      walk_at "s"
      walk_at "1"
      refine ⟨b, _, n, rfl, rfl, by omega, by omega, b4, by omega, fun rows v H5 hrl hro hrv o5 b5 hlo hvl => ?_⟩
      have o5 := o4.trans o5
      refine ⟨b, _, n, rfl, rfl, by omega, b5, by omega, fun ds H6 dl d3 o6 b6 => ?_⟩
      have hvl := hvl.off o6 b5 hro
      have o6 := o5.trans o6
      refine ⟨_, _, rfl, ?_⟩
      have ha : Arr rows.length (wdV ds) ds := ⟨rfl, by omega, d3⟩
      have tail : ∀ (w : Nat) H7 (R : VK), w ≤ 1000 → Off b H2 H7 → Bx H7 b 3000 → RowVL K H7 v rows → (∀ H', Same H H' → R (.bl true) H') →
          sp__law_walk K [.ref b, v, .str (wd ds), .int (w : Nat)] H7 (fun x H1 => sp__law_right K [.ref b, v, .str (wd ds), x] H1 R E) E := by
        intro w H7 R hw o7 b7 hv7 r
        refine ⟨b, _, rows, ds, w, rfl, rfl, hw, b7, by omega, hv7.rowV, hro, ha, fun l ts ms H8 o8 b8 nl gl hm hg h1000 => ?_⟩
        refine ⟨b, _, rows, ds, ms, l, ts, rfl, b8, by omega, hv7.off o8 b7 hro, hro, hlo, ha, rfl, gl, hm, hg, h1000, fun H9 o9 b9 => ?_⟩
        exact r _ ((Off.trans (Same.off s02) (o7.trans (o8.trans o9))).same nb)
      walk_at "s"
      walk_at "1"
      have o26 := o6
      have t40 : ∀ H7 (R : VK), Off b H6 H7 → Bx H7 b 3000 → (∀ H', Same H H' → R (.bl true) H') → sp__law_walk K [.ref b, v, .str (wd ds), .int 40] H7 (fun x H1 => sp__law_right K [.ref b, v, .str (wd ds), x] H1 R E) E :=
        fun H7 R o b7 r => tail 40 H7 R (by decide) (Off.trans o26 o) b7 (hvl.off o b6 hro) r
      have t1000 : ∀ H7 (R : VK), Off b H6 H7 → Bx H7 b 3000 → (∀ H', Same H H' → R (.bl true) H') → sp__law_walk K [.ref b, v, .str (wd ds), .int 1000] H7 (fun x H1 => sp__law_right K [.ref b, v, .str (wd ds), x] H1 R E) E :=
        fun H7 R o b7 r => tail 1000 H7 R (by decide) (Off.trans o26 o) b7 (hvl.off o b6 hro) r
      have fin : ∀ (w : Int) H', Same H H' → ∃ c, V.bl true = V.bl c ∧ if (!c) = true then Q (.bl false) H' else Same H H' ∧ ∃ x1 x2 x3 x4 x5 x6, [some (V.ref a), some (V.int i), some (.ref b), some (.int n), some v, some (.str (wd ds)), some (.int w)] = [some (V.ref a), x1, x2, x3, x4, x5, x6] := by
        intro w H' s'
        refine ⟨_, rfl, ?_⟩
        rw [if_neg (by decide)]
        exact ⟨s', _, _, _, _, _, _, rfl⟩
      by_cases c1 : (i : Int) = 0
      · rw [if_pos c1]
        by_cases c2 : (n : Int) < 13
        · rw [if_pos c2]
          refine take_of b6 (by omega) (by omega) (by omega) fun e H7 e0 e1 o7 b7 => ?_
          have b7' := b7.mono (n := 3000) (by omega)
          refine ⟨_, rfl, ?_⟩
          by_cases c3 : e = 0
          · rw [decide_eq_true c3, if_pos rfl]
            exact t1000 H7 _ o7 b7' (fin _)
          · rw [decide_eq_false c3, if_neg (by decide)]
            exact t40 H7 _ o7 b7' (fin _)
        · rw [if_neg c2]
          rw [if_neg (by decide)]
          exact t40 H6 _ Off.refl (b6.mono (by omega)) (fin _)
      · rw [if_neg c1]
        rw [if_neg (by decide)]
        exact t40 H6 _ Off.refl (b6.mono (by omega)) (fin _)
    · rintro σ H' ⟨s, x1, x2, x3, x4, x5, x6, rfl⟩
      walk_at "1"
      exact q H'
end
end U
namespace U
open PySem PySem.Spec PyProof.Rows L2
def top (i : Nat) : Stmt := PySem.Challenge.pw_cratetowers_k13_rows_followed.main.body.getD i (.Pass ⟨0, 0, 0, 0⟩)
abbrev s_InvalidYard_init : Stmt := inClass (top 3) 0
abbrev s_InvalidArrangement_init : Stmt := inClass (top 5) 0
abbrev s_InvalidRow_init : Stmt := inClass (top 8) 0
abbrev s_InvalidCount_init : Stmt := inClass (top 9) 0
abbrev s_NotAllowed_init : Stmt := inClass (top 10) 0
abbrev s_is_price : Stmt := top 19
abbrev s_is_integer : Stmt := top 20
abbrev s_is_integer_within : Stmt := top 21
abbrev s_check_yard : Stmt := top 24
abbrev s_Yard_init : Stmt := inClass (top 26) 0
abbrev s_Yard_len : Stmt := inClass (top 26) 3
abbrev s_Yard_price_rows : Stmt := inClass (top 26) 7
abbrev s__are_rows : Stmt := top 27
abbrev s__is_price_row : Stmt := top 28
abbrev s_is_arrangement : Stmt := top 36
abbrev s_check_arrangement : Stmt := top 37
abbrev s_is_row : Stmt := top 40
abbrev s_first_bad : Stmt := top 41
abbrev s_behind : Stmt := top 42
abbrev s_all_behind : Stmt := top 43
abbrev s_row_cost : Stmt := top 44
abbrev s_row_crates : Stmt := top 45
abbrev s_row_of_largest : Stmt := top 46
abbrev s__check_move_list : Stmt := top 47
abbrev s__is_move_list : Stmt := top 48
abbrev s__arrangements : Stmt := top 49
abbrev s__first_refused : Stmt := top 50
abbrev s__law_cell : Stmt := top 52
abbrev s__law_box : Stmt := top 53
abbrev s__law_take : Stmt := top 54
abbrev s__law_size : Stmt := top 55
abbrev s__law_plain : Stmt := top 56
abbrev s__law_word : Stmt := top 57
abbrev s__law_price : Stmt := top 58
abbrev s__law_moves : Stmt := top 59
abbrev s__law_behind : Stmt := top 60
abbrev s__law_walk : Stmt := top 61
abbrev s__law_followed : Stmt := top 62
abbrev s__law_right : Stmt := top 63
abbrev s_law : Stmt := top 64
abbrev mkD (at_ : Str × Option Str) (nm qual : Str) (st : Stmt) : He.DefD := ⟨at_, nm, qual, defArgs st, defBody st, defScope st, [], []⟩
def d_InvalidYard_init : He.DefD := mkD ("InvalidYard", some "__init__") "__init__" "InvalidYard.__init__" s_InvalidYard_init
def d_InvalidArrangement_init : He.DefD := mkD ("InvalidArrangement", some "__init__") "__init__" "InvalidArrangement.__init__" s_InvalidArrangement_init
def d_InvalidRow_init : He.DefD := mkD ("InvalidRow", some "__init__") "__init__" "InvalidRow.__init__" s_InvalidRow_init
def d_InvalidCount_init : He.DefD := mkD ("InvalidCount", some "__init__") "__init__" "InvalidCount.__init__" s_InvalidCount_init
def d_NotAllowed_init : He.DefD := mkD ("NotAllowed", some "__init__") "__init__" "NotAllowed.__init__" s_NotAllowed_init
def d_is_price : He.DefD := mkD ("is_price", none) "is_price" "is_price" s_is_price
def d_is_integer : He.DefD := mkD ("is_integer", none) "is_integer" "is_integer" s_is_integer
def d_is_integer_within : He.DefD := mkD ("is_integer_within", none) "is_integer_within" "is_integer_within" s_is_integer_within
def d_check_yard : He.DefD := mkD ("check_yard", none) "check_yard" "check_yard" s_check_yard
def d_Yard_init : He.DefD := mkD ("Yard", some "__init__") "__init__" "Yard.__init__" s_Yard_init
def d_Yard_len : He.DefD := mkD ("Yard", some "__len__") "__len__" "Yard.__len__" s_Yard_len
def d_Yard_price_rows : He.DefD := mkD ("Yard", some "price_rows") "price_rows" "Yard.price_rows" s_Yard_price_rows
def d__are_rows : He.DefD := mkD ("_are_rows", none) "_are_rows" "_are_rows" s__are_rows
def d__is_price_row : He.DefD := mkD ("_is_price_row", none) "_is_price_row" "_is_price_row" s__is_price_row
def d_is_arrangement : He.DefD := mkD ("is_arrangement", none) "is_arrangement" "is_arrangement" s_is_arrangement
def d_check_arrangement : He.DefD := mkD ("check_arrangement", none) "check_arrangement" "check_arrangement" s_check_arrangement
def d_is_row : He.DefD := mkD ("is_row", none) "is_row" "is_row" s_is_row
def d_first_bad : He.DefD := mkD ("first_bad", none) "first_bad" "first_bad" s_first_bad
def d_behind : He.DefD := mkD ("behind", none) "behind" "behind" s_behind
def d_all_behind : He.DefD := mkD ("all_behind", none) "all_behind" "all_behind" s_all_behind
def d_row_cost : He.DefD := mkD ("row_cost", none) "row_cost" "row_cost" s_row_cost
def d_row_crates : He.DefD := mkD ("row_crates", none) "row_crates" "row_crates" s_row_crates
def d_row_of_largest : He.DefD := mkD ("row_of_largest", none) "row_of_largest" "row_of_largest" s_row_of_largest
def d__check_move_list : He.DefD := mkD ("_check_move_list", none) "_check_move_list" "_check_move_list" s__check_move_list
def d__is_move_list : He.DefD := mkD ("_is_move_list", none) "_is_move_list" "_is_move_list" s__is_move_list
def d__arrangements : He.DefD := mkD ("_arrangements", none) "_arrangements" "_arrangements" s__arrangements
def d__first_refused : He.DefD := mkD ("_first_refused", none) "_first_refused" "_first_refused" s__first_refused
def d__law_cell : He.DefD := mkD ("_law_cell", none) "_law_cell" "_law_cell" s__law_cell
def d__law_box : He.DefD := mkD ("_law_box", none) "_law_box" "_law_box" s__law_box
def d__law_take : He.DefD := mkD ("_law_take", none) "_law_take" "_law_take" s__law_take
def d__law_size : He.DefD := mkD ("_law_size", none) "_law_size" "_law_size" s__law_size
def d__law_plain : He.DefD := mkD ("_law_plain", none) "_law_plain" "_law_plain" s__law_plain
def d__law_word : He.DefD := mkD ("_law_word", none) "_law_word" "_law_word" s__law_word
def d__law_price : He.DefD := mkD ("_law_price", none) "_law_price" "_law_price" s__law_price
def d__law_moves : He.DefD := mkD ("_law_moves", none) "_law_moves" "_law_moves" s__law_moves
def d__law_behind : He.DefD := mkD ("_law_behind", none) "_law_behind" "_law_behind" s__law_behind
def d__law_walk : He.DefD := mkD ("_law_walk", none) "_law_walk" "_law_walk" s__law_walk
def d__law_followed : He.DefD := mkD ("_law_followed", none) "_law_followed" "_law_followed" s__law_followed
def d__law_right : He.DefD := mkD ("_law_right", none) "_law_right" "_law_right" s__law_right
def d_law : He.DefD := mkD ("law", none) "law" "law" s_law
def fn : List He.DefD := [d_InvalidYard_init, d_InvalidArrangement_init, d_InvalidRow_init, d_InvalidCount_init, d_NotAllowed_init, d_is_price, d_is_integer, d_is_integer_within, d_check_yard, d_Yard_init, d_Yard_len, d_Yard_price_rows, d__are_rows, d__is_price_row, d_is_arrangement, d_check_arrangement, d_is_row, d_first_bad, d_behind, d_all_behind, d_row_cost, d_row_crates, d_row_of_largest, d__check_move_list, d__is_move_list, d__arrangements, d__first_refused, d__law_cell, d__law_box, d__law_take, d__law_size, d__law_plain, d__law_word, d__law_price, d__law_moves, d__law_behind, d__law_walk, d__law_followed, d__law_right, d_law]
def fa : List He.Fa := [.glo "COLUMNS", .glo "InvalidArrangement", .glo "InvalidCount", .glo "InvalidRow", .glo "InvalidYard", .glo "NotAllowed", .glo "PLACES", .glo "WAYS", .glo "Yard", .glo "_are_rows", .glo "_arrangements", .glo "_check_move_list", .glo "_first_refused", .glo "_is_move_list", .glo "_is_price_row", .glo "_law_behind", .glo "_law_box", .glo "_law_cell", .glo "_law_followed", .glo "_law_moves", .glo "_law_plain", .glo "_law_price", .glo "_law_right", .glo "_law_size", .glo "_law_take", .glo "_law_walk", .glo "_law_word", .glo "all_behind", .glo "behind", .glo "check_arrangement", .glo "check_yard", .glo "first_bad", .glo "is_arrangement", .glo "is_integer", .glo "is_integer_within", .glo "is_price", .glo "is_row", .glo "law", .glo "row_cost", .glo "row_crates", .glo "row_of_largest", .int "MOST_CRATES" 60, .int "MOST_MOVES" 1000, .str "_PLACE_SIGNS" "abc", .free "all", .free "bool", .free "int", .free "isinstance", .free "len", .free "list", .free "max", .free "min", .free "range", .free "repr", .free "sorted", .free "str", .free "sum", .free "tuple", .free "zip", .mkr "Yard", .meth "Yard" "__init__", .meth "Yard" "__len__", .meth "Yard" "price_rows"]
def ts : List He.Tab := [((fun K => He.ga K "COLUMNS"), columns.map (·.1))]
def ex (K : PySem.W.Frag) : Bool := kfB K && colB K && excB K "InvalidArrangement" "value" && excB K "InvalidCount" "value" && excB K "InvalidRow" "value" && excB K "InvalidYard" "value" && excB K "NotAllowed" "index"
abbrev AlM : Type := He.AlT × Bool
def obsM (n : Nat) (fa : List He.Fa) (fn : List He.DefD) (ts : List He.Tab) (ex : PySem.W.Frag → Bool) (g : Addr → Option Obj) : AlM := (He.obsT fa fn ts (He.frG g (He.asD g n)), ex (He.frG g (He.asD g n)))
def hookM (n : Nat) (fa : List He.Fa) (fn : List He.DefD) (ts : List He.Tab) (ex : PySem.W.Frag → Bool) : PySem.W.Hook where
  α := AlM
  obs := fun s => obsM n fa fn ts ex s.heap.get?
  val := fun w => (He.valT fn ts w, true)
  says := fun w h => ∃ K : PySem.W.Frag, K.In h ∧ He.SaysT fa fn ts w K ∧ ex K = true
  of := fun _ _ e => ⟨_, He.frG_in, congrArg (fun z : AlM => z.1) e, congrArg (fun z : AlM => z.2) e⟩
  keeps := fun _ _ _ held kept => held.elim fun K z => ⟨K, z.1.keeps kept, z.2⟩
theorem obsM_eq {n : Nat} {fa : List He.Fa} {fn : List He.DefD} {ts : List He.Tab} {ex : PySem.W.Frag → Bool} {g : Addr → Option Obj} {s : Shared} (h : ∀ a, g a = s.heap.get? a) : obsM n fa fn ts ex g = (hookM n fa fn ts ex).obs s := by
  obtain rfl : g = s.heap.get? := funext h
  rfl
abbrev RowR : PySem.W.OpenRow := PySem.W.OpenLaw.row PySem.Challenge.rw_cratetowers_k13_rows_followed
abbrev hk : PySem.W.Hook := hookM 6 fa fn ts ex
def ob (s : PySem.W.SharedT) : AlM := obsM 6 fa fn ts ex (HandSHeadRun.getT s)
theorem ob_eq (s : PySem.W.SharedT) : ob s = hk.obs s.abs := obsM_eq (HandSHeadRun.getT_eq s)
def loose0 : List Str := [PySem.Str.ofString "_wall", PySem.Str.ofString "CratesError", PySem.Str.ofString "InvalidYard", PySem.Str.ofString "InvalidText", PySem.Str.ofString "InvalidArrangement", PySem.Str.ofString "InvalidWay", PySem.Str.ofString "InvalidCrate", PySem.Str.ofString "InvalidRow", PySem.Str.ofString "InvalidCount", PySem.Str.ofString "NotAllowed", PySem.Str.ofString "PLACES", PySem.Str.ofString "WAYS", PySem.Str.ofString "COLUMNS", PySem.Str.ofString "MOST_CRATES", PySem.Str.ofString "_DIGITS", PySem.Str.ofString "_BAR", PySem.Str.ofString "is_way", PySem.Str.ofString "is_price", PySem.Str.ofString "is_integer", PySem.Str.ofString "is_integer_within", PySem.Str.ofString "is_numeral", PySem.Str.ofString "check_way", PySem.Str.ofString "check_yard", PySem.Str.ofString "check_crate", PySem.Str.ofString "Yard", PySem.Str.ofString "_are_rows", PySem.Str.ofString "_is_price_row", PySem.Str.ofString "_is_yard_text", PySem.Str.ofString "_is_line", PySem.Str.ofString "_is_price_text"]
def loose1 : List Str := [PySem.Str.ofString "_price_text", PySem.Str.ofString "_price_of", PySem.Str.ofString "_PLACE_SIGNS", PySem.Str.ofString "is_arrangement", PySem.Str.ofString "check_arrangement", PySem.Str.ofString "MOST_MOVES", PySem.Str.ofString "is_row", PySem.Str.ofString "first_bad", PySem.Str.ofString "behind", PySem.Str.ofString "all_behind", PySem.Str.ofString "row_cost", PySem.Str.ofString "row_crates", PySem.Str.ofString "row_of_largest", PySem.Str.ofString "_check_move_list", PySem.Str.ofString "_is_move_list", PySem.Str.ofString "_arrangements", PySem.Str.ofString "_first_refused", PySem.Str.ofString "_law_cell", PySem.Str.ofString "_law_box", PySem.Str.ofString "_law_take", PySem.Str.ofString "_law_size", PySem.Str.ofString "_law_plain", PySem.Str.ofString "_law_word", PySem.Str.ofString "_law_price", PySem.Str.ofString "_law_moves", PySem.Str.ofString "_law_behind", PySem.Str.ofString "_law_walk", PySem.Str.ofString "_law_followed", PySem.Str.ofString "_law_right"]
def loose : List Str := loose0 ++ loose1
abbrev n__law_box : List Str := ["_law_cell_here"]
theorem sc__law_box : FnScope n__law_box ["_law_cell_here"] (defScope s__law_box) := ⟨rfl, rfl, rfl, by decide +kernel, rfl, by decide +kernel, by decide +kernel⟩
abbrev n__law_cell : List Str := ["_law_script", "_law_k"]
theorem sc__law_cell : FnScope n__law_cell ["_law_script", "_law_k"] (defScope s__law_cell) := ⟨rfl, rfl, rfl, by decide +kernel, rfl, by decide +kernel, by decide +kernel⟩
abbrev n__law_take : List Str := ["_law_box_here", "_law_amount", "_law_digit", "_law_blend"]
theorem sc__law_take : FnScope n__law_take ["_law_box_here", "_law_amount"] (defScope s__law_take) := ⟨rfl, rfl, rfl, by decide +kernel, rfl, by decide +kernel, by decide +kernel⟩
abbrev n__law_plain : List Str := ["_law_box_here", "_law_size_here", "_law_odds", "_law_great", "_law_flat", "_law_found", "_law_crate", "_law_line", "_law_way", "_law_price_here"]
theorem sc__law_plain : FnScope n__law_plain ["_law_box_here", "_law_size_here"] (defScope s__law_plain) := ⟨rfl, rfl, rfl, by decide +kernel, rfl, by decide +kernel, by decide +kernel⟩
abbrev n__law_behind : List Str := ["_law_word_here", "_law_move"]
theorem sc__law_behind : FnScope n__law_behind ["_law_word_here", "_law_move"] (defScope s__law_behind) := ⟨rfl, rfl, rfl, by decide +kernel, rfl, by decide +kernel, by decide +kernel⟩
abbrev n__law_price : List Str := ["_law_plain_here", "_law_crate", "_law_begin", "_law_place"]
theorem sc__law_price : FnScope n__law_price ["_law_plain_here", "_law_crate", "_law_begin", "_law_place"] (defScope s__law_price) := ⟨rfl, rfl, rfl, by decide +kernel, rfl, by decide +kernel, by decide +kernel⟩
abbrev n__law_followed : List Str := ["_law_plain_here", "_law_word_here", "_law_row", "_law_found", "_law_cost", "_law_move"]
theorem sc__law_followed : FnScope n__law_followed ["_law_plain_here", "_law_word_here", "_law_row"] (defScope s__law_followed) := ⟨rfl, rfl, rfl, by decide +kernel, rfl, by decide +kernel, by decide +kernel⟩
abbrev n_Yard_price_rows : List Str := ["self"]
theorem sc_Yard_price_rows : FnScope n_Yard_price_rows ["self"] (defScope s_Yard_price_rows) := ⟨rfl, rfl, rfl, by decide +kernel, rfl, by decide +kernel, by decide +kernel⟩
abbrev n__arrangements : List Str := ["yard", "start", "moves", "prices", "here", "arrangements", "crate", "place", "held"]
theorem sc__arrangements : FnScope n__arrangements ["yard", "start", "moves"] (defScope s__arrangements) := ⟨rfl, rfl, rfl, by decide +kernel, rfl, by decide +kernel, by decide +kernel⟩
abbrev n_Yard_len : List Str := ["self"]
theorem sc_Yard_len : FnScope n_Yard_len ["self"] (defScope s_Yard_len) := ⟨rfl, rfl, rfl, by decide +kernel, rfl, by decide +kernel, by decide +kernel⟩
abbrev n__is_move_list : List Str := ["yard", "value", "count", "move"]
theorem sc__is_move_list : FnScope n__is_move_list ["yard", "value"] (defScope s__is_move_list) := ⟨rfl, rfl, rfl, by decide +kernel, rfl, by decide +kernel, by decide +kernel⟩
abbrev n__check_move_list : List Str := ["yard", "row"]
theorem sc__check_move_list : FnScope n__check_move_list ["yard", "row"] (defScope s__check_move_list) := ⟨rfl, rfl, rfl, by decide +kernel, rfl, by decide +kernel, by decide +kernel⟩
abbrev n__first_refused : List Str := ["moves", "arrangements", "made"]
theorem sc__first_refused : FnScope n__first_refused ["moves", "arrangements"] (defScope s__first_refused) := ⟨rfl, rfl, rfl, by decide +kernel, rfl, by decide +kernel, by decide +kernel⟩
abbrev n_check_yard : List Str := ["yard"]
theorem sc_check_yard : FnScope n_check_yard ["yard"] (defScope s_check_yard) := ⟨rfl, rfl, rfl, by decide +kernel, rfl, by decide +kernel, by decide +kernel⟩
abbrev n_is_arrangement : List Str := ["yard", "value"]
theorem sc_is_arrangement : FnScope n_is_arrangement ["yard", "value"] (defScope s_is_arrangement) := ⟨rfl, rfl, rfl, by decide +kernel, rfl, by decide +kernel, by decide +kernel⟩
abbrev n_check_arrangement : List Str := ["yard", "arrangement"]
theorem sc_check_arrangement : FnScope n_check_arrangement ["yard", "arrangement"] (defScope s_check_arrangement) := ⟨rfl, rfl, rfl, by decide +kernel, rfl, by decide +kernel, by decide +kernel⟩
abbrev n_all_behind : List Str := ["yard", "start", "row", "arrangements", "index"]
theorem sc_all_behind : FnScope n_all_behind ["yard", "start", "row"] (defScope s_all_behind) := ⟨rfl, rfl, rfl, by decide +kernel, rfl, by decide +kernel, by decide +kernel⟩
abbrev n_behind : List Str := ["yard", "start", "row"]
theorem sc_behind : FnScope n_behind ["yard", "start", "row"] (defScope s_behind) := ⟨rfl, rfl, rfl, by decide +kernel, rfl, by decide +kernel, by decide +kernel⟩
abbrev n_first_bad : List Str := ["yard", "start", "row"]
theorem sc_first_bad : FnScope n_first_bad ["yard", "start", "row"] (defScope s_first_bad) := ⟨rfl, rfl, rfl, by decide +kernel, rfl, by decide +kernel, by decide +kernel⟩
abbrev n_is_row : List Str := ["yard", "start", "value"]
theorem sc_is_row : FnScope n_is_row ["yard", "start", "value"] (defScope s_is_row) := ⟨rfl, rfl, rfl, by decide +kernel, rfl, by decide +kernel, by decide +kernel⟩
abbrev n_row_cost : List Str := ["yard", "start", "row", "arrangements", "prices", "here", "crate", "place"]
theorem sc_row_cost : FnScope n_row_cost ["yard", "start", "row"] (defScope s_row_cost) := ⟨rfl, rfl, rfl, by decide +kernel, rfl, by decide +kernel, by decide +kernel⟩
abbrev n_row_crates : List Str := ["yard", "start", "row", "often", "crate", "_"]
theorem sc_row_crates : FnScope n_row_crates ["yard", "start", "row"] (defScope s_row_crates) := ⟨rfl, rfl, rfl, by decide +kernel, rfl, by decide +kernel, by decide +kernel⟩
abbrev n_is_integer : List Str := ["value"]
theorem sc_is_integer : FnScope n_is_integer ["value"] (defScope s_is_integer) := ⟨rfl, rfl, rfl, by decide +kernel, rfl, by decide +kernel, by decide +kernel⟩
abbrev n_is_integer_within : List Str := ["value", "low", "high"]
theorem sc_is_integer_within : FnScope n_is_integer_within ["value", "low", "high"] (defScope s_is_integer_within) := ⟨rfl, rfl, rfl, by decide +kernel, rfl, by decide +kernel, by decide +kernel⟩
abbrev n_row_of_largest : List Str := ["yard", "start", "row", "count", "move"]
theorem sc_row_of_largest : FnScope n_row_of_largest ["yard", "start", "row", "count"] (defScope s_row_of_largest) := ⟨rfl, rfl, rfl, by decide +kernel, rfl, by decide +kernel, by decide +kernel⟩
abbrev n_is_price : List Str := ["value"]
theorem sc_is_price : FnScope n_is_price ["value"] (defScope s_is_price) := ⟨rfl, rfl, rfl, by decide +kernel, rfl, by decide +kernel, by decide +kernel⟩
abbrev n__is_price_row : List Str := ["value", "price"]
theorem sc__is_price_row : FnScope n__is_price_row ["value"] (defScope s__is_price_row) := ⟨rfl, rfl, rfl, by decide +kernel, rfl, by decide +kernel, by decide +kernel⟩
abbrev n__are_rows : List Str := ["value", "row"]
theorem sc__are_rows : FnScope n__are_rows ["value"] (defScope s__are_rows) := ⟨rfl, rfl, rfl, by decide +kernel, rfl, by decide +kernel, by decide +kernel⟩
abbrev n_Yard_init : List Str := ["self", "rows", "row"]
theorem sc_Yard_init : FnScope n_Yard_init ["self", "rows"] (defScope s_Yard_init) := ⟨rfl, rfl, rfl, by decide +kernel, rfl, by decide +kernel, by decide +kernel⟩
abbrev n__law_right : List Str := ["_law_box_here", "_law_plain_here", "_law_word_here", "_law_row", "_law_yard", "_law_kept", "_law_found", "_law_cost", "_law_handed", "_law_told", "_law_crates", "_law_due", "_law_count", "_law_some", "_law_few", "_law_crate", "_law_move"]
theorem sc__law_right : FnScope n__law_right ["_law_box_here", "_law_plain_here", "_law_word_here", "_law_row"] (defScope s__law_right) := ⟨rfl, rfl, rfl, by decide +kernel, rfl, by decide +kernel, by decide +kernel⟩
abbrev n__law_size : List Str := ["_law_box_here", "_law_most", "_law_size_here"]
theorem sc__law_size : FnScope n__law_size ["_law_box_here", "_law_most"] (defScope s__law_size) := ⟨rfl, rfl, rfl, by decide +kernel, rfl, by decide +kernel, by decide +kernel⟩
abbrev n__law_moves : List Str := ["_law_plain_here", "_law_word_here", "_law_tops", "_law_crate", "_law_found", "_law_place", "_law_price_here"]
theorem sc__law_moves : FnScope n__law_moves ["_law_plain_here", "_law_word_here"] (defScope s__law_moves) := ⟨rfl, rfl, rfl, by decide +kernel, rfl, by decide +kernel, by decide +kernel⟩
abbrev n__law_walk : List Str := ["_law_box_here", "_law_plain_here", "_law_word_here", "_law_most", "_law_row", "_law_now", "_law_last", "_law_lap", "_law_move", "_law_moves_here", "_law_price_here"]
theorem sc__law_walk : FnScope n__law_walk ["_law_box_here", "_law_plain_here", "_law_word_here", "_law_most"] (defScope s__law_walk) := ⟨rfl, rfl, rfl, by decide +kernel, rfl, by decide +kernel, by decide +kernel⟩
abbrev n__law_word : List Str := ["_law_box_here", "_law_size_here", "_law_crate"]
theorem sc__law_word : FnScope n__law_word ["_law_box_here", "_law_size_here"] (defScope s__law_word) := ⟨rfl, rfl, rfl, by decide +kernel, rfl, by decide +kernel, by decide +kernel⟩
abbrev n_law : List Str := ["_law_script", "_law_k", "_law_box_here", "_law_size_here", "_law_plain_here", "_law_word_here", "_law_most"]
theorem sc_law : FnScope n_law ["_law_script"] (defScope s_law) := ⟨rfl, rfl, rfl, by decide +kernel, rfl, by decide +kernel, by decide +kernel⟩
structure Ct (K : PySem.W.Frag) (w : World) (mg : Str → Option Value) : Prop where
  says : He.SaysD fa fn K
  F : KF K
  g_COLUMNS : mg "COLUMNS" = some (.ref (He.ga K "COLUMNS"))
  g_InvalidArrangement : mg "InvalidArrangement" = some (.ref (He.ga K "InvalidArrangement"))
  g_InvalidCount : mg "InvalidCount" = some (.ref (He.ga K "InvalidCount"))
  g_InvalidRow : mg "InvalidRow" = some (.ref (He.ga K "InvalidRow"))
  g_InvalidYard : mg "InvalidYard" = some (.ref (He.ga K "InvalidYard"))
  g_NotAllowed : mg "NotAllowed" = some (.ref (He.ga K "NotAllowed"))
  g_PLACES : mg "PLACES" = some (.ref (He.ga K "PLACES"))
  g_WAYS : mg "WAYS" = some (.ref (He.ga K "WAYS"))
  g_Yard : mg "Yard" = some (.ref (He.ga K "Yard"))
  g__are_rows : mg "_are_rows" = some (.ref (He.ga K "_are_rows"))
  g__arrangements : mg "_arrangements" = some (.ref (He.ga K "_arrangements"))
  g__check_move_list : mg "_check_move_list" = some (.ref (He.ga K "_check_move_list"))
  g__first_refused : mg "_first_refused" = some (.ref (He.ga K "_first_refused"))
  g__is_move_list : mg "_is_move_list" = some (.ref (He.ga K "_is_move_list"))
  g__is_price_row : mg "_is_price_row" = some (.ref (He.ga K "_is_price_row"))
  g__law_behind : mg "_law_behind" = some (.ref (He.ga K "_law_behind"))
  g__law_box : mg "_law_box" = some (.ref (He.ga K "_law_box"))
  g__law_cell : mg "_law_cell" = some (.ref (He.ga K "_law_cell"))
  g__law_followed : mg "_law_followed" = some (.ref (He.ga K "_law_followed"))
  g__law_moves : mg "_law_moves" = some (.ref (He.ga K "_law_moves"))
  g__law_plain : mg "_law_plain" = some (.ref (He.ga K "_law_plain"))
  g__law_price : mg "_law_price" = some (.ref (He.ga K "_law_price"))
  g__law_right : mg "_law_right" = some (.ref (He.ga K "_law_right"))
  g__law_size : mg "_law_size" = some (.ref (He.ga K "_law_size"))
  g__law_take : mg "_law_take" = some (.ref (He.ga K "_law_take"))
  g__law_walk : mg "_law_walk" = some (.ref (He.ga K "_law_walk"))
  g__law_word : mg "_law_word" = some (.ref (He.ga K "_law_word"))
  g_all_behind : mg "all_behind" = some (.ref (He.ga K "all_behind"))
  g_behind : mg "behind" = some (.ref (He.ga K "behind"))
  g_check_arrangement : mg "check_arrangement" = some (.ref (He.ga K "check_arrangement"))
  g_check_yard : mg "check_yard" = some (.ref (He.ga K "check_yard"))
  g_first_bad : mg "first_bad" = some (.ref (He.ga K "first_bad"))
  g_is_arrangement : mg "is_arrangement" = some (.ref (He.ga K "is_arrangement"))
  g_is_integer : mg "is_integer" = some (.ref (He.ga K "is_integer"))
  g_is_integer_within : mg "is_integer_within" = some (.ref (He.ga K "is_integer_within"))
  g_is_price : mg "is_price" = some (.ref (He.ga K "is_price"))
  g_is_row : mg "is_row" = some (.ref (He.ga K "is_row"))
  g_law : mg "law" = some (.ref (He.ga K "law"))
  g_row_cost : mg "row_cost" = some (.ref (He.ga K "row_cost"))
  g_row_crates : mg "row_crates" = some (.ref (He.ga K "row_crates"))
  g_row_of_largest : mg "row_of_largest" = some (.ref (He.ga K "row_of_largest"))
  int_MOST_CRATES : ∃ t, mg "MOST_CRATES" = some (.int 60 t)
  int_MOST_MOVES : ∃ t, mg "MOST_MOVES" = some (.int 1000 t)
  str__PLACE_SIGNS : ∃ t, mg "_PLACE_SIGNS" = some (.str "abc" t)
  n_all : mg "all" = none
  n_bool : mg "bool" = none
  n_int : mg "int" = none
  n_isinstance : mg "isinstance" = none
  n_len : mg "len" = none
  n_list : mg "list" = none
  n_max : mg "max" = none
  n_min : mg "min" = none
  n_range : mg "range" = none
  n_repr : mg "repr" = none
  n_sorted : mg "sorted" = none
  n_str : mg "str" = none
  n_sum : mg "sum" = none
  n_tuple : mg "tuple" = none
  n_zip : mg "zip" = none
  mk_Yard : Mk K (He.ga K "Yard") (He.ma K (He.ga K "Yard") "__init__")
  m_Yard_init : Meth K (He.ga K "Yard") "__init__" (He.ma K (He.ga K "Yard") "__init__")
  m_Yard_len : Meth K (He.ga K "Yard") "__len__" (He.ma K (He.ga K "Yard") "__len__")
  m_Yard_price_rows : Meth K (He.ga K "Yard") "price_rows" (He.ma K (He.ga K "Yard") "price_rows")
  x_InvalidArrangement : ExcT K "InvalidArrangement" "value"
  x_InvalidCount : ExcT K "InvalidCount" "value"
  x_InvalidRow : ExcT K "InvalidRow" "value"
  x_InvalidYard : ExcT K "InvalidYard" "value"
  x_NotAllowed : ExcT K "NotAllowed" "index"
  t_COLUMNS : ColK K w
theorem ct_of {w : World} {K : PySem.W.Frag} {h : Heap} {mg : Str → Option Value} (X : K.In h) (G : h.Ns mainGlobals mg) (cc : He.SaysT fa fn ts w K) (e : ex K = true) : Ct K w mg := by
  have c := cc.d
  unfold ex at e
  simp only [Bool.and_eq_true, and_assoc] at e
  obtain ⟨e0, e_tCOLUMNS, e_InvalidArrangement, e_InvalidCount, e_InvalidRow, e_InvalidYard, e_NotAllowed⟩ := e
  exact ⟨c, kfB_ok e0, He.glo_ok X G (c.fact 0 (f := .glo "COLUMNS") rfl), He.glo_ok X G (c.fact 1 (f := .glo "InvalidArrangement") rfl), He.glo_ok X G (c.fact 2 (f := .glo "InvalidCount") rfl), He.glo_ok X G (c.fact 3 (f := .glo "InvalidRow") rfl), He.glo_ok X G (c.fact 4 (f := .glo "InvalidYard") rfl), He.glo_ok X G (c.fact 5 (f := .glo "NotAllowed") rfl), He.glo_ok X G (c.fact 6 (f := .glo "PLACES") rfl), He.glo_ok X G (c.fact 7 (f := .glo "WAYS") rfl), He.glo_ok X G (c.fact 8 (f := .glo "Yard") rfl), He.glo_ok X G (c.fact 9 (f := .glo "_are_rows") rfl), He.glo_ok X G (c.fact 10 (f := .glo "_arrangements") rfl), He.glo_ok X G (c.fact 11 (f := .glo "_check_move_list") rfl), He.glo_ok X G (c.fact 12 (f := .glo "_first_refused") rfl), He.glo_ok X G (c.fact 13 (f := .glo "_is_move_list") rfl), He.glo_ok X G (c.fact 14 (f := .glo "_is_price_row") rfl), He.glo_ok X G (c.fact 15 (f := .glo "_law_behind") rfl), He.glo_ok X G (c.fact 16 (f := .glo "_law_box") rfl), He.glo_ok X G (c.fact 17 (f := .glo "_law_cell") rfl), He.glo_ok X G (c.fact 18 (f := .glo "_law_followed") rfl), He.glo_ok X G (c.fact 19 (f := .glo "_law_moves") rfl), He.glo_ok X G (c.fact 20 (f := .glo "_law_plain") rfl), He.glo_ok X G (c.fact 21 (f := .glo "_law_price") rfl), He.glo_ok X G (c.fact 22 (f := .glo "_law_right") rfl), He.glo_ok X G (c.fact 23 (f := .glo "_law_size") rfl), He.glo_ok X G (c.fact 24 (f := .glo "_law_take") rfl), He.glo_ok X G (c.fact 25 (f := .glo "_law_walk") rfl), He.glo_ok X G (c.fact 26 (f := .glo "_law_word") rfl), He.glo_ok X G (c.fact 27 (f := .glo "all_behind") rfl), He.glo_ok X G (c.fact 28 (f := .glo "behind") rfl), He.glo_ok X G (c.fact 29 (f := .glo "check_arrangement") rfl), He.glo_ok X G (c.fact 30 (f := .glo "check_yard") rfl), He.glo_ok X G (c.fact 31 (f := .glo "first_bad") rfl), He.glo_ok X G (c.fact 32 (f := .glo "is_arrangement") rfl), He.glo_ok X G (c.fact 33 (f := .glo "is_integer") rfl), He.glo_ok X G (c.fact 34 (f := .glo "is_integer_within") rfl), He.glo_ok X G (c.fact 35 (f := .glo "is_price") rfl), He.glo_ok X G (c.fact 36 (f := .glo "is_row") rfl), He.glo_ok X G (c.fact 37 (f := .glo "law") rfl), He.glo_ok X G (c.fact 38 (f := .glo "row_cost") rfl), He.glo_ok X G (c.fact 39 (f := .glo "row_crates") rfl), He.glo_ok X G (c.fact 40 (f := .glo "row_of_largest") rfl), He.int_ok X G (c.fact 41 (f := .int "MOST_CRATES" 60) rfl), He.int_ok X G (c.fact 42 (f := .int "MOST_MOVES" 1000) rfl), He.str_ok X G (c.fact 43 (f := .str "_PLACE_SIGNS" "abc") rfl), He.free_ok X G (c.fact 44 (f := .free "all") rfl), He.free_ok X G (c.fact 45 (f := .free "bool") rfl), He.free_ok X G (c.fact 46 (f := .free "int") rfl), He.free_ok X G (c.fact 47 (f := .free "isinstance") rfl), He.free_ok X G (c.fact 48 (f := .free "len") rfl), He.free_ok X G (c.fact 49 (f := .free "list") rfl), He.free_ok X G (c.fact 50 (f := .free "max") rfl), He.free_ok X G (c.fact 51 (f := .free "min") rfl), He.free_ok X G (c.fact 52 (f := .free "range") rfl), He.free_ok X G (c.fact 53 (f := .free "repr") rfl), He.free_ok X G (c.fact 54 (f := .free "sorted") rfl), He.free_ok X G (c.fact 55 (f := .free "str") rfl), He.free_ok X G (c.fact 56 (f := .free "sum") rfl), He.free_ok X G (c.fact 57 (f := .free "tuple") rfl), He.free_ok X G (c.fact 58 (f := .free "zip") rfl), He.mkr_ok (c.fact 59 (f := .mkr "Yard") rfl), He.meth_ok (c.fact 60 (f := .meth "Yard" "__init__") rfl), He.meth_ok (c.fact 61 (f := .meth "Yard" "__len__") rfl), He.meth_ok (c.fact 62 (f := .meth "Yard" "price_rows") rfl), excB_ok e_InvalidArrangement, excB_ok e_InvalidCount, excB_ok e_InvalidRow, excB_ok e_InvalidYard, excB_ok e_NotAllowed, colK_of (cc.tab 0) e_tCOLUMNS⟩
section
variable {P : Program} {w : World} {K : PySem.W.Frag} {mg : Str → Option Value} {base : Heap}
theorem sc_InvalidArrangement_init : FnScope ["self", "value"] ["self", "value"] (defScope s_InvalidArrangement_init) := ⟨rfl, rfl, rfl, by decide +kernel, rfl, by decide +kernel, by decide +kernel⟩
theorem okx_InvalidArrangement (C : Ct K w mg) : GoodX P w K mg base "InvalidArrangement" "value" := by
  obtain ⟨fd, F⟩ := C.says.def_ 1 (d := d_InvalidArrangement_init) rfl
  exact ⟨⟨fd, F.ok sc_InvalidArrangement_init (fun vs H Q E h => spExcI_len vs H Q E h) (fun cdv A outer s H vs Q E hr h => ⟨_, pss_one (ps_ost (pv 0) (pv 1)), read_excI C.x_InvalidArrangement h⟩), F.bindsN fun _ _ _ _ _ _ us hl => match us, hl with | [_, _], _ => rfl⟩, C.x_InvalidArrangement, C.g_InvalidArrangement⟩
theorem sc_InvalidCount_init : FnScope ["self", "value"] ["self", "value"] (defScope s_InvalidCount_init) := ⟨rfl, rfl, rfl, by decide +kernel, rfl, by decide +kernel, by decide +kernel⟩
theorem okx_InvalidCount (C : Ct K w mg) : GoodX P w K mg base "InvalidCount" "value" := by
  obtain ⟨fd, F⟩ := C.says.def_ 3 (d := d_InvalidCount_init) rfl
  exact ⟨⟨fd, F.ok sc_InvalidCount_init (fun vs H Q E h => spExcI_len vs H Q E h) (fun cdv A outer s H vs Q E hr h => ⟨_, pss_one (ps_ost (pv 0) (pv 1)), read_excI C.x_InvalidCount h⟩), F.bindsN fun _ _ _ _ _ _ us hl => match us, hl with | [_, _], _ => rfl⟩, C.x_InvalidCount, C.g_InvalidCount⟩
theorem sc_InvalidRow_init : FnScope ["self", "value"] ["self", "value"] (defScope s_InvalidRow_init) := ⟨rfl, rfl, rfl, by decide +kernel, rfl, by decide +kernel, by decide +kernel⟩
theorem okx_InvalidRow (C : Ct K w mg) : GoodX P w K mg base "InvalidRow" "value" := by
  obtain ⟨fd, F⟩ := C.says.def_ 2 (d := d_InvalidRow_init) rfl
  exact ⟨⟨fd, F.ok sc_InvalidRow_init (fun vs H Q E h => spExcI_len vs H Q E h) (fun cdv A outer s H vs Q E hr h => ⟨_, pss_one (ps_ost (pv 0) (pv 1)), read_excI C.x_InvalidRow h⟩), F.bindsN fun _ _ _ _ _ _ us hl => match us, hl with | [_, _], _ => rfl⟩, C.x_InvalidRow, C.g_InvalidRow⟩
theorem sc_InvalidYard_init : FnScope ["self", "value"] ["self", "value"] (defScope s_InvalidYard_init) := ⟨rfl, rfl, rfl, by decide +kernel, rfl, by decide +kernel, by decide +kernel⟩
theorem okx_InvalidYard (C : Ct K w mg) : GoodX P w K mg base "InvalidYard" "value" := by
  obtain ⟨fd, F⟩ := C.says.def_ 0 (d := d_InvalidYard_init) rfl
  exact ⟨⟨fd, F.ok sc_InvalidYard_init (fun vs H Q E h => spExcI_len vs H Q E h) (fun cdv A outer s H vs Q E hr h => ⟨_, pss_one (ps_ost (pv 0) (pv 1)), read_excI C.x_InvalidYard h⟩), F.bindsN fun _ _ _ _ _ _ us hl => match us, hl with | [_, _], _ => rfl⟩, C.x_InvalidYard, C.g_InvalidYard⟩
theorem sc_NotAllowed_init : FnScope ["self", "index"] ["self", "index"] (defScope s_NotAllowed_init) := ⟨rfl, rfl, rfl, by decide +kernel, rfl, by decide +kernel, by decide +kernel⟩
theorem okx_NotAllowed (C : Ct K w mg) : GoodX P w K mg base "NotAllowed" "index" := by
  obtain ⟨fd, F⟩ := C.says.def_ 4 (d := d_NotAllowed_init) rfl
  exact ⟨⟨fd, F.ok sc_NotAllowed_init (fun vs H Q E h => spExcI_len vs H Q E h) (fun cdv A outer s H vs Q E hr h => ⟨_, pss_one (ps_ost (pv 0) (pv 1)), read_excI C.x_NotAllowed h⟩), F.bindsN fun _ _ _ _ _ _ us hl => match us, hl with | [_, _], _ => rfl⟩, C.x_NotAllowed, C.g_NotAllowed⟩
theorem ok__law_box (C : Ct K w mg) : GoodO P w K mg base 1 "_law_box" ["_law_cell_here"] (sp__law_box K) := by
  obtain ⟨fd, F⟩ := C.says.def_ 28 (d := d__law_box) rfl
  exact ⟨⟨fd, F.ok (k := 0) sc__law_box (fun vs H Q E h => sp1_len vs H Q E h) (fun cdv A outer s H vs Q E hr h => ⟨t__law_box K E, (have hu := hr.units; (pss_one (ps_ret (pe_lst (pa_cons (pe_callB (call_max2 rfl) (by rfl) C.n_max (by decide +kernel) (pa_cons pe_int (pa_cons (pe_op op_uSub (pv 0) (pe_op op_uPow pe_int pe_int)) pa_nil))) (pa_cons (pe_op op_uMod (pe_callTy call_int1 (by rfl) C.n_int (by decide +kernel) (pa_cons (pv 0) pa_nil)) pe_int) (pa_cons pe_int pa_nil))))))), read__law_box C.F h⟩), F.bindsN fun _ _ _ _ _ _ us hl => match us, hl with | [_], _ => rfl⟩, C.g__law_box, F.kp⟩
theorem ok__law_cell (C : Ct K w mg) : GoodO P w K mg base 1 "_law_cell" ["_law_script", "_law_k"] (sp__law_cell K) := by
  obtain ⟨fd, F⟩ := C.says.def_ 27 (d := d__law_cell) rfl
  exact ⟨⟨fd, F.ok (k := 0) sc__law_cell (fun vs H Q E h => sp2_len vs H Q E h) (fun cdv A outer s H vs Q E hr h => ⟨t__law_cell K E, (have hu := hr.units; (pss_cons (ps_if (pt_cmpR op_uLt (pv 1) (pe_callB call_uLen (by rfl) C.n_len boot_len (pa_cons (pv 0) pa_nil)) (by rfl)) (pss_one (ps_ret (pe_ix ix_u (pv 0) (pv 1) (fun _ _ => rfl)))) pss_nil) (pss_one (ps_ret (pe_op op_uAdd (pe_op op_uAdd (pe_op op_uMul pe_int (pv 1)) pe_int) (pe_op op_uMod (pe_callB (cr_sum rfl) (by rfl) C.n_sum (by decide +kernel) (pa_cons (pe_slice sl_u (pv 0) po_none (po_some pe_int)) pa_nil)) pe_int)))))), read__law_cell C.F h⟩), F.bindsN fun _ _ _ _ _ _ us hl => match us, hl with | [_, _], _ => rfl⟩, C.g__law_cell, F.kp⟩
theorem ok__law_take (C : Ct K w mg) : GoodO P w K mg base 1 "_law_take" ["_law_box_here", "_law_amount"] (sp__law_take K) := by
  obtain ⟨fd, F⟩ := C.says.def_ 29 (d := d__law_take) rfl
  exact ⟨⟨fd, F.ok (k := 0) sc__law_take (fun vs H Q E h => sp2_len vs H Q E h) (fun cdv A outer s H vs Q E hr h => ⟨t__law_take K E, (have hu := hr.units; (pss_cons (ps_if (pt_cmpR op_uGt (pe_ix ix_u (pv 0) pe_int (fun _ _ => rfl)) pe_int (by rfl)) (pss_cons (ps_set (i := 2) sc__law_take.nd rfl (Or.inl rfl) (pe_op op_uMod (pe_callTy call_int1 (by rfl) C.n_int (by decide +kernel) (pa_cons (pe_ix ix_u (pv 0) pe_int (fun _ _ => rfl)) pa_nil)) (pv 1))) (pss_cons (ps_asg (pe_op op_uDiv (pe_ix ix_u (pv 0) pe_int (fun _ _ => rfl)) (pv 1)) (pg_sub (pv 0) pe_int set_list)) (pss_one (ps_ret (pv 2))))) pss_nil) (pss_cons (ps_asg (pe_op op_uAdd (pe_ix ix_u (pv 0) pe_int (fun _ _ => rfl)) pe_int) (pg_sub (pv 0) pe_int set_list)) (pss_cons (ps_set (i := 3) sc__law_take.nd rfl (Or.inl rfl) (pe_op op_uMod (pe_op op_uPow (pe_callTy call_int1 (by rfl) C.n_int (by decide +kernel) (pa_cons (pe_op op_uAdd (pe_op op_uAdd (pe_ix ix_u (pv 0) pe_int (fun _ _ => rfl)) (pe_op op_uMul pe_int (pe_ix ix_u (pv 0) pe_int (fun _ _ => rfl)))) pe_int) pa_nil)) pe_int) pe_int)) (pss_cons (ps_set (i := 3) sc__law_take.nd rfl (Or.inl rfl) (pe_op op_uMod (pe_op op_uPow (pe_callTy call_int1 (by rfl) C.n_int (by decide +kernel) (pa_cons (pe_op op_uAdd (pv 3) (pe_op op_uMul pe_int (pe_ix ix_u (pv 0) pe_int (fun _ _ => rfl)))) pa_nil)) pe_int) pe_int)) (pss_one (ps_ret (pe_op op_uMod (pe_callTy call_int1 (by rfl) C.n_int (by decide +kernel) (pa_cons (pe_op op_uDiv (pv 3) pe_int) pa_nil)) (pv 1))))))))), read__law_take C.F h⟩), F.bindsN fun _ _ _ _ _ _ us hl => match us, hl with | [_, _], _ => rfl⟩, C.g__law_take, F.kp⟩
theorem ok__law_plain (C : Ct K w mg) : GoodO P w K mg base 2 "_law_plain" ["_law_box_here", "_law_size_here"] (sp__law_plain K) := by
  obtain ⟨fd, F⟩ := C.says.def_ 31 (d := d__law_plain) rfl
  exact ⟨⟨fd, F.ok (k := 1) sc__law_plain (fun vs H Q E h => sp2_len vs H Q E h) (fun cdv A outer s H vs Q E hr h => ⟨t__law_plain K E, (have hu := hr.units; (pss_cons (ps_set (i := 2) sc__law_plain.nd rfl (Or.inl rfl) (pe_ix ix_u (pe_lst (pa_cons pe_int (pa_cons pe_int (pa_cons pe_int (pa_cons pe_int (pa_cons pe_int pa_nil)))))) (pe_fo (ok__law_take C) (hr.mono (by decide)) (by rfl) (passes_call (takes_of rfl rfl rfl rfl) fun _ _ _ _ h => h) (ha := (pa_cons (pv 0) (pa_cons pe_int pa_nil)))) (fun _ _ => rfl))) (pss_cons (ps_par3 (by rfl) sc__law_plain.nd rfl rfl rfl (by decide) (by decide) (by decide) rfl rfl rfl (pa_cons (pe_cmpR (op_uEq hu) (pe_fo (ok__law_take C) (hr.mono (by decide)) (by rfl) (passes_call (takes_of rfl rfl rfl rfl) fun _ _ _ _ h => h) (ha := (pa_cons (pv 0) (pa_cons pe_int pa_nil)))) pe_int (by rfl)) (pa_cons (pe_cmpR (op_uEq hu) (pe_fo (ok__law_take C) (hr.mono (by decide)) (by rfl) (passes_call (takes_of rfl rfl rfl rfl) fun _ _ _ _ h => h) (ha := (pa_cons (pv 0) (pa_cons pe_int pa_nil)))) pe_int (by rfl)) (pa_cons (pe_lst pa_nil) pa_nil))) (by rfl)) (pss_cons (ps_for (passes_of rfl) rfl (pi_range1 (by rfl) C.n_range (pa_cons (pv 1) pa_nil)) (pg_name (i := 6) sc__law_plain.nd rfl (Or.inl rfl)) (pss_cons (ps_set (i := 7) sc__law_plain.nd rfl (Or.inl rfl) (pe_lst pa_nil)) (pss_cons (ps_for (passes_of rfl) rfl (pi_range1 (by rfl) C.n_range (pa_cons pe_int pa_nil)) (pg_name (i := 8) sc__law_plain.nd rfl (Or.inl rfl)) (pss_cons (ps_set (i := 9) sc__law_plain.nd rfl (Or.inl rfl) (pe_ix ix_u (pe_lst (pa_cons pe_int (pa_cons pe_int (pa_cons pe_int (pa_cons pe_int (pa_cons (pe_op op_uAdd pe_int (pe_fo (ok__law_take C) (hr.mono (by decide)) (by rfl) (passes_call (takes_of rfl rfl rfl rfl) fun _ _ _ _ h => h) (ha := (pa_cons (pv 0) (pa_cons pe_int pa_nil))))) (pa_cons pe_int pa_nil))))))) (pe_ifExp (pt_truth (pv 4) (by intro _; rfl)) pe_int (pe_fo (ok__law_take C) (hr.mono (by decide)) (by rfl) (passes_call (takes_of rfl rfl rfl rfl) fun _ _ _ _ h => h) (ha := (pa_cons (pv 0) (pa_cons pe_int pa_nil))))) (fun _ _ => rfl))) (pss_cons (ps_set (i := 9) sc__law_plain.nd rfl (Or.inl rfl) (pe_ifExp (PW.pt (pw_and (pt_truth (pv 3) (by intro _; rfl)) (pw_and1 (pt_not (pt_truth (pv 4) (by intro _; rfl)))))) (pe_op op_uAdd (pe_op op_uMul (pv 9) (pe_op op_uPow pe_int pe_int)) (pe_fo (ok__law_take C) (hr.mono (by decide)) (by rfl) (passes_call (takes_of rfl rfl rfl rfl) fun _ _ _ _ h => h) (ha := (pa_cons (pv 0) (pa_cons pe_int pa_nil))))) (pv 9))) (pss_one (ps_expr (pe_bm PySem.F.plainAttrs_list PySem.F.slot_list_append PySem.F.type_list_append mt_append (pv 7) (pa_cons (pe_ifExp (pt_cmpR op_uLt (pe_fo (ok__law_take C) (hr.mono (by decide)) (by rfl) (passes_call (takes_of rfl rfl rfl rfl) fun _ _ _ _ h => h) (ha := (pa_cons (pv 0) (pa_cons pe_int pa_nil)))) (pv 2) (by rfl)) pe_non (pv 9)) pa_nil))))))) (pss_one (ps_expr (pe_bm PySem.F.plainAttrs_list PySem.F.slot_list_append PySem.F.type_list_append mt_append (pv 5) (pa_cons (pv 7) pa_nil))))))) (pss_one (ps_ret (pv 5))))))), read__law_plain C.F h⟩), F.bindsN fun _ _ _ _ _ _ us hl => match us, hl with | [_, _], _ => rfl⟩, C.g__law_plain, F.kp⟩
theorem ok__law_behind (C : Ct K w mg) : GoodO P w K mg base 1 "_law_behind" ["_law_word_here", "_law_move"] (sp__law_behind K) := by
  obtain ⟨fd, F⟩ := C.says.def_ 35 (d := d__law_behind) rfl
  exact ⟨⟨fd, F.ok (k := 0) sc__law_behind (fun vs H Q E h => sp2_len vs H Q E h) (fun cdv A outer s H vs Q E hr h => ⟨t__law_behind K E, (have hu := hr.units; (pss_one (ps_ret (pe_op op_uAdd (pe_op op_uAdd (pe_slice sl_u (pv 0) po_none (po_some (pe_ix ix_u (pv 1) pe_int (fun _ _ => rfl)))) (pe_ix ix_u (pv 1) pe_int (fun _ _ => rfl))) (pe_slice sl_u (pv 0) (po_some (pe_op op_uAdd (pe_ix ix_u (pv 1) pe_int (fun _ _ => rfl)) pe_int)) po_none))))), read__law_behind C.F h⟩), F.bindsN fun _ _ _ _ _ _ us hl => match us, hl with | [_, _], _ => rfl⟩, C.g__law_behind, F.kp⟩
theorem ok__law_price (C : Ct K w mg) : GoodO P w K mg base 1 "_law_price" ["_law_plain_here", "_law_crate", "_law_begin", "_law_place"] (sp__law_price K) := by
  obtain ⟨fd, F⟩ := C.says.def_ 33 (d := d__law_price) rfl
  exact ⟨⟨fd, F.ok (k := 0) sc__law_price (fun vs H Q E h => sp4_len vs H Q E h) (fun cdv A outer s H vs Q E hr h => ⟨t__law_price K E, (have hu := hr.units; (pss_one (ps_ret (pe_ix ix_u (pe_ix ix_u (pv 0) (pv 1) (fun _ _ => rfl)) (pe_bm PySem.F.plainAttrs_list PySem.F.slot_list_index PySem.F.type_list_index mt_index (pe_lst (pa_cons pe_str (pa_cons pe_str (pa_cons pe_str (pa_cons pe_str (pa_cons pe_str (pa_cons pe_str pa_nil))))))) (pa_cons (pe_op op_uAdd (pv 2) (pv 3)) pa_nil)) (fun _ _ => rfl))))), read__law_price C.F h⟩), F.bindsN fun _ _ _ _ _ _ us hl => match us, hl with | [_, _, _, _], _ => rfl⟩, C.g__law_price, F.kp⟩
theorem ok__law_followed (C : Ct K w mg) : GoodO P w K mg base 2 "_law_followed" ["_law_plain_here", "_law_word_here", "_law_row"] (sp__law_followed K) := by
  obtain ⟨fd, F⟩ := C.says.def_ 37 (d := d__law_followed) rfl
  exact ⟨⟨fd, F.ok (k := 1) sc__law_followed (fun vs H Q E h => sp3_len vs H Q E h) (fun cdv A outer s H vs Q E hr h => ⟨t__law_followed K E, (have hu := hr.units; (pss_cons (ps_par (by rfl) sc__law_followed.nd rfl rfl (by decide) rfl rfl (pa_cons (pe_lst (pa_cons (pv 1) pa_nil)) (pa_cons pe_int pa_nil)) (by rfl)) (pss_cons (ps_for (passes_of rfl) rfl (pi_seq (pv 2)) (pg_name (i := 5) sc__law_followed.nd rfl (Or.inl rfl)) (pss_cons (ps_set (i := 4) sc__law_followed.nd rfl (Or.inl rfl) (pe_op op_uAdd (pv 4) (pe_fo (ok__law_price C) (hr.mono (by decide)) (by rfl) (passes_call (takes_of rfl rfl rfl rfl) fun _ _ _ _ h => h) (ha := (pa_cons (pv 0) (pa_cons (pe_ix ix_u (pv 5) pe_int (fun _ _ => rfl)) (pa_cons (pe_ix ix_u (pe_ix ix_u (pv 3) (pe_un un_neg pe_int) (fun _ _ => rfl)) (pe_ix ix_u (pv 5) pe_int (fun _ _ => rfl)) (fun _ _ => rfl)) (pa_cons (pe_ix ix_u (pv 5) pe_int (fun _ _ => rfl)) pa_nil)))))))) (pss_one (ps_expr (pe_bm PySem.F.plainAttrs_list PySem.F.slot_list_append PySem.F.type_list_append mt_append (pv 3) (pa_cons (pe_fo (ok__law_behind C) (hr.mono (by decide)) (by rfl) (passes_call (takes_of rfl rfl rfl rfl) fun _ _ _ _ h => h) (ha := (pa_cons (pe_ix ix_u (pv 3) (pe_un un_neg pe_int) (fun _ _ => rfl)) (pa_cons (pv 5) pa_nil)))) pa_nil)))))) (pss_one (ps_ret (pe_tup (pa_cons (pv 3) (pa_cons (pv 4) pa_nil)))))))), read__law_followed C.F h⟩), F.bindsN fun _ _ _ _ _ _ us hl => match us, hl with | [_, _, _], _ => rfl⟩, C.g__law_followed, F.kp⟩
theorem ok_Yard_price_rows (C : Ct K w mg) : GoodM P w K mg base 1 "Yard" "price_rows" ["self"] (sp_Yard_price_rows K) := by
  obtain ⟨fd, F⟩ := C.says.def_ 11 (d := d_Yard_price_rows) rfl
  exact ⟨⟨fd, F.ok (k := 0) sc_Yard_price_rows (fun vs H Q E h => sp1_len vs H Q E h) (fun cdv A outer s H vs Q E hr h => ⟨t_Yard_price_rows K E, (have hu := hr.units; (pss_one (ps_ret (pe_fld (pv 0) rfl)))), read_Yard_price_rows C.F h⟩), F.bindsN fun _ _ _ _ _ _ us hl => match us, hl with | [_], _ => rfl⟩, C.m_Yard_price_rows, C.F.cl⟩
theorem ok__arrangements (C : Ct K w mg) : GoodO P w K mg base 2 "_arrangements" ["yard", "start", "moves"] (sp__arrangements K) := by
  obtain ⟨fd, F⟩ := C.says.def_ 25 (d := d__arrangements) rfl
  exact ⟨⟨fd, F.ok (k := 1) sc__arrangements (fun vs H Q E h => sp3_len vs H Q E h) (fun cdv A outer s H vs Q E hr h => ⟨t__arrangements K E, (have hu := hr.units; (pss_cons (ps_set (i := 3) sc__arrangements.nd rfl (Or.inl rfl) (Exists.elim (ok_Yard_price_rows C).fn fun _ z => pe_meth0 (pv 0) (ok_Yard_price_rows (P := P) (base := base) C).cl (ok_Yard_price_rows (P := P) (base := base) C).mt z.1 (hr.mono (by decide)) z.2 .nil (passes_call (takes_of rfl rfl rfl rfl) fun _ _ _ _ h => h))) (pss_cons (ps_set (i := 4) sc__arrangements.nd rfl (Or.inl rfl) (pv 1)) (pss_cons (ps_set (i := 5) sc__arrangements.nd rfl (Or.inl rfl) (pe_lst (pa_cons (pv 4) pa_nil))) (pss_cons (ps_for (passes_of rfl) rfl (pi_seq (pv 2)) (pg_tup (by rfl) (pgs_cons (pg_name (i := 6) sc__arrangements.nd rfl (Or.inl rfl)) (pgs_cons (pg_name (i := 7) sc__arrangements.nd rfl (Or.inl rfl)) pgs_nil))) (pss_cons (ps_set (i := 8) sc__arrangements.nd rfl (Or.inl rfl) (pe_ix ix_u (pv 4) (pv 6) (fun _ _ => rfl))) (pss_cons (ps_if (PW.pt (pw_or (pt_cmpR (op_uNe hu) (pe_bm PySem.F.plainAttrs_str PySem.F.slot_str_rfind PySem.F.type_str_rfind mt_rfindU (pv 4) (pa_cons (pv 8) pa_nil)) (pv 6) (by rfl)) (pw_or (pt_cmpR op_uGe (pe_bm PySem.F.plainAttrs_str PySem.F.slot_str_rfind PySem.F.type_str_rfind mt_rfindU (pv 4) (pa_cons (pv 7) pa_nil)) (pv 6) (by rfl)) (pw_or1 (pt_cmpR op_uIs (pe_ix ix_u (pe_ix ix_u (pv 3) (pv 6) (fun _ _ => rfl)) (pe_ix (ix_col C.t_COLUMNS) (pe_glob (by rfl) C.g_COLUMNS rfl) (pe_op op_uAdd (pv 8) (pv 7)) (fun _ _ => rfl)) (fun _ _ => rfl)) pe_non (by rfl)))))) (pss_one ps_break) pss_nil) (pss_cons (ps_set (i := 4) sc__arrangements.nd rfl (Or.inl rfl) (pe_op op_uAdd (pe_op op_uAdd (pe_slice sl_u (pv 4) po_none (po_some (pv 6))) (pv 7)) (pe_slice sl_u (pv 4) (po_some (pe_op op_uAdd (pv 6) pe_int)) po_none))) (pss_one (ps_expr (pe_bm PySem.F.plainAttrs_list PySem.F.slot_list_append PySem.F.type_list_append mt_append (pv 5) (pa_cons (pv 4) pa_nil)))))))) (pss_one (ps_ret (pv 5)))))))), read__arrangements C.F h⟩), F.bindsN fun _ _ _ _ _ _ us hl => match us, hl with | [_, _, _], _ => rfl⟩, C.g__arrangements, F.kp⟩
theorem ok_Yard_len (C : Ct K w mg) : GoodM P w K mg base 1 "Yard" "__len__" ["self"] (sp_Yard_len K) := by
  obtain ⟨fd, F⟩ := C.says.def_ 10 (d := d_Yard_len) rfl
  exact ⟨⟨fd, F.ok (k := 0) sc_Yard_len (fun vs H Q E h => sp1_len vs H Q E h) (fun cdv A outer s H vs Q E hr h => ⟨t_Yard_len K E, (have hu := hr.units; (pss_one (ps_ret (pe_callB call_uLen (by rfl) C.n_len boot_len (pa_cons (pe_fld (pv 0) rfl) pa_nil))))), read_Yard_len C.F h⟩), F.bindsN fun _ _ _ _ _ _ us hl => match us, hl with | [_], _ => rfl⟩, C.m_Yard_len, C.F.cl⟩
theorem ok__is_move_list (C : Ct K w mg) : GoodO P w K mg base 3 "_is_move_list" ["yard", "value"] (sp__is_move_list K) := by
  obtain ⟨fd, F⟩ := C.says.def_ 24 (d := d__is_move_list) rfl
  exact ⟨⟨fd, F.ok (k := 2) sc__is_move_list (fun vs H Q E h => sp2_len vs H Q E h) (fun cdv A outer s H vs Q E hr h => ⟨t__is_move_list K E, (have hu := hr.units; (pss_cons (ps_if (PW.pt (pw_or (pt_not (pt_val (pe_callB call_uIsi (by rfl) C.n_isinstance (by decide +kernel) (pa_cons (pv 1) (pa_cons (pe_tup (pa_cons (pe_bltn (v := .ty "list") (by rfl) C.n_list (by decide +kernel) rfl) (pa_cons (pe_bltn (v := .ty "tuple") (by rfl) C.n_tuple (by decide +kernel) rfl) pa_nil))) pa_nil))))) (pw_or1 (pt_cmpR op_uGt (pe_callB call_uLen (by rfl) C.n_len boot_len (pa_cons (pv 1) pa_nil)) (pe_int_of (by rfl) (C.int_MOST_MOVES)) (by rfl))))) (pss_one (ps_ret pe_bl)) pss_nil) (pss_cons (ps_set (i := 2) sc__is_move_list.nd rfl (Or.inr rfl) (pe_lenY (ok_Yard_len C) (hr.mono (by decide)) (by rfl) C.n_len (pa_cons (pv 0) pa_nil))) (pss_one (ps_ret (pe_callB (cr_all rfl) (by rfl) C.n_all (by decide +kernel) (pa_cons (pe_lc (own := [("move", 3)]) (g := (gName 3)) (tt := tYes) rfl sc__is_move_list.nd (pi_seq (pv 1)) (blkOk_by (N := n__is_move_list) (sc := defScope s__is_move_list) (by decide +kernel)) (fun _ _ _ _ _ => (pg_name (i := 3) sc__is_move_list.nd rfl (Or.inl rfl))) (fun _ _ _ _ _ => pts_nil) (fun _ _ _ _ _ => (pe_and (pe_callB call_uIsi (by rfl) C.n_isinstance (by decide +kernel) (pa_cons (pv 3) (pa_cons (pe_bltn (v := .ty "tuple") (by rfl) C.n_tuple (by decide +kernel) rfl) pa_nil))) (pe_and (pe_cmpR (op_uEq hu) (pe_callB call_uLen (by rfl) C.n_len boot_len (pa_cons (pv 3) pa_nil)) pe_int (by rfl)) (pe_and (pe_callB call_uIsi (by rfl) C.n_isinstance (by decide +kernel) (pa_cons (pe_ix ix_u (pv 3) pe_int (fun _ _ => rfl)) (pa_cons (pe_bltn (v := .ty "int") (by rfl) C.n_int (by decide +kernel) rfl) pa_nil))) (pe_and (pe_not (pe_callB call_uIsi (by rfl) C.n_isinstance (by decide +kernel) (pa_cons (pe_ix ix_u (pv 3) pe_int (fun _ _ => rfl)) (pa_cons (pe_bltn (v := .ty "bool") (by rfl) C.n_bool (by decide +kernel) rfl) pa_nil)))) (pe_and (pe_chain op_uLe op_uLt pe_int (pe_ix ix_u (pv 3) pe_int (fun _ _ => rfl)) (pv 2)) (pe_one (pe_cmpR op_uIn (pe_ix ix_u (pv 3) pe_int (fun _ _ => rfl)) (pe_glob (by rfl) C.g_PLACES rfl) (by rfl)))))))))) pa_nil))))))), read__is_move_list C.F h⟩), F.bindsN fun _ _ _ _ _ _ us hl => match us, hl with | [_, _], _ => rfl⟩, C.g__is_move_list, F.kp⟩
theorem ok__check_move_list (C : Ct K w mg) : GoodO P w K mg base 4 "_check_move_list" ["yard", "row"] (sp__check_move_list K) := by
  obtain ⟨fd, F⟩ := C.says.def_ 23 (d := d__check_move_list) rfl
  exact ⟨⟨fd, F.ok (k := 3) sc__check_move_list (fun vs H Q E h => sp2_len vs H Q E h) (fun cdv A outer s H vs Q E hr h => ⟨t__check_move_list K E, (have hu := hr.units; (pss_one (ps_if (pt_not (pt_val (pe_fo (ok__is_move_list C) (hr.mono (by decide)) (by rfl) (passes_call (takes_of rfl rfl rfl rfl) fun _ _ _ _ h => h) (ha := (pa_cons (pv 0) (pa_cons (pv 1) pa_nil)))))) (pss_one (ps_rse (okx_InvalidRow C) (hr.mono (by decide)) rfl (takes_of rfl rfl rfl rfl) (by rfl) (pa_cons (pv 1) pa_nil))) pss_nil))), read__check_move_list C.F h⟩), F.bindsN fun _ _ _ _ _ _ us hl => match us, hl with | [_, _], _ => rfl⟩, C.g__check_move_list, F.kp⟩
theorem ok__first_refused (C : Ct K w mg) : GoodO P w K mg base 1 "_first_refused" ["moves", "arrangements"] (sp__first_refused K) := by
  obtain ⟨fd, F⟩ := C.says.def_ 26 (d := d__first_refused) rfl
  exact ⟨⟨fd, F.ok (k := 0) sc__first_refused (fun vs H Q E h => sp2_len vs H Q E h) (fun cdv A outer s H vs Q E hr h => ⟨t__first_refused K E, (have hu := hr.units; (pss_cons (ps_set (i := 2) sc__first_refused.nd rfl (Or.inl rfl) (pe_op op_uSub (pe_callB call_uLen (by rfl) C.n_len boot_len (pa_cons (pv 1) pa_nil)) pe_int)) (pss_one (ps_ret (pe_ifExp (pt_cmpR op_uLt (pv 2) (pe_callB call_uLen (by rfl) C.n_len boot_len (pa_cons (pv 0) pa_nil)) (by rfl)) (pv 2) pe_non))))), read__first_refused C.F h⟩), F.bindsN fun _ _ _ _ _ _ us hl => match us, hl with | [_, _], _ => rfl⟩, C.g__first_refused, F.kp⟩
theorem ok_check_yard (C : Ct K w mg) : GoodO P w K mg base 3 "check_yard" ["yard"] (sp_check_yard K) := by
  obtain ⟨fd, F⟩ := C.says.def_ 8 (d := d_check_yard) rfl
  exact ⟨⟨fd, F.ok (k := 2) sc_check_yard (fun vs H Q E h => sp1_len vs H Q E h) (fun cdv A outer s H vs Q E hr h => ⟨t_check_yard K E, (have hu := hr.units; (pss_one (ps_if (pt_not (pt_val (pe_callB call_uIsi (by rfl) C.n_isinstance (by decide +kernel) (pa_cons (pv 0) (pa_cons (pe_glob (by rfl) C.g_Yard rfl) pa_nil))))) (pss_one (ps_rse (okx_InvalidYard C) (hr.mono (by decide)) rfl (takes_of rfl rfl rfl rfl) (by rfl) (pa_cons (pv 0) pa_nil))) pss_nil))), read_check_yard C.F h⟩), F.bindsN fun _ _ _ _ _ _ us hl => match us, hl with | [_], _ => rfl⟩, C.g_check_yard, F.kp⟩
theorem ok_is_arrangement (C : Ct K w mg) : GoodO P w K mg base 4 "is_arrangement" ["yard", "value"] (sp_is_arrangement K) := by
  obtain ⟨fd, F⟩ := C.says.def_ 14 (d := d_is_arrangement) rfl
  exact ⟨⟨fd, F.ok (k := 3) sc_is_arrangement (fun vs H Q E h => sp2_len vs H Q E h) (fun cdv A outer s H vs Q E hr h => ⟨t_is_arrangement K E, (have hu := hr.units; (pss_cons (ps_expr (pe_fo (ok_check_yard C) (hr.mono (by decide)) (by rfl) (passes_call (takes_of rfl rfl rfl rfl) fun _ _ _ _ h => h) (ha := (pa_cons (pv 0) pa_nil)))) (pss_one (ps_ret (pe_and (pe_callB call_uIsi (by rfl) C.n_isinstance (by decide +kernel) (pa_cons (pv 1) (pa_cons (pe_bltn (v := .ty "str") (by rfl) C.n_str (by decide +kernel) rfl) pa_nil))) (pe_and (pe_cmpR (op_uEq hu) (pe_callB call_uLen (by rfl) C.n_len boot_len (pa_cons (pv 1) pa_nil)) (pe_lenY (ok_Yard_len C) (hr.mono (by decide)) (by rfl) C.n_len (pa_cons (pv 0) pa_nil)) (by rfl)) (pe_one (pe_cmpR (op_uEq hu) (pe_bm PySem.F.plainAttrs_str PySem.F.slot_str_strip PySem.F.type_str_strip mt_stripU (pv 1) (pa_cons (pe_str_of (by rfl) (C.str__PLACE_SIGNS)) pa_nil)) pe_str (by rfl))))))))), read_is_arrangement C.F h⟩), F.bindsN fun _ _ _ _ _ _ us hl => match us, hl with | [_, _], _ => rfl⟩, C.g_is_arrangement, F.kp⟩
theorem ok_check_arrangement (C : Ct K w mg) : GoodO P w K mg base 5 "check_arrangement" ["yard", "arrangement"] (sp_check_arrangement K) := by
  obtain ⟨fd, F⟩ := C.says.def_ 15 (d := d_check_arrangement) rfl
  exact ⟨⟨fd, F.ok (k := 4) sc_check_arrangement (fun vs H Q E h => sp2_len vs H Q E h) (fun cdv A outer s H vs Q E hr h => ⟨t_check_arrangement K E, (have hu := hr.units; (pss_one (ps_if (pt_not (pt_val (pe_fo (ok_is_arrangement C) (hr.mono (by decide)) (by rfl) (passes_call (takes_of rfl rfl rfl rfl) fun _ _ _ _ h => h) (ha := (pa_cons (pv 0) (pa_cons (pv 1) pa_nil)))))) (pss_one (ps_rse (okx_InvalidArrangement C) (hr.mono (by decide)) rfl (takes_of rfl rfl rfl rfl) (by rfl) (pa_cons (pv 1) pa_nil))) pss_nil))), read_check_arrangement C.F h⟩), F.bindsN fun _ _ _ _ _ _ us hl => match us, hl with | [_, _], _ => rfl⟩, C.g_check_arrangement, F.kp⟩
theorem ok_all_behind (C : Ct K w mg) : GoodO P w K mg base 6 "all_behind" ["yard", "start", "row"] (sp_all_behind K) := by
  obtain ⟨fd, F⟩ := C.says.def_ 19 (d := d_all_behind) rfl
  exact ⟨⟨fd, F.ok (k := 5) sc_all_behind (fun vs H Q E h => sp3_len vs H Q E h) (fun cdv A outer s H vs Q E hr h => ⟨t_all_behind K E, (have hu := hr.units; (pss_cons (ps_expr (pe_fo (ok_check_arrangement C) (hr.mono (by decide)) (by rfl) (passes_call (takes_of rfl rfl rfl rfl) fun _ _ _ _ h => h) (ha := (pa_cons (pv 0) (pa_cons (pv 1) pa_nil))))) (pss_cons (ps_expr (pe_fo (ok__check_move_list C) (hr.mono (by decide)) (by rfl) (passes_call (takes_of rfl rfl rfl rfl) fun _ _ _ _ h => h) (ha := (pa_cons (pv 0) (pa_cons (pv 2) pa_nil))))) (pss_cons (ps_set (i := 3) sc_all_behind.nd rfl (Or.inl rfl) (pe_fo (ok__arrangements C) (hr.mono (by decide)) (by rfl) (passes_call (takes_of rfl rfl rfl rfl) fun _ _ _ _ h => h) (ha := (pa_cons (pv 0) (pa_cons (pv 1) (pa_cons (pv 2) pa_nil)))))) (pss_cons (ps_set (i := 4) sc_all_behind.nd rfl (Or.inl rfl) (pe_fo (ok__first_refused C) (hr.mono (by decide)) (by rfl) (passes_call (takes_of rfl rfl rfl rfl) fun _ _ _ _ h => h) (ha := (pa_cons (pv 2) (pa_cons (pv 3) pa_nil))))) (pss_cons (ps_if (pt_cmpR op_uNis (pv 4) pe_non (by rfl)) (pss_one (ps_rse (okx_NotAllowed C) (hr.mono (by decide)) rfl (takes_of rfl rfl rfl rfl) (by rfl) (pa_cons (pv 4) pa_nil))) pss_nil) (pss_one (ps_ret (pv 3))))))))), read_all_behind C.F h⟩), F.bindsN fun _ _ _ _ _ _ us hl => match us, hl with | [_, _, _], _ => rfl⟩, C.g_all_behind, F.kp⟩
theorem ok_behind (C : Ct K w mg) : GoodO P w K mg base 7 "behind" ["yard", "start", "row"] (sp_behind K) := by
  obtain ⟨fd, F⟩ := C.says.def_ 18 (d := d_behind) rfl
  exact ⟨⟨fd, F.ok (k := 6) sc_behind (fun vs H Q E h => sp3_len vs H Q E h) (fun cdv A outer s H vs Q E hr h => ⟨t_behind K E, (have hu := hr.units; (pss_one (ps_ret (pe_ix ix_u (pe_fo (ok_all_behind C) (hr.mono (by decide)) (by rfl) (passes_call (takes_of rfl rfl rfl rfl) fun _ _ _ _ h => h) (ha := (pa_cons (pv 0) (pa_cons (pv 1) (pa_cons (pv 2) pa_nil))))) (pe_un un_neg pe_int) (fun _ _ => rfl))))), read_behind C.F h⟩), F.bindsN fun _ _ _ _ _ _ us hl => match us, hl with | [_, _, _], _ => rfl⟩, C.g_behind, F.kp⟩
theorem ok_first_bad (C : Ct K w mg) : GoodO P w K mg base 6 "first_bad" ["yard", "start", "row"] (sp_first_bad K) := by
  obtain ⟨fd, F⟩ := C.says.def_ 17 (d := d_first_bad) rfl
  exact ⟨⟨fd, F.ok (k := 5) sc_first_bad (fun vs H Q E h => sp3_len vs H Q E h) (fun cdv A outer s H vs Q E hr h => ⟨t_first_bad K E, (have hu := hr.units; (pss_cons (ps_expr (pe_fo (ok_check_arrangement C) (hr.mono (by decide)) (by rfl) (passes_call (takes_of rfl rfl rfl rfl) fun _ _ _ _ h => h) (ha := (pa_cons (pv 0) (pa_cons (pv 1) pa_nil))))) (pss_cons (ps_expr (pe_fo (ok__check_move_list C) (hr.mono (by decide)) (by rfl) (passes_call (takes_of rfl rfl rfl rfl) fun _ _ _ _ h => h) (ha := (pa_cons (pv 0) (pa_cons (pv 2) pa_nil))))) (pss_one (ps_ret (pe_fo (ok__first_refused C) (hr.mono (by decide)) (by rfl) (passes_call (takes_of rfl rfl rfl rfl) fun _ _ _ _ h => h) (ha := (pa_cons (pv 2) (pa_cons (pe_fo (ok__arrangements C) (hr.mono (by decide)) (by rfl) (passes_call (takes_of rfl rfl rfl rfl) fun _ _ _ _ h => h) (ha := (pa_cons (pv 0) (pa_cons (pv 1) (pa_cons (pv 2) pa_nil))))) pa_nil))))))))), read_first_bad C.F h⟩), F.bindsN fun _ _ _ _ _ _ us hl => match us, hl with | [_, _, _], _ => rfl⟩, C.g_first_bad, F.kp⟩
theorem ok_is_row (C : Ct K w mg) : GoodO P w K mg base 6 "is_row" ["yard", "start", "value"] (sp_is_row K) := by
  obtain ⟨fd, F⟩ := C.says.def_ 16 (d := d_is_row) rfl
  exact ⟨⟨fd, F.ok (k := 5) sc_is_row (fun vs H Q E h => sp3_len vs H Q E h) (fun cdv A outer s H vs Q E hr h => ⟨t_is_row K E, (have hu := hr.units; (pss_cons (ps_expr (pe_fo (ok_check_arrangement C) (hr.mono (by decide)) (by rfl) (passes_call (takes_of rfl rfl rfl rfl) fun _ _ _ _ h => h) (ha := (pa_cons (pv 0) (pa_cons (pv 1) pa_nil))))) (pss_one (ps_ret (pe_and (pe_fo (ok__is_move_list C) (hr.mono (by decide)) (by rfl) (passes_call (takes_of rfl rfl rfl rfl) fun _ _ _ _ h => h) (ha := (pa_cons (pv 0) (pa_cons (pv 2) pa_nil)))) (pe_one (pe_cmpR op_uIs (pe_fo (ok__first_refused C) (hr.mono (by decide)) (by rfl) (passes_call (takes_of rfl rfl rfl rfl) fun _ _ _ _ h => h) (ha := (pa_cons (pv 2) (pa_cons (pe_fo (ok__arrangements C) (hr.mono (by decide)) (by rfl) (passes_call (takes_of rfl rfl rfl rfl) fun _ _ _ _ h => h) (ha := (pa_cons (pv 0) (pa_cons (pv 1) (pa_cons (pv 2) pa_nil))))) pa_nil)))) pe_non (by rfl)))))))), read_is_row C.F h⟩), F.bindsN fun _ _ _ _ _ _ us hl => match us, hl with | [_, _, _], _ => rfl⟩, C.g_is_row, F.kp⟩
theorem ok_row_cost (C : Ct K w mg) : GoodO P w K mg base 7 "row_cost" ["yard", "start", "row"] (sp_row_cost K) := by
  obtain ⟨fd, F⟩ := C.says.def_ 20 (d := d_row_cost) rfl
  exact ⟨⟨fd, F.ok (k := 6) sc_row_cost (fun vs H Q E h => sp3_len vs H Q E h) (fun cdv A outer s H vs Q E hr h => ⟨t_row_cost K E, (have hu := hr.units; (pss_cons (ps_set (i := 3) sc_row_cost.nd rfl (Or.inl rfl) (pe_fo (ok_all_behind C) (hr.mono (by decide)) (by rfl) (passes_call (takes_of rfl rfl rfl rfl) fun _ _ _ _ h => h) (ha := (pa_cons (pv 0) (pa_cons (pv 1) (pa_cons (pv 2) pa_nil)))))) (pss_cons (ps_set (i := 4) sc_row_cost.nd rfl (Or.inr rfl) (Exists.elim (ok_Yard_price_rows C).fn fun _ z => pe_meth0 (pv 0) (ok_Yard_price_rows (P := P) (base := base) C).cl (ok_Yard_price_rows (P := P) (base := base) C).mt z.1 (hr.mono (by decide)) z.2 .nil (passes_call (takes_of rfl rfl rfl rfl) fun _ _ _ _ h => h))) (pss_one (ps_ret (pe_callB (cr_sum rfl) (by rfl) C.n_sum (by decide +kernel) (pa_cons (pe_lc (own := [("here", 5), ("crate", 6), ("place", 7)]) (g := (gTup K 2 (gCons (gName 5) (gCons (gTup K 2 (gCons (gName 6) (gCons (gName 7) gNil))) gNil)))) (tt := tYes) rfl sc_row_cost.nd (pi_zipU (by rfl) C.n_zip (pa_cons (pv 3) (pa_cons (pv 2) pa_nil))) (blkOk_by (N := n_row_cost) (sc := defScope s_row_cost) (by decide +kernel)) (fun _ _ _ _ _ => (pg_tup (by rfl) (pgs_cons (pg_name (i := 5) sc_row_cost.nd rfl (Or.inl rfl)) (pgs_cons (pg_tup (by rfl) (pgs_cons (pg_name (i := 6) sc_row_cost.nd rfl (Or.inl rfl)) (pgs_cons (pg_name (i := 7) sc_row_cost.nd rfl (Or.inl rfl)) pgs_nil))) pgs_nil)))) (fun _ _ _ _ _ => pts_nil) (fun _ _ _ _ _ => (pe_ix ix_u (pe_ix ix_u (pv 4) (pv 6) (fun _ _ => rfl)) (pe_ix (ix_col C.t_COLUMNS) (pe_glob (by rfl) C.g_COLUMNS rfl) (pe_op op_uAdd (pe_ix ix_u (pv 5) (pv 6) (fun _ _ => rfl)) (pv 7)) (fun _ _ => rfl)) (fun _ _ => rfl)))) pa_nil))))))), read_row_cost C.F h⟩), F.bindsN fun _ _ _ _ _ _ us hl => match us, hl with | [_, _, _], _ => rfl⟩, C.g_row_cost, F.kp⟩
theorem ok_row_crates (C : Ct K w mg) : GoodO P w K mg base 7 "row_crates" ["yard", "start", "row"] (sp_row_crates K) := by
  obtain ⟨fd, F⟩ := C.says.def_ 21 (d := d_row_crates) rfl
  exact ⟨⟨fd, F.ok (k := 6) sc_row_crates (fun vs H Q E h => sp3_len vs H Q E h) (fun cdv A outer s H vs Q E hr h => ⟨t_row_crates K E, (have hu := hr.units; (pss_cons (ps_expr (pe_fo (ok_all_behind C) (hr.mono (by decide)) (by rfl) (passes_call (takes_of rfl rfl rfl rfl) fun _ _ _ _ h => h) (ha := (pa_cons (pv 0) (pa_cons (pv 1) (pa_cons (pv 2) pa_nil)))))) (pss_cons (ps_set (i := 3) sc_row_crates.nd rfl (Or.inl rfl) (pe_op op_uMul (pe_lst (pa_cons pe_int pa_nil)) (pe_lenY (ok_Yard_len C) (hr.mono (by decide)) (by rfl) C.n_len (pa_cons (pv 0) pa_nil)))) (pss_cons (ps_for (passes_of rfl) rfl (pi_seq (pv 2)) (pg_tup (by rfl) (pgs_cons (pg_name (i := 4) sc_row_crates.nd rfl (Or.inl rfl)) (pgs_cons (pg_name (i := 5) sc_row_crates.nd rfl (Or.inl rfl)) pgs_nil))) (pss_one (ps_augS (pv 3) (pv 4) pget_listN pe_int ip_add set_list))) (pss_one (ps_ret (pv 3))))))), read_row_crates C.F h⟩), F.bindsN fun _ _ _ _ _ _ us hl => match us, hl with | [_, _, _], _ => rfl⟩, C.g_row_crates, F.kp⟩
theorem ok_is_integer (C : Ct K w mg) : GoodO P w K mg base 1 "is_integer" ["value"] (sp_is_integer K) := by
  obtain ⟨fd, F⟩ := C.says.def_ 6 (d := d_is_integer) rfl
  exact ⟨⟨fd, F.ok (k := 0) sc_is_integer (fun vs H Q E h => sp1_len vs H Q E h) (fun cdv A outer s H vs Q E hr h => ⟨t_is_integer K E, (have hu := hr.units; (pss_one (ps_ret (pe_and (pe_callB call_uIsi (by rfl) C.n_isinstance (by decide +kernel) (pa_cons (pv 0) (pa_cons (pe_bltn (v := .ty "int") (by rfl) C.n_int (by decide +kernel) rfl) pa_nil))) (pe_one (pe_not (pe_callB call_uIsi (by rfl) C.n_isinstance (by decide +kernel) (pa_cons (pv 0) (pa_cons (pe_bltn (v := .ty "bool") (by rfl) C.n_bool (by decide +kernel) rfl) pa_nil))))))))), read_is_integer C.F h⟩), F.bindsN fun _ _ _ _ _ _ us hl => match us, hl with | [_], _ => rfl⟩, C.g_is_integer, F.kp⟩
theorem ok_is_integer_within (C : Ct K w mg) : GoodO P w K mg base 2 "is_integer_within" ["value", "low", "high"] (sp_is_integer_within K) := by
  obtain ⟨fd, F⟩ := C.says.def_ 7 (d := d_is_integer_within) rfl
  exact ⟨⟨fd, F.ok (k := 1) sc_is_integer_within (fun vs H Q E h => sp3_len vs H Q E h) (fun cdv A outer s H vs Q E hr h => ⟨t_is_integer_within K E, (have hu := hr.units; (pss_one (ps_ret (pe_and (pe_fo (ok_is_integer C) (hr.mono (by decide)) (by rfl) (passes_call (takes_of rfl rfl rfl rfl) fun _ _ _ _ h => h) (ha := (pa_cons (pv 0) pa_nil))) (pe_one (pe_chain op_uLe op_uLe (pv 1) (pv 0) (pv 2))))))), read_is_integer_within C.F h⟩), F.bindsN fun _ _ _ _ _ _ us hl => match us, hl with | [_, _, _], _ => rfl⟩, C.g_is_integer_within, F.kp⟩
theorem ok_row_of_largest (C : Ct K w mg) : GoodO P w K mg base 7 "row_of_largest" ["yard", "start", "row", "count"] (sp_row_of_largest K) := by
  obtain ⟨fd, F⟩ := C.says.def_ 22 (d := d_row_of_largest) rfl
  exact ⟨⟨fd, F.ok (k := 6) sc_row_of_largest (fun vs H Q E h => sp4_len vs H Q E h) (fun cdv A outer s H vs Q E hr h => ⟨t_row_of_largest K E, (have hu := hr.units; (pss_cons (ps_expr (pe_fo (ok_all_behind C) (hr.mono (by decide)) (by rfl) (passes_call (takes_of rfl rfl rfl rfl) fun _ _ _ _ h => h) (ha := (pa_cons (pv 0) (pa_cons (pv 1) (pa_cons (pv 2) pa_nil)))))) (pss_cons (ps_if (pt_not (pt_val (pe_fo (ok_is_integer_within C) (hr.mono (by decide)) (by rfl) (passes_call (takes_of rfl rfl rfl rfl) fun _ _ _ _ h => h) (ha := (pa_cons (pv 3) (pa_cons pe_int (pa_cons (pe_lenY (ok_Yard_len C) (hr.mono (by decide)) (by rfl) C.n_len (pa_cons (pv 0) pa_nil)) pa_nil))))))) (pss_one (ps_rse (okx_InvalidCount C) (hr.mono (by decide)) rfl (takes_of rfl rfl rfl rfl) (by rfl) (pa_cons (pv 3) pa_nil))) pss_nil) (pss_one (ps_ret (pe_lc (own := [("move", 4)]) (g := (gName 4)) (tt := (tTest (tOp uLt (tOp (uIx K) (tVar 4) (tC (.int 0))) (tVar 3)))) rfl sc_row_of_largest.nd (pi_seq (pv 2)) (blkOk_by (N := n_row_of_largest) (sc := defScope s_row_of_largest) (by decide +kernel)) (fun _ _ _ _ _ => (pg_name (i := 4) sc_row_of_largest.nd rfl (Or.inl rfl))) (fun _ _ _ _ _ => (pts_one (pt_cmpR op_uLt (pe_ix ix_u (pv 4) pe_int (fun _ _ => rfl)) (pv 3) (by rfl)))) (fun _ _ _ _ _ => (pv 4)))))))), read_row_of_largest C.F h⟩), F.bindsN fun _ _ _ _ _ _ us hl => match us, hl with | [_, _, _, _], _ => rfl⟩, C.g_row_of_largest, F.kp⟩
theorem ok_is_price (C : Ct K w mg) : GoodO P w K mg base 2 "is_price" ["value"] (sp_is_price K) := by
  obtain ⟨fd, F⟩ := C.says.def_ 5 (d := d_is_price) rfl
  exact ⟨⟨fd, F.ok (k := 1) sc_is_price (fun vs H Q E h => sp1_len vs H Q E h) (fun cdv A outer s H vs Q E hr h => ⟨t_is_price K E, (have hu := hr.units; (pss_one (ps_ret (pe_and (pe_fo (ok_is_integer C) (hr.mono (by decide)) (by rfl) (passes_call (takes_of rfl rfl rfl rfl) fun _ _ _ _ h => h) (ha := (pa_cons (pv 0) pa_nil))) (pe_one (pe_cmpR op_uGt (pv 0) pe_int (by rfl))))))), read_is_price C.F h⟩), F.bindsN fun _ _ _ _ _ _ us hl => match us, hl with | [_], _ => rfl⟩, C.g_is_price, F.kp⟩
theorem ok__is_price_row (C : Ct K w mg) : GoodO P w K mg base 3 "_is_price_row" ["value"] (sp__is_price_row K) := by
  obtain ⟨fd, F⟩ := C.says.def_ 13 (d := d__is_price_row) rfl
  exact ⟨⟨fd, F.ok (k := 2) sc__is_price_row (fun vs H Q E h => sp1_len vs H Q E h) (fun cdv A outer s H vs Q E hr h => ⟨t__is_price_row K E, (have hu := hr.units; (pss_one (ps_ret (pe_and (pe_callB call_uIsi (by rfl) C.n_isinstance (by decide +kernel) (pa_cons (pv 0) (pa_cons (pe_tup (pa_cons (pe_bltn (v := .ty "list") (by rfl) C.n_list (by decide +kernel) rfl) (pa_cons (pe_bltn (v := .ty "tuple") (by rfl) C.n_tuple (by decide +kernel) rfl) pa_nil))) pa_nil))) (pe_and (pe_cmpR (op_uEq hu) (pe_callB call_uLen (by rfl) C.n_len boot_len (pa_cons (pv 0) pa_nil)) (pe_callB call_uLen (by rfl) C.n_len boot_len (pa_cons (pe_glob (by rfl) C.g_WAYS rfl) pa_nil)) (by rfl)) (pe_one (pe_callB (cr_all rfl) (by rfl) C.n_all (by decide +kernel) (pa_cons (pe_lc (own := [("price", 1)]) (g := (gName 1)) (tt := tYes) rfl sc__is_price_row.nd (pi_seq (pv 0)) (blkOk_by (N := n__is_price_row) (sc := defScope s__is_price_row) (by decide +kernel)) (fun _ _ _ _ _ => (pg_name (i := 1) sc__is_price_row.nd rfl (Or.inl rfl))) (fun _ _ _ _ _ => pts_nil) (fun _ _ _ _ _ => (pe_or (pe_cmpR op_uIs (pv 1) pe_non (by rfl)) (pe_one (pe_fo (ok_is_price C) (hr.mono (by decide)) (by rfl) passL (ha := (pa_cons (pv 1) pa_nil))))))) pa_nil)))))))), read__is_price_row C.F h⟩), F.bindsN fun _ _ _ _ _ _ us hl => match us, hl with | [_], _ => rfl⟩, C.g__is_price_row, F.kp⟩
theorem ok__are_rows (C : Ct K w mg) : GoodO P w K mg base 4 "_are_rows" ["value"] (sp__are_rows K) := by
  obtain ⟨fd, F⟩ := C.says.def_ 12 (d := d__are_rows) rfl
  exact ⟨⟨fd, F.ok (k := 3) sc__are_rows (fun vs H Q E h => sp1_len vs H Q E h) (fun cdv A outer s H vs Q E hr h => ⟨t__are_rows K E, (have hu := hr.units; (pss_one (ps_ret (pe_and (pe_callB call_uIsi (by rfl) C.n_isinstance (by decide +kernel) (pa_cons (pv 0) (pa_cons (pe_tup (pa_cons (pe_bltn (v := .ty "list") (by rfl) C.n_list (by decide +kernel) rfl) (pa_cons (pe_bltn (v := .ty "tuple") (by rfl) C.n_tuple (by decide +kernel) rfl) pa_nil))) pa_nil))) (pe_and (pe_chain op_uLe op_uLe pe_int (pe_callB call_uLen (by rfl) C.n_len boot_len (pa_cons (pv 0) pa_nil)) (pe_int_of (by rfl) (C.int_MOST_CRATES))) (pe_one (pe_callB (cr_all rfl) (by rfl) C.n_all (by decide +kernel) (pa_cons (pe_lc (own := [("row", 1)]) (g := (gName 1)) (tt := tYes) rfl sc__are_rows.nd (pi_seq (pv 0)) (blkOk_by (N := n__are_rows) (sc := defScope s__are_rows) (by decide +kernel)) (fun _ _ _ _ _ => (pg_name (i := 1) sc__are_rows.nd rfl (Or.inl rfl))) (fun _ _ _ _ _ => pts_nil) (fun _ _ _ _ _ => (pe_fo (ok__is_price_row C) (hr.mono (by decide)) (by rfl) passL (ha := (pa_cons (pv 1) pa_nil))))) pa_nil)))))))), read__are_rows C.F h⟩), F.bindsN fun _ _ _ _ _ _ us hl => match us, hl with | [_], _ => rfl⟩, C.g__are_rows, F.kp⟩
theorem ok_Yard_init (C : Ct K w mg) : GoodM P w K mg base 5 "Yard" "__init__" ["self", "rows"] (sp_Yard_init K) := by
  obtain ⟨fd, F⟩ := C.says.def_ 9 (d := d_Yard_init) rfl
  exact ⟨⟨fd, F.ok (k := 4) sc_Yard_init (fun vs H Q E h => sp2_len vs H Q E h) (fun cdv A outer s H vs Q E hr h => ⟨t_Yard_init K E, (have hu := hr.units; (pss_cons (ps_if (pt_not (pt_val (pe_fo (ok__are_rows C) (hr.mono (by decide)) (by rfl) (passes_call (takes_of rfl rfl rfl rfl) fun _ _ _ _ h => h) (ha := (pa_cons (pv 1) pa_nil))))) (pss_one (ps_rse (okx_InvalidYard C) (hr.mono (by decide)) rfl (takes_of rfl rfl rfl rfl) (by rfl) (pa_cons (pv 1) pa_nil))) pss_nil) (pss_cons (ps_fld (pv 0) (pe_callTy (call_uTup rfl) (by rfl) C.n_tuple (by decide +kernel) (pa_cons (pe_lc (own := [("row", 2)]) (g := (gName 2)) (tt := tYes) rfl sc_Yard_init.nd (pi_seq (pv 1)) (blkOk_by (N := n_Yard_init) (sc := defScope s_Yard_init) (by decide +kernel)) (fun _ _ _ _ _ => (pg_name (i := 2) sc_Yard_init.nd rfl (Or.inl rfl))) (fun _ _ _ _ _ => pts_nil) (fun _ _ _ _ _ => (pe_callTy (call_uTup rfl) (by rfl) C.n_tuple (by decide +kernel) (pa_cons (pv 2) pa_nil)))) pa_nil)) rfl) (pss_one (ps_fld (pv 0) pe_non rfl))))), read_Yard_init C.F h⟩), F.bindsN fun _ _ _ _ _ _ us hl => match us, hl with | [_, _], _ => rfl⟩, C.m_Yard_init, C.F.cl⟩
theorem ok__law_right (C : Ct K w mg) : Good P w K mg base 8 "_law_right" ["_law_box_here", "_law_plain_here", "_law_word_here", "_law_row"] (sp__law_right K) := by
  obtain ⟨fd, F⟩ := C.says.def_ 38 (d := d__law_right) rfl
  exact ⟨⟨fd, fnG_of (k := 7) F sc__law_right (fun vs H Q E h => sp4_len vs H Q E h) (fun cdv A outer s H vs Q E hA hr h => ⟨t__law_right K E, (have hu := hr.units; (pss_cons (ps_par (by rfl) sc__law_right.nd rfl rfl (by decide) rfl rfl (pa_cons (pe_mk (ok_Yard_init C) C.mk_Yard C.g_Yard (hr.mono (by decide)) (by rfl) (passes_call (takes_of rfl rfl rfl rfl) fun _ _ _ _ h => h) (ha := (pa_cons (pv 1) pa_nil))) (pa_cons (pe_callTy (call_uLst rfl) (by rfl) C.n_list (by decide +kernel) (pa_cons (pv 3) pa_nil)) pa_nil)) (by rfl)) (pss_cons (ps_asg (pe_fo (ok__law_followed C) (hr.mono (by decide)) (by rfl) (passes_call (takes_of rfl rfl rfl rfl) fun _ _ _ _ h => h) (ha := (pa_cons (pv 1) (pa_cons (pv 2) (pa_cons (pv 3) pa_nil))))) (pg_tup (by rfl) (pgs_cons (pg_name (i := 6) sc__law_right.nd rfl (Or.inl rfl)) (pgs_cons (pg_name (i := 7) sc__law_right.nd rfl (Or.inl rfl)) pgs_nil)))) (pss_cons (ps_set (i := 8) sc__law_right.nd rfl (Or.inl rfl) (pe_ix ix_u (pe_lst (pa_cons (pv 3) (pa_cons (pe_callTy (call_uTup rfl) (by rfl) C.n_tuple (by decide +kernel) (pa_cons (pv 3) pa_nil)) pa_nil))) (pe_fo (ok__law_take C) (hr.mono (by decide)) (by rfl) (passes_call (takes_of rfl rfl rfl rfl) fun _ _ _ _ h => h) (ha := (pa_cons (pv 0) (pa_cons pe_int pa_nil)))) (fun _ _ => rfl))) (pss_cons (ps_set (i := 9) sc__law_right.nd rfl (Or.inl rfl) (pe_fo (ok_all_behind C) (hr.mono (by decide)) (by rfl) (passes_call (takes_of rfl rfl rfl rfl) fun _ _ _ _ h => h) (ha := (pa_cons (pv 4) (pa_cons (pv 2) (pa_cons (pv 8) pa_nil)))))) (pss_cons (ps_if (PW.pt (pw_or (pt_cmpR (op_uNe hu) (pv 9) (pv 6) (by rfl)) (pw_or1 (pt_cmpR (op_uNe hu) (pe_fo (ok_behind C) (hr.mono (by decide)) (by rfl) (passes_call (takes_of rfl rfl rfl rfl) fun _ _ _ _ h => h) (ha := (pa_cons (pv 4) (pa_cons (pv 2) (pa_cons (pv 8) pa_nil))))) (pe_ix ix_u (pv 6) (pe_un un_neg pe_int) (fun _ _ => rfl)) (by rfl))))) (pss_one (ps_ret pe_bl)) pss_nil) (pss_cons (ps_if (pt_cmpR (op_uNe hu) (pe_callB (call_uRepr hA hu) (by rfl) C.n_repr (by decide +kernel) (pa_cons (pe_fo (ok_row_cost C) (hr.mono (by decide)) (by rfl) (passes_call (takes_of rfl rfl rfl rfl) fun _ _ _ _ h => h) (ha := (pa_cons (pv 4) (pa_cons (pv 2) (pa_cons (pv 8) pa_nil))))) pa_nil)) (pe_callB (call_uRepr hA hu) (by rfl) C.n_repr (by decide +kernel) (pa_cons (pv 7) pa_nil)) (by rfl)) (pss_one (ps_ret pe_bl)) pss_nil) (pss_cons (ps_expr (pe_bm PySem.F.plainAttrs_list PySem.F.slot_list_append PySem.F.type_list_append mt_append (pv 9) (pa_cons pe_non pa_nil))) (pss_cons (ps_set (i := 10) sc__law_right.nd rfl (Or.inl rfl) (pe_fo (ok_row_crates C) (hr.mono (by decide)) (by rfl) (passes_call (takes_of rfl rfl rfl rfl) fun _ _ _ _ h => h) (ha := (pa_cons (pv 4) (pa_cons (pv 2) (pa_cons (pv 8) pa_nil)))))) (pss_cons (ps_setLc (i := 11) (own := [("_law_crate", 15)]) (g := (gName 15)) (tt := tYes) rfl sc__law_right.nd rfl rfl (by exact sw_true rfl rfl rfl (by decide +kernel)) (pi_range1 (by rfl) C.n_range (pa_cons (pe_callB call_uLen (by rfl) C.n_len boot_len (pa_cons (pv 2) pa_nil)) pa_nil)) (blkOk_by (N := n__law_right) (sc := defScope s__law_right) (by decide +kernel)) (fun _ _ _ _ _ => (pg_name (i := 15) sc__law_right.nd rfl (Or.inr rfl))) (fun _ _ _ _ _ => pts_nil) (fun _ _ _ _ _ => (pe_callB call_uLen (by rfl) C.n_len boot_len (pa_cons (pe_lc (own := [("_law_move", 16)]) (g := (gName 16)) (tt := (tTest (tOp (uEq K) (tOp (uIx K) (tVar 16) (tC (.int 0))) (tVar 15)))) rfl sc__law_right.nd (pi_seq (pv 3)) (blkOk_by (N := n__law_right) (sc := ({ kind := .function, names := [(".0", .local), ("_law_crate", .cell), ("len", .globalImplicit), ("_law_row", .cell)], isGenerator := false, isCoroutine := false } : Scope)) (by decide +kernel)) (fun _ _ _ _ _ => (pg_name (i := 16) sc__law_right.nd rfl (Or.inl rfl))) (fun _ _ _ _ _ => (pts_one (pt_cmpR (op_uEq hu) (pe_ix ix_u (pv 16) pe_int (fun _ _ => rfl)) (pv 15) (by rfl)))) (fun _ _ _ _ _ => (pv 16))) pa_nil)))) (pss_cons (ps_if (pt_cmpR (op_uNe hu) (pe_callB (call_uRepr hA hu) (by rfl) C.n_repr (by decide +kernel) (pa_cons (pv 10) pa_nil)) (pe_callB (call_uRepr hA hu) (by rfl) C.n_repr (by decide +kernel) (pa_cons (pv 11) pa_nil)) (by rfl)) (pss_one (ps_ret pe_bl)) pss_nil) (pss_cons (ps_expr (pe_bm0 PySem.F.plainAttrs_list PySem.F.slot_list_clear PySem.F.type_list_clear mt_clear (pv 10))) (pss_cons (ps_if (PW.pt (pw_or (pt_cmpR op_uNis (pe_fo (ok_first_bad C) (hr.mono (by decide)) (by rfl) (passes_call (takes_of rfl rfl rfl rfl) fun _ _ _ _ h => h) (ha := (pa_cons (pv 4) (pa_cons (pv 2) (pa_cons (pv 8) pa_nil))))) pe_non (by rfl)) (pw_or (pt_cmpR op_uNis (pe_fo (ok_is_row C) (hr.mono (by decide)) (by rfl) (passes_call (takes_of rfl rfl rfl rfl) fun _ _ _ _ h => h) (ha := (pa_cons (pv 4) (pa_cons (pv 2) (pa_cons (pv 8) pa_nil))))) pe_bl (by rfl)) (pw_or1 (pt_cmpR (op_uNe hu) (pv 3) (pv 5) (by rfl)))))) (pss_one (ps_ret pe_bl)) pss_nil) (pss_cons (ps_set (i := 12) sc__law_right.nd rfl (Or.inr rfl) (pe_fo (ok__law_take C) (hr.mono (by decide)) (by rfl) (passes_call (takes_of rfl rfl rfl rfl) fun _ _ _ _ h => h) (ha := (pa_cons (pv 0) (pa_cons (pe_op op_uAdd (pe_callB call_uLen (by rfl) C.n_len boot_len (pa_cons (pv 2) pa_nil)) pe_int) pa_nil))))) (pss_cons (ps_set (i := 13) sc__law_right.nd rfl (Or.inl rfl) (pe_fo (ok_row_of_largest C) (hr.mono (by decide)) (by rfl) (passes_call (takes_of rfl rfl rfl rfl) fun _ _ _ _ h => h) (ha := (pa_cons (pv 4) (pa_cons (pv 2) (pa_cons (pv 3) (pa_cons (pv 12) pa_nil))))))) (pss_cons (ps_if (pt_cmpR (op_uNe hu) (pv 13) (pe_lc (own := [("_law_move", 16)]) (g := (gName 16)) (tt := (tTest (tOp uLt (tOp (uIx K) (tVar 16) (tC (.int 0))) (tVar 12)))) rfl sc__law_right.nd (pi_seq (pv 3)) (blkOk_by (N := n__law_right) (sc := defScope s__law_right) (by decide +kernel)) (fun _ _ _ _ _ => (pg_name (i := 16) sc__law_right.nd rfl (Or.inl rfl))) (fun _ _ _ _ _ => (pts_one (pt_cmpR op_uLt (pe_ix ix_u (pv 16) pe_int (fun _ _ => rfl)) (pv 12) (by rfl)))) (fun _ _ _ _ _ => (pv 16))) (by rfl)) (pss_one (ps_ret pe_bl)) pss_nil) (pss_cons (ps_if (pt_cmpR op_uGt (pv 12) pe_int (by rfl)) (pss_cons (ps_set (i := 14) sc__law_right.nd rfl (Or.inl rfl) (pe_mk (ok_Yard_init C) C.mk_Yard C.g_Yard (hr.mono (by decide)) (by rfl) (passes_call (takes_of rfl rfl rfl rfl) fun _ _ _ _ h => h) (ha := (pa_cons (pe_slice sl_u (pv 1) po_none (po_some (pv 12))) pa_nil)))) (pss_one (ps_if (pt_cmpR (op_uNe hu) (pe_fo (ok_behind C) (hr.mono (by decide)) (by rfl) (passes_call (takes_of rfl rfl rfl rfl) fun _ _ _ _ h => h) (ha := (pa_cons (pv 14) (pa_cons (pe_slice sl_u (pv 2) po_none (po_some (pv 12))) (pa_cons (pv 13) pa_nil))))) (pe_slice sl_u (pe_ix ix_u (pv 6) (pe_un un_neg pe_int) (fun _ _ => rfl)) po_none (po_some (pv 12))) (by rfl)) (pss_one (ps_ret pe_bl)) pss_nil))) pss_nil) (pss_cons (ps_expr (pe_bm PySem.F.plainAttrs_list PySem.F.slot_list_append PySem.F.type_list_append mt_append (pv 13) (pa_cons pe_non pa_nil))) (pss_one (ps_ret (pe_and (pe_cmpR (op_uEq hu) (pe_fo (ok_all_behind C) (hr.mono (by decide)) (by rfl) (passes_call (takes_of rfl rfl rfl rfl) fun _ _ _ _ h => h) (ha := (pa_cons (pv 4) (pa_cons (pv 2) (pa_cons (pv 3) pa_nil))))) (pv 6) (by rfl)) (pe_one (pe_cmpR (op_uEq hu) (pe_fo (ok_row_of_largest C) (hr.mono (by decide)) (by rfl) (passes_call (takes_of rfl rfl rfl rfl) fun _ _ _ _ h => h) (ha := (pa_cons (pv 4) (pa_cons (pv 2) (pa_cons (pv 3) (pa_cons (pe_callB call_uLen (by rfl) C.n_len boot_len (pa_cons (pv 2) pa_nil)) pa_nil)))))) (pv 3) (by rfl)))))))))))))))))))))))), read__law_right C.F h⟩), F.bindsN fun _ _ _ _ _ _ us hl => match us, hl with | [_, _, _, _], _ => rfl⟩, C.g__law_right, F.kp⟩
theorem ok__law_size (C : Ct K w mg) : GoodO P w K mg base 2 "_law_size" ["_law_box_here", "_law_most"] (sp__law_size K) := by
  obtain ⟨fd, F⟩ := C.says.def_ 30 (d := d__law_size) rfl
  exact ⟨⟨fd, F.ok (k := 1) sc__law_size (fun vs H Q E h => sp2_len vs H Q E h) (fun cdv A outer s H vs Q E hr h => ⟨t__law_size K E, (have hu := hr.units; (pss_cons (ps_set (i := 2) sc__law_size.nd rfl (Or.inl rfl) (pe_op op_uAdd pe_int (pe_fo (ok__law_take C) (hr.mono (by decide)) (by rfl) (passes_call (takes_of rfl rfl rfl rfl) fun _ _ _ _ h => h) (ha := (pa_cons (pv 0) (pa_cons (pv 1) pa_nil)))))) (pss_one (ps_ret (pe_ifExp (PW.pt (pw_and (pt_cmpR (op_uEq hu) (pv 2) pe_int (by rfl)) (pw_and1 (pt_cmpR op_uGt (pe_fo (ok__law_take C) (hr.mono (by decide)) (by rfl) (passes_call (takes_of rfl rfl rfl rfl) fun _ _ _ _ h => h) (ha := (pa_cons (pv 0) (pa_cons pe_int pa_nil)))) pe_int (by rfl))))) (pv 1) (pv 2)))))), read__law_size C.F h⟩), F.bindsN fun _ _ _ _ _ _ us hl => match us, hl with | [_, _], _ => rfl⟩, C.g__law_size, F.kp⟩
theorem ok__law_moves (C : Ct K w mg) : GoodO P w K mg base 2 "_law_moves" ["_law_plain_here", "_law_word_here"] (sp__law_moves K) := by
  obtain ⟨fd, F⟩ := C.says.def_ 34 (d := d__law_moves) rfl
  exact ⟨⟨fd, F.ok (k := 1) sc__law_moves (fun vs H Q E h => sp2_len vs H Q E h) (fun cdv A outer s H vs Q E hr h => ⟨t__law_moves K E, (have hu := hr.units; (pss_cons (ps_set (i := 2) sc__law_moves.nd rfl (Or.inl rfl) pe_dnewK) (pss_cons (ps_for (passes_of rfl) rfl (pi_range1 (by rfl) C.n_range (pa_cons (pe_callB call_uLen (by rfl) C.n_len boot_len (pa_cons (pv 1) pa_nil)) pa_nil)) (pg_name (i := 3) sc__law_moves.nd rfl (Or.inl rfl)) (pss_one (ps_asg (pv 3) (pg_sub (pv 2) (pe_ix ix_u (pv 1) (pv 3) (fun _ _ => rfl)) (set_dict (Nat.lt_of_le_of_lt (Nat.add_le_add_left (by decide) _) hu)))))) (pss_cons (ps_set (i := 4) sc__law_moves.nd rfl (Or.inl rfl) (pe_lst pa_nil)) (pss_cons (ps_for (passes_of rfl) rfl (pi_seq (pe_sortVals rfl (by rfl) C.n_sorted (pv 2))) (pg_name (i := 3) sc__law_moves.nd rfl (Or.inl rfl)) (pss_one (ps_for (passes_of rfl) rfl (pi_str pe_str) (pg_name (i := 5) sc__law_moves.nd rfl (Or.inl rfl)) (pss_one (ps_if (PW.pt (pw_and (pt_cmpR (op_uNe hu) (pv 5) (pe_ix ix_u (pv 1) (pv 3) (fun _ _ => rfl)) (by rfl)) (pw_and1 (pt_cmpR op_uLt (pe_dget2 (Nat.lt_of_le_of_lt (Nat.add_le_add_left (by decide) _) hu) (pv 2) (pv 5) (pe_un un_neg pe_int) ⟨rfl, rfl, rfl, rfl⟩) (pv 3) (by rfl))))) (pss_cons (ps_set (i := 6) sc__law_moves.nd rfl (Or.inl rfl) (pe_fo (ok__law_price C) (hr.mono (by decide)) (by rfl) (passes_call (takes_of rfl rfl rfl rfl) fun _ _ _ _ h => h) (ha := (pa_cons (pv 0) (pa_cons (pv 3) (pa_cons (pe_ix ix_u (pv 1) (pv 3) (fun _ _ => rfl)) (pa_cons (pv 5) pa_nil))))))) (pss_one (ps_set (i := 4) sc__law_moves.nd rfl (Or.inl rfl) (pe_op op_uAdd (pv 4) (pe_op op_uMul (pe_lst (pa_cons (pe_tup (pa_cons (pe_tup (pa_cons (pv 3) (pa_cons (pv 5) pa_nil))) (pa_cons (pv 6) pa_nil))) pa_nil)) (pe_callTy call_int1 (by rfl) C.n_int (by decide +kernel) (pa_cons (pe_cmpR op_uNis (pv 6) pe_non (by rfl)) pa_nil))))))) pss_nil))))) (pss_one (ps_ret (pv 4)))))))), read__law_moves C.F h⟩), F.bindsN fun _ _ _ _ _ _ us hl => match us, hl with | [_, _], _ => rfl⟩, C.g__law_moves, F.kp⟩
theorem ok__law_walk (C : Ct K w mg) : GoodO P w K mg base 3 "_law_walk" ["_law_box_here", "_law_plain_here", "_law_word_here", "_law_most"] (sp__law_walk K) := by
  obtain ⟨fd, F⟩ := C.says.def_ 36 (d := d__law_walk) rfl
  exact ⟨⟨fd, F.ok (k := 2) sc__law_walk (fun vs H Q E h => sp4_len vs H Q E h) (fun cdv A outer s H vs Q E hr h => ⟨t__law_walk K E, (have hu := hr.units; (pss_cons (ps_par3 (by rfl) sc__law_walk.nd rfl rfl rfl (by decide) (by decide) (by decide) rfl rfl rfl (pa_cons (pe_lst pa_nil) (pa_cons (pv 2) (pa_cons pe_non pa_nil))) (by rfl)) (pss_cons (ps_for (passes_of rfl) rfl (pi_range1 (by rfl) C.n_range (pa_cons (pe_fo (ok__law_take C) (hr.mono (by decide)) (by rfl) (passes_call (takes_of rfl rfl rfl rfl) fun _ _ _ _ h => h) (ha := (pa_cons (pv 0) (pa_cons (pe_op op_uAdd (pv 3) pe_int) pa_nil)))) pa_nil)) (pg_name (i := 7) sc__law_walk.nd rfl (Or.inl rfl)) (pss_cons (ps_setLc (i := 9) (own := [("_law_move", 8), ("_law_price_here", 10)]) (g := (gTup K 2 (gCons (gName 8) (gCons (gName 10) gNil)))) (tt := tYes) rfl sc__law_walk.nd rfl rfl (by exact sw_true rfl rfl rfl (by decide +kernel)) (pi_seq (pe_fo (ok__law_moves C) (hr.mono (by decide)) (by rfl) (passes_call (takes_of rfl rfl rfl rfl) fun _ _ _ _ h => h) (ha := (pa_cons (pv 1) (pa_cons (pv 5) pa_nil))))) (blkOk_by (N := n__law_walk) (sc := defScope s__law_walk) (by decide +kernel)) (fun _ _ _ _ _ => (pg_tup (by rfl) (pgs_cons (pg_name (i := 8) sc__law_walk.nd rfl (Or.inl rfl)) (pgs_cons (pg_name (i := 10) sc__law_walk.nd rfl (Or.inl rfl)) pgs_nil)))) (fun _ _ _ _ _ => pts_nil) (fun _ _ _ _ _ => (pv 8))) (pss_cons (ps_if (pt_cmpR (op_uEq hu) (pv 9) (pe_lst pa_nil) (by rfl)) (pss_one (ps_ret (pv 4))) pss_nil) (pss_cons (ps_set (i := 8) sc__law_walk.nd rfl (Or.inl rfl) (pe_ix ix_u (pv 9) (pe_fo (ok__law_take C) (hr.mono (by decide)) (by rfl) (passes_call (takes_of rfl rfl rfl rfl) fun _ _ _ _ h => h) (ha := (pa_cons (pv 0) (pa_cons (pe_callB call_uLen (by rfl) C.n_len boot_len (pa_cons (pv 9) pa_nil)) pa_nil)))) (fun _ _ => rfl))) (pss_cons (ps_set (i := 8) sc__law_walk.nd rfl (Or.inl rfl) (pe_ifExp (PW.pt (pw_and (pt_cmpR (op_inD (Nat.lt_of_le_of_lt (Nat.add_le_add_left (by decide) _) hr.un)) (pv 6) (pv 9) (by rfl)) (pw_and1 (pt_cmpR (op_uEq hu) (pe_fo (ok__law_take C) (hr.mono (by decide)) (by rfl) (passes_call (takes_of rfl rfl rfl rfl) fun _ _ _ _ h => h) (ha := (pa_cons (pv 0) (pa_cons pe_int pa_nil)))) pe_int (by rfl))))) (pv 6) (pv 8))) (pss_cons (ps_set (i := 6) sc__law_walk.nd rfl (Or.inl rfl) (pe_tup (pa_cons (pe_ix ix_u (pv 8) pe_int (fun _ _ => rfl)) (pa_cons (pe_ix ix_u (pv 5) (pe_ix ix_u (pv 8) pe_int (fun _ _ => rfl)) (fun _ _ => rfl)) pa_nil)))) (pss_cons (ps_expr (pe_bm PySem.F.plainAttrs_list PySem.F.slot_list_append PySem.F.type_list_append mt_append (pv 4) (pa_cons (pv 8) pa_nil))) (pss_one (ps_set (i := 5) sc__law_walk.nd rfl (Or.inl rfl) (pe_fo (ok__law_behind C) (hr.mono (by decide)) (by rfl) (passes_call (takes_of rfl rfl rfl rfl) fun _ _ _ _ h => h) (ha := (pa_cons (pv 5) (pa_cons (pv 8) pa_nil))))))))))))) (pss_one (ps_ret (pv 4)))))), read__law_walk C.F h⟩), F.bindsN fun _ _ _ _ _ _ us hl => match us, hl with | [_, _, _, _], _ => rfl⟩, C.g__law_walk, F.kp⟩
theorem ok__law_word (C : Ct K w mg) : GoodO P w K mg base 2 "_law_word" ["_law_box_here", "_law_size_here"] (sp__law_word K) := by
  obtain ⟨fd, F⟩ := C.says.def_ 32 (d := d__law_word) rfl
  exact ⟨⟨fd, F.ok (k := 1) sc__law_word (fun vs H Q E h => sp2_len vs H Q E h) (fun cdv A outer s H vs Q E hr h => ⟨t__law_word K E, (have hu := hr.units; (pss_one (ps_ret (pe_joinU pe_str (pe_lc (own := [("_law_crate", 2)]) (g := (gName 2)) (tt := tYes) rfl sc__law_word.nd (pi_range1 (by rfl) C.n_range (pa_cons (pv 1) pa_nil)) (blkOk_by (N := n__law_word) (sc := defScope s__law_word) (by decide +kernel)) (fun _ _ _ _ _ => (pg_name (i := 2) sc__law_word.nd rfl (Or.inl rfl))) (fun _ _ _ _ _ => pts_nil) (fun _ _ _ _ _ => (pe_ix ix_u pe_str (pe_fo (ok__law_take C) (hr.mono (by decide)) (by rfl) passL (ha := (pa_cons (pv 0) (pa_cons pe_int pa_nil)))) (fun _ _ => rfl)))))))), read__law_word C.F h⟩), F.bindsN fun _ _ _ _ _ _ us hl => match us, hl with | [_, _], _ => rfl⟩, C.g__law_word, F.kp⟩
theorem okF_law (C : Ct K w mg) {fd : FuncData} (F : FunD K d_law.name d_law.qual d_law.params d_law.body d_law.scope (d_law.dvs K) (d_law.kws K) (He.fAd K d_law.at_) fd) : FnG P w K mg base 9 (He.ga K "law") fd ["_law_script"] (sp_law0 K) :=
  fnG_of (k := 8) F sc_law (fun vs H Q E h => sp1_len vs H Q E h) (fun cdv A outer s H vs Q E hA hr h => ⟨t_law K E, (have hu := hr.units; (pss_cons (ps_for (passes_of rfl) rfl (pi_range1 (by rfl) C.n_range (pa_cons (pe_callB (call_max2 rfl) (by rfl) C.n_max (by decide +kernel) (pa_cons pe_int (pa_cons (pe_callB (call_min2 rfl) (by rfl) C.n_min (by decide +kernel) (pa_cons pe_int (pa_cons (pe_callB call_uLen (by rfl) C.n_len boot_len (pa_cons (pv 0) pa_nil)) pa_nil))) pa_nil))) pa_nil)) (pg_name (i := 1) sc_law.nd rfl (Or.inl rfl)) (pss_cons (ps_set (i := 2) sc_law.nd rfl (Or.inl rfl) (pe_fo (ok__law_box C) (hr.mono (by decide)) (by rfl) (passes_call (takes_of rfl rfl rfl rfl) fun _ _ _ _ h => h) (ha := (pa_cons (pe_fo (ok__law_cell C) (hr.mono (by decide)) (by rfl) (passes_call (takes_of rfl rfl rfl rfl) fun _ _ _ _ h => h) (ha := (pa_cons (pv 0) (pa_cons (pv 1) pa_nil)))) pa_nil)))) (pss_cons (ps_set (i := 3) sc_law.nd rfl (Or.inl rfl) (pe_fo (ok__law_size C) (hr.mono (by decide)) (by rfl) (passes_call (takes_of rfl rfl rfl rfl) fun _ _ _ _ h => h) (ha := (pa_cons (pv 2) (pa_cons (pe_ix ix_u (pe_lst (pa_cons pe_int (pa_cons pe_int (pa_cons pe_int pa_nil)))) (pe_fo (ok__law_take C) (hr.mono (by decide)) (by rfl) (passes_call (takes_of rfl rfl rfl rfl) fun _ _ _ _ h => h) (ha := (pa_cons (pv 2) (pa_cons pe_int pa_nil)))) (fun _ _ => rfl)) pa_nil))))) (pss_cons (ps_par (by rfl) sc_law.nd rfl rfl (by decide) rfl rfl (pa_cons (pe_fo (ok__law_plain C) (hr.mono (by decide)) (by rfl) (passes_call (takes_of rfl rfl rfl rfl) fun _ _ _ _ h => h) (ha := (pa_cons (pv 2) (pa_cons (pv 3) pa_nil)))) (pa_cons (pe_fo (ok__law_word C) (hr.mono (by decide)) (by rfl) (passes_call (takes_of rfl rfl rfl rfl) fun _ _ _ _ h => h) (ha := (pa_cons (pv 2) (pa_cons (pv 3) pa_nil)))) pa_nil)) (by rfl)) (pss_cons (ps_set (i := 6) sc_law.nd rfl (Or.inl rfl) (pe_ifExp (PW.pt (pw_and (pt_cmpR (op_uEq hu) (pv 1) pe_int (by rfl)) (pw_and (pt_cmpR op_uLt (pv 3) pe_int (by rfl)) (pw_and1 (pt_cmpR (op_uEq hu) (pe_fo (ok__law_take C) (hr.mono (by decide)) (by rfl) (passes_call (takes_of rfl rfl rfl rfl) fun _ _ _ _ h => h) (ha := (pa_cons (pv 2) (pa_cons pe_int pa_nil)))) pe_int (by rfl)))))) pe_int pe_int)) (pss_one (ps_if (pt_not (pt_val (pe_fn (ok__law_right C) hA (hr.mono (by decide)) (by rfl) (passes_call (takes_of rfl rfl rfl rfl) fun _ _ _ _ h => h) (ha := (pa_cons (pv 2) (pa_cons (pv 4) (pa_cons (pv 5) (pa_cons (pe_fo (ok__law_walk C) (hr.mono (by decide)) (by rfl) (passes_call (takes_of rfl rfl rfl rfl) fun _ _ _ _ h => h) (ha := (pa_cons (pv 2) (pa_cons (pv 4) (pa_cons (pv 5) (pa_cons (pv 6) pa_nil)))))) pa_nil)))))))) (pss_one (ps_ret pe_bl)) pss_nil))))))) (pss_one (ps_ret pe_bl)))), read_law C.F h⟩)
end
theorem run_f (w : World) : HandSHeadRun.RunEq RowR (PySem.W.view RowR.prog [64]) hk ob 20000 loose (w.withFollow "special-get-raises" false) := by
  intro os
  kernel_rfl
theorem run_t (w : World) : HandSHeadRun.RunEq RowR (PySem.W.view RowR.prog [64]) hk ob 20000 loose (w.withFollow "special-get-raises" true) := by
  intro os
  kernel_rfl
theorem run (w : World) : HandSHeadRun.RunEq RowR (PySem.W.view RowR.prog [64]) hk ob 20000 loose w :=
  PySem.W.byRow2 "special-get-raises" (P := fun w => HandSHeadRun.RunEq RowR (PySem.W.view RowR.prog [64]) hk ob 20000 loose w) run_f run_t w
end U
open PySem PySem.W PySem.Calls PyProof.Rows
theorem PySem.Challenge.cw_cratetowers_k13_rows_followed_holds : PySem.Challenge.rw_cratetowers_k13_rows_followed.Holds := by
  w_on; o_law
  refine HandSHeadRun.head_any (r := OpenLaw.row PySem.Challenge.rw_cratetowers_k13_rows_followed) (q := view (OpenLaw.row PySem.Challenge.rw_cratetowers_k13_rows_followed).prog [64]) (H := U.hk) (ob := U.ob) (M := 20000) (loose := U.loose) (d := HandSHeadRun.topDef (OpenLaw.row PySem.Challenge.rw_cratetowers_k13_rows_followed).prog 64) (kwd := []) U.ob_eq
    (by kernel_rfl) (fun s => by kernel_rfl) U.run (by kernel_rfl) (by kernel_rfl) (by kernel_rfl) (by rfl) (by first | assumption | decide +kernel) (by decide +kernel) ⟨rfl, rfl, rfl, rfl, rfl, by decide +kernel⟩ ?hw ?hc
  case hw => w_witness2
  case hc =>
    refine U.walk_G (l := PySem.Challenge.rw_cratetowers_k13_rows_followed) (n := 63) (k := 9) (x := "_law_script") ⟨rfl, by decide, by decide⟩ rfl (by decide) (by kernel_rfl) ?F
    intro w mg fa h hmg0 Y G
    obtain ⟨K, KX, c, e⟩ := Y
    have hmg : mg ("law" : PySem.Str) = some (.ref fa) := by
      have e : (HandSHeadRun.topDef (OpenLaw.row PySem.Challenge.rw_cratetowers_k13_rows_followed).prog 64).name = ("law" : PySem.Str) := by kernel_rfl
      rw [← e]
      exact hmg0
    have C := U.ct_of KX G c e
    have e2 := hmg.symm.trans C.g_law
    cases e2
    obtain ⟨fd, F⟩ := c.d.def_ 39 (d := U.d_law) rfl
    have b := L2.FunD.bindsA (ps := ["_law_script"]) F fun _ _ _ _ _ _ us hl => match us, hl with | [_], _ => rfl
    exact ⟨K, U.sp_law0 K, fd, fun s v => b s [v] rfl, KX, fun base _ _ => U.okF_law C F, fun H a ns hl _ hS => ⟨a, ns, rfl, hS, fun _ => rfl⟩⟩

