import PyProof.Rows.All
import Wide.All
import OpenK.AllK
import Wide.FinOn
import HandS.Dict
import HandS.Comp
import HandS.Iter
import KE.GoesEnumKw
import HandS.DictComp
import HandS.IsInst
import HandS.List
import HandS.Wide
import HandS.Words
import HandS.ForMost
import HandS.StrMore
import HandS.TupLen
import HandS.Flow
import PyProof.Rows.StrMeet
import PyProof.ReprRoads
import PyProof.ReprLen
import HandS.Ends
import HandS.Set
import HandS.SetTxt0
import HandS.More
import PyProof.Rows.SetFrom
import KE.DataEq
import HandS.Zip
import HandS.Conv
import KE.SortData
import KE.KDictPairs
import HandS.DictEq
import KE.KDictZip
import PySem.Challenge.RW_waitlists_k05_whole_renamed_nodes
set_option Elab.async false
set_option linter.all false
set_option maxRecDepth 100000
set_option maxHeartbeats 4000000
namespace L2.Dx
open PySem PySem.Spec PyProof.Rows L2
section
variable {X : Cx} {pins : List (Addr × Obj)} {σ : St} {H H' : Hp} {s : Shared} {a : Addr} {y v : V} {u r : Value} {E : Value → Shared → Prop} {Q : Unit → Shared → Prop}
/-- a dict's item is stored, by a comprehension: keys of either kind -/
theorem put_ok (hu : X.A.units + 1 < cLine) (I : Inv X pins σ H s) (g : DPut H a y v H') (ry : RelV y u) (rv : RelV v r) (h : ∀ s', Inv X pins σ H' s' → Q () s') : wpAny (model X.prog X.w) X.A (dictSet a u r) Q E s := by
  rcases g with ⟨kvs, k, ea, rfl, hl0, rfl⟩ | ⟨kvs, k, b, ea, rfl, eb, hl0, rfl⟩
  · have hl1 := length_putK kvs k v
    obtain ⟨hz, hsys, cs, rel, dct⟩ := dk_of I.hok ea
    have hz' : cs.length ≤ sizeLine := rel.length ▸ hz
    refine wpAny_dictSet_pairs (hsz := hz') (kV_is ry) dct fun hp' dct' same => h _ (d_write I (by rw [ea]; exact True.intro) same ?_ (dk_new (by omega) hsys (rel.put k rv) dct'))
    obtain ⟨q, _, _, hq, _⟩ := dct'
    exact ⟨q, hq⟩
  · have hl1 := length_putK kvs k v
    cases (show u = Value.ref b from ry)
    obtain ⟨hz, hsys, cs, rel, dct⟩ := dt_of I.hok ea
    have hz' : cs.length ≤ sizeLine := Paired.length rel ▸ hz
    refine wpAny_dictSet_heap (hsz := hz') (show X.A.units < cLine by omega) (key_of I.hok eb) dct fun hp' dct' same => h _ ?_
    obtain ⟨q, es, ep, hq, q2, q3, q4, _, q5⟩ := dct'
    refine d_write I (by rw [ea]; exact True.intro) same ⟨q, hq⟩ ⟨by omega, hsys, _, KT.keeps (rel.put k eb rv) (fun c ys ec => ?_), q, es, ep, hq, q2, q3, q4, q5⟩
    exact (upd_ne (ne_of ec ea (by intro z; cases z))).trans ec
end

/-! enumerate(l, start=k) -/
/-- the list at a from its first item, each item in a new pair with the count k, k + 1, .. -/
def IteS (K : PySem.W.Frag) (a : Addr) (k : Int) : It where
  go := fun i H => ∃ (xs : List V) (x : V), SqL K H a xs ∧ xs[i]? = some x
  yld := fun i H v H' => ∃ T x, v = .ref T ∧ H T = none ∧ H' = upd H T (.tup [.int (k + (i : Nat)), x]) ∧ ∀ xs, SqL K H a xs → xs[i]? = some x
  stop := fun i H => ∃ xs : List V, SqL K H a xs ∧ xs.length = i
theorem turn_enumS {P : Program} {w : World} {K : PySem.W.Frag} {elts : List Expr} {kk : Nat} {tpos : Pos} (a e it : Addr) (k : Int) :
    Turn P w K (.Tuple elts kk tpos) (IteS K a k) [e, it] e (fun i h => (∃ old, IsEnum h e it (k + (i : Nat)) old) ∧ h.IsListIter it a i ∧ e ≠ it ∧ a ≠ it ∧ a ≠ e) where
  mem := List.mem_cons_self
  obj := by
    rintro i h ⟨⟨old, he⟩, ⟨o, ho, _, hd⟩, _⟩ b hb
    rcases List.mem_cons.mp hb with rfl | hb
    · exact ⟨_, he, fun _ q => nomatch q⟩
    · cases List.mem_singleton.mp hb
      exact ⟨o, ho, fun _ q => nomatch hd.symm.trans q⟩
  keep := by
    rintro i h h' ⟨⟨old, he⟩, hi, hne⟩ kp
    exact ⟨⟨old, kp e (by simp) _ he⟩, hi.at fun o q => kp it (by simp) o q, hne⟩
  item := by
    intro X hP hw hK hc i pins s σ H E I hf st hg
    subst hP hw hK
    obtain ⟨⟨old, he⟩, hit, hne, hai, hae⟩ := st
    obtain ⟨xs, x, hq, hx⟩ := hg
    obtain ⟨its, rv, p, hz⟩ := I.list hq
    obtain ⟨u, hu, ru⟩ := rv.get hx
    have le : e < s.heap.objs.size := Heap.lt_size he
    have li : it < s.heap.objs.size := hit.elim fun _ q => Heap.lt_size q.1
    have hn : i < its.toArray.size := by
      have := (List.getElem?_eq_some_iff.mp hu).1
      simpa using this
    have hE : e ∉ [it, a] := by simp [hne, Ne.symm hae]
    refine wpAny_pyNext_enum_itemC (Draws.list (A := X.A.in1) (I.ok.hd hc) it a hai its.toArray) he ⟨hit, p.isList⟩ hn hne hE fun u' h' tk hu' ho st' hT hsz hk => ?_
    have eu : u' = u := Option.some.inj (hu'.symm.trans (by simpa using hu))
    subst eu
    refine ⟨_, rfl, wpAny_letOwnedTupleGo_enum (s := { s with heap := h', toks := tk + 1 }) ho fun h2 he2 sb => ?_⟩
    have nw : h2.get? s.heap.objs.size = some { cls := .type "tuple", data := .seq #[.int (k + (i : Nat)) tk, u'] } := (sb.2 _ (Nat.ne_of_gt le)).trans hT
    have keepAll : ∀ b ob, b ∉ [e, it] → s.heap.get? b = some ob → h2.get? b = some ob := fun b ob hb q =>
      (sb.2 b (fun z => hb (by rw [z]; simp))).trans (hk b ob (fun z => hb (by rw [z]; simp)) (fun z => hb (by rw [z]; simp)) q)
    have I1 : Inv X pins σ (upd H s.heap.objs.size (.tup [.int (k + (i : Nat)), x])) { s with heap := h2, toks := tk + 1 } :=
      I.turnedNew (ch := [e, it]) keepAll hf (Nat.le_refl _) ⟨(by decide : 2 ≤ sizeLine), [.int (k + (i : Nat)) tk, u'], .cons ⟨_, rfl⟩ (.cons ru .nil), ⟨_, nw, rfl, _, rfl⟩⟩
    have hnone : H s.heap.objs.size = none := I.hok.fresh (Nat.le_refl _)
    refine ⟨.ref s.heap.objs.size, _, I1, rfl, ⟨_, x, rfl, hnone, rfl, fun ys hy => (I.list_inj hy hq) ▸ hx⟩, ⟨⟨u', ?_⟩, st'.1.at fun o q => (sb.2 it (Ne.symm hne)).trans q, hne, hai, hae⟩, fun b hb => ?_⟩
    · rw [show (k + ((i + 1 : Nat) : Int)) = k + (i : Nat) + 1 by omega]
      exact he2
    · have lb : b < s.heap.objs.size := by
        rcases List.mem_cons.mp hb with rfl | hb
        · exact le
        · cases List.mem_singleton.mp hb
          exact li
      exact (upd_ne (Nat.ne_of_lt lb)).trans (hf b hb).1
  done := by
    intro X hP hw hK hc i pins s σ H E I hf st hg
    subst hP hw hK
    obtain ⟨⟨old, he⟩, hit, hne, hai, hae⟩ := st
    obtain ⟨xs, hq, hx⟩ := hg
    obtain ⟨its, rv, p, hz⟩ := I.list hq
    obtain ⟨f0, f1, f2, f3, f4, f5⟩ := hf it (by simp)
    have hl := rv.length
    have en : i = its.toArray.size := by simp; omega
    rw [en] at hit
    exact wpAny_pyNext_enum_endD (Draws.list (A := X.A.in1) (I.ok.hd hc) it a hai its.toArray) he ⟨hit, p.isList⟩ fun h' eb => ⟨rfl, I.turned (t' := s.toks) (fun b o hb q => eb b o hb q) f0 f1 f3 f4 f5⟩
  self := fun A i s Q E st h => st.1.elim fun _ he => wpAny_pyIter_enum he h
end L2.Dx

set_option Elab.async false
set_option linter.all false
set_option maxRecDepth 100000
set_option maxHeartbeats 4000000
namespace L2.Dx
open PySem PySem.Spec PyProof.Rows L2
theorem callTyKw {M : Model} {A : Around} {E : Value → Shared → Prop} {s : Shared} {pos : Pos} {T : String} {first : List Value} {args : List (Bool × Sem Value)} {kws : List (Option Str × Sem Value)} {Q : Value → Shared → Prop}
    (hp : args.any (·.1) = false) (hk : kws.any (·.1.isNone) = false) (h : wpAny M A (evalArgs (.type T) true args kws) (fun a s₁ => wpAny M A (call (.type T) (first ++ a.pos) a.kw) Q E s₁) E s) : wpAny M A (callWith pos (.type T) first args kws) Q E s := by
  unfold callWith
  refine wpAny_bind (wpAny_holding (wpAny_mono h (fun a s₁ h₁ => wpAny_bind (wpAny_standAt ?_)) fun _ _ z => z))
  simp only [hp, hk, Bool.or_false]
  exact wpAny_bind (wpAny_pure (wpAny_bind (wpAny_mono h₁ (fun _ _ hr => wpAny_bind (wpAny_holding (wpAny_point (wpAny_pure hr)))) fun _ _ z => z)))
def iEnumS (K : PySem.W.Frag) (k : Int) (ta : TA) : TI := fun σ H R => ta σ H fun vs H1 => ∃ a xs, vs = [.ref a] ∧ SqL K H1 a xs ∧ R (IteS K a k) H1
theorem pi_enumS {X : Cx} {e : Expr} {ta : TA} {p pos tpos p2 kp : Pos} {elts : List Expr} {kk : Nat} {k : Int} {j : Nat} (k0 : -(2 ^ 63) ≤ k) (k1 : k < 2 ^ 63) (hg : Gl X "enumerate") (hm : X.mg "enumerate" = none) (ha : PA X [e] ta)
    (hs : starEach [e] X.env = [(false, eval e X.env)] := by rfl) :
    PI X (.Tuple elts kk tpos) (.Call (.Name "enumerate" p) [e] [⟨some (Str.ofString "start"), .Constant (.int k) j p2, kp⟩] pos) (iEnumS X.K k ta) := by
  refine ⟨fun pins s σ H R I h => ?_⟩
  have hb : backTo pos (starEach [e] X.env) = (false, eval e X.env) :: [] := by rw [hs]; rfl
  refine wpAny_Call_Name_kw (ld_blt I hg hm boot_enumerate (callTyKw (by rw [hs]; rfl) rfl ?_))
  have step := thn (ha.run pos pins s σ H _ I h) (Q' := fun us s1 => wpAny (model X.prog X.w) X.A (evalAll ((backToKw pos (keywordEach [⟨some (Str.ofString "start"), .Constant (.int k) j p2, kp⟩] X.env)).map (·.2)))
      (fun kvs s₂ => wpAny (model X.prog X.w) X.A (call (.type "enumerate") us ([Str.ofString "start"].zip kvs)) (fun v s3 => wpAny (model X.prog X.w) X.A (pyIter v) (PIE X pins σ (.Tuple elts kk tpos) R) X.xe s3) X.xe s₂) X.xe s1)
    fun us s1 ⟨vs, H1, I1, r1, a, xs, ev, hq, q⟩ => ?_
  · rw [hb] at step ⊢
    exact evalArgs_kwB rfl step
  · subst ev
    refine thn ((pk_cons pe_int pk_nil).run pos pins s1 σ H1 (fun zs H2 => zs = [.int k] ∧ H2 = H1) I1 ⟨rfl, rfl⟩) fun ws s2 ⟨zs, H2, I2, r2, ez, eH⟩ => ?_
    subst ez eH
    obtain ⟨u1, rfl, ru1⟩ := vals1 r1
    obtain ⟨u2, rfl, ru2⟩ := vals1 r2
    obtain rfl : u1 = Value.ref a := ru1
    obtain ⟨t, rfl⟩ : ∃ t, u2 = Value.int k t := ru2
    obtain ⟨its, rv, p', hz⟩ := I2.list hq
    refine enum_begins_start (begins_list a its.toArray) p'.isList k0 k1 fun h' he ho hsz hk => wpAny_pyIter_enum he ?_
    have I3 : Inv X pins σ H2 { s2 with heap := h' } := I2.kept (t' := s2.toks) hk
    have ha' : a < s2.heap.objs.size := by obtain ⟨_, z, _⟩ := p'.isList; exact Heap.lt_size z
    refine ⟨s2.heap.objs.size + 1, [s2.heap.objs.size + 1, s2.heap.objs.size], _, _, H2, rfl, I3, turn_enumS a (s2.heap.objs.size + 1) s2.heap.objs.size k, ⟨⟨.none, ?_⟩, ⟨_, ho, rfl, rfl⟩, Nat.succ_ne_self _, Nat.ne_of_lt ha', Nat.ne_of_lt (Nat.lt_succ_of_lt ha')⟩, fun b hb => ?_, q⟩
    · rw [show k + ((0 : Nat) : Int) = k by omega]
      exact he
    · have hle : s2.heap.objs.size ≤ b := by
        rcases List.mem_cons.mp hb with z | hb
        · rw [z]; exact Nat.le_add_right _ _
        · rw [List.mem_singleton.mp hb]; exact Nat.le_refl _
      exact I2.fpOk hle (I2.hok.fresh hle)

/-! {kx: vx for t0 in i0 if .. for t1 in i1 if ..} -/
theorem dTurn0 (kx vx t0 i0 t1 i1 : Expr) (ifs0 ifs1 : List Expr) (scope : Scope) (pos : Pos) (it : Value) (D : Addr) (env : Env) :
    compTurn (.DictComp kx vx [⟨t0, i0, ifs0, 0⟩, ⟨t1, i1, ifs1, 0⟩] scope pos) 0 it (.ref D) env = (do
      standAt i0.pos
      match ← pyNext it with
      | none => pure (.done .next)
      | some v =>
        letOwnedTupleGo t0 it v
        assign t0 env v
        let mut ok := true
        for c in ifs0 do
          if ok then ok ← isTrue c env (eval c env)
        if ok then
          let x ← eval i1 env
          standAt i1.pos
          let x ← foldedSetIterable i1 env x
          let _ ← runOwn (.compStart (.DictComp kx vx [⟨t0, i0, ifs0, 0⟩, ⟨t1, i1, ifs1, 0⟩] scope pos) 1 (← holding [x] (pyIter x)) (.ref D) env) env
        again (.compLoop (.DictComp kx vx [⟨t0, i0, ifs0, 0⟩, ⟨t1, i1, ifs1, 0⟩] scope pos) 0 it (.ref D) env)) := by rfl
theorem dTurn1 (kx vx t0 i0 t1 i1 : Expr) (ifs0 ifs1 : List Expr) (scope : Scope) (pos : Pos) (it : Value) (D : Addr) (env : Env) :
    compTurn (.DictComp kx vx [⟨t0, i0, ifs0, 0⟩, ⟨t1, i1, ifs1, 0⟩] scope pos) 1 it (.ref D) env = (do
      standAt i1.pos
      match ← pyNext it with
      | none => pure (.done .next)
      | some v =>
        letOwnedTupleGo t1 it v
        assign t1 env v
        let mut ok := true
        for c in ifs1 do
          if ok then ok ← isTrue c env (eval c env)
        if ok then
          (do
            let kv ← eval kx env
            let vv ← holding [kv] (eval vx env)
            standAt { kx.pos with endLine := vx.pos.endLine, endCol := vx.pos.endCol }
            holding [kv, vv] (dictSet D kv vv))
        again (.compLoop (.DictComp kx vx [⟨t0, i0, ifs0, 0⟩, ⟨t1, i1, ifs1, 0⟩] scope pos) 1 it (.ref D) env)) := by rfl
section
variable {prog : Program} {w : World} {A : Around} {R : Result → Shared → Prop} {s : Shared} {kx vx t0 i0 t1 i1 : Expr} {ifs0 ifs1 : List Expr} {scope : Scope} {pos : Pos} {it : Value} {D : Addr} {env : Env}
abbrev err (prog : Program) (w : World) (A : Around) (env : Env) (R : Result → Shared → Prop) : Value → Shared → Prop := notedBy (model prog w) A env fun e s' => R (.error e) s'
abbrev tests (ifs : List Expr) (env : Env) : Sem Bool := forIn ifs true fun c r => if r = true then do let ok ← isTrue c env (eval c env); pure (ForInStep.yield ok) else pure (ForInStep.yield r)
theorem dLoop0 (hs : ∀ x, foldedSetIterable i1 env x = pure x) (I : Nat → Shared → Prop)
    (turn : ∀ n s, I n s → wpAny (model prog w) A (pyNext it) (fun r s₁ => match r with
      | none => R (.ok .next) s₁
      | some v => wpAny (model prog w) A (letOwnedTupleGo t0 it v) (fun _ s₁' => wpAny (model prog w) A (assign t0 env v) (fun _ s₂ => wpAny (model prog w) A (tests ifs0 env) (fun ok s₃ =>
            if ok = true then wpAny (model prog w) A (eval i1 env) (fun x s₄ => wpAny (model prog w) A (pyIter x) (fun it1 s₅ =>
              codeAny (model prog w) A (.compStart (.DictComp kx vx [⟨t0, i0, ifs0, 0⟩, ⟨t1, i1, ifs1, 0⟩] scope pos) 1 it1 (.ref D) env) (fun r s' => match r with
                | .ok _ => ∃ m, m < n ∧ I m s'
                | .error _ => False) s₅) (err prog w A env R) s₄) (err prog w A env R) s₃
            else ∃ m, m < n ∧ I m s₃) (err prog w A env R) s₂) (err prog w A env R) s₁') (err prog w A env R) s₁) (err prog w A env R) s)
    (n : Nat) (h : I n s) : codeAny (model prog w) A (.compLoop (.DictComp kx vx [⟨t0, i0, ifs0, 0⟩, ⟨t1, i1, ifs1, 0⟩] scope pos) 0 it (.ref D) env) R s := by
  refine codeAny_loop rfl I (fun n s hI => ?_) n h
  show wpAny _ A ((compTurn (.DictComp kx vx [⟨t0, i0, ifs0, 0⟩, ⟨t1, i1, ifs1, 0⟩] scope pos) 0 it (.ref D) env).onRaise (fun x => do noteFrame x env; theTreesLotGoes x)) _ _ s
  refine wpAny_noted ?_
  rw [dTurn0]
  refine wpAny_bind (wpAny_standAt (wpAny_bind (wpAny_mono (turn n s hI) (fun r s₁ h₁ => ?_) fun _ _ z => z)))
  rcases r with _ | v
  · exact wpAny_pure h₁
  refine wpAny_bind (wpAny_mono h₁ (fun _ s₁' h₁' => wpAny_bind (wpAny_mono h₁' (fun _ s₂ h₂ => wpAny_bind (wpAny_mono h₂ (fun ok s₃ h₃ => ?_) fun _ _ z => z)) fun _ _ z => z)) fun _ _ z => z)
  rcases ok with _ | _
  · exact wpAny_pure ⟨rfl, h₃⟩
  refine wpAny_bind (wpAny_mono h₃ (fun x s₄ h₄ => wpAny_bind (wpAny_standAt (wpAny_bind (wpAny_of_eq (hs x) (wpAny_bind (wpAny_holding (wpAny_mono h₄ (fun it1 s₅ h₅ => wpAny_bind (wpAny_runOwn ?_)) fun _ _ z => z))))))) fun _ _ z => z)
  rw [Around.mark_none]
  refine codeAny_mono h₅ fun r s' hr => ?_
  rcases r with e | f
  · exact hr.elim
  · first
      | exact wpAny_pure ⟨rfl, hr⟩
      | exact wpAny_bind (wpAny_pure (wpAny_pure ⟨rfl, hr⟩))
theorem dLoop1 (I : Nat → Shared → Prop)
    (turn : ∀ n s, I n s → wpAny (model prog w) A (pyNext it) (fun r s₁ => match r with
      | none => R (.ok .next) s₁
      | some v => wpAny (model prog w) A (letOwnedTupleGo t1 it v) (fun _ s₁' => wpAny (model prog w) A (assign t1 env v) (fun _ s₂ => wpAny (model prog w) A (tests ifs1 env) (fun ok s₃ =>
            if ok = true then wpAny (model prog w) A (eval kx env) (fun kv s₄ => wpAny (model prog w) A (eval vx env) (fun vv s₅ =>
              wpAny (model prog w) A (dictSet D kv vv) (fun _ s₆ => ∃ m, m < n ∧ I m s₆) (err prog w A env R) s₅) (err prog w A env R) s₄) (err prog w A env R) s₃
            else ∃ m, m < n ∧ I m s₃) (err prog w A env R) s₂) (err prog w A env R) s₁') (err prog w A env R) s₁) (err prog w A env R) s)
    (n : Nat) (h : I n s) : codeAny (model prog w) A (.compLoop (.DictComp kx vx [⟨t0, i0, ifs0, 0⟩, ⟨t1, i1, ifs1, 0⟩] scope pos) 1 it (.ref D) env) R s := by
  refine codeAny_loop rfl I (fun n s hI => ?_) n h
  show wpAny _ A ((compTurn (.DictComp kx vx [⟨t0, i0, ifs0, 0⟩, ⟨t1, i1, ifs1, 0⟩] scope pos) 1 it (.ref D) env).onRaise (fun x => do noteFrame x env; theTreesLotGoes x)) _ _ s
  refine wpAny_noted ?_
  rw [dTurn1]
  refine wpAny_bind (wpAny_standAt (wpAny_bind (wpAny_mono (turn n s hI) (fun r s₁ h₁ => ?_) fun _ _ z => z)))
  rcases r with _ | v
  · exact wpAny_pure h₁
  refine wpAny_bind (wpAny_mono h₁ (fun _ s₁' h₁' => wpAny_bind (wpAny_mono h₁' (fun _ s₂ h₂ => wpAny_bind (wpAny_mono h₂ (fun ok s₃ h₃ => ?_) fun _ _ z => z)) fun _ _ z => z)) fun _ _ z => z)
  rcases ok with _ | _
  · exact wpAny_pure ⟨rfl, h₃⟩
  exact wpAny_bind (wpAny_bind (wpAny_mono h₃ (fun kv s₄ h₄ => wpAny_bind (wpAny_holding (wpAny_mono h₄ (fun vv s₅ h₅ => wpAny_bind (wpAny_standAt (wpAny_holding (wpAny_mono h₅ (fun _ s₆ h₆ => wpAny_pure ⟨rfl, h₆⟩) fun _ _ z => z)))) fun _ _ z => z))) fun _ _ z => z))
theorem dStart1 (h0 : codeAny (model prog w) A (.compLoop (.DictComp kx vx [⟨t0, i0, ifs0, 0⟩, ⟨t1, i1, ifs1, 0⟩] scope pos) 1 it (.ref D) env) R s)
    (h : wpAny (model prog w) A (pyIter it) (fun it' s' => codeAny (model prog w) A (.compLoop (.DictComp kx vx [⟨t0, i0, ifs0, 0⟩, ⟨t1, i1, ifs1, 0⟩] scope pos) 1 it' (.ref D) env) R s') (err prog w A env R) s) :
    codeAny (model prog w) A (.compStart (.DictComp kx vx [⟨t0, i0, ifs0, 0⟩, ⟨t1, i1, ifs1, 0⟩] scope pos) 1 it (.ref D) env) R s := by
  refine codeAny_of_tree ?_
  show wpAny _ _ ((compStart (.DictComp kx vx [⟨t0, i0, ifs0, 0⟩, ⟨t1, i1, ifs1, 0⟩] scope pos) 1 it (.ref D) env).onRaise (fun x => do noteFrame x env; standAt theWindowsPlace)) _ _ s
  refine wpAny_notedAt ?_
  unfold compStart
  show wpAny _ _ (ask >>= _) _ _ s
  refine wpAny_bind (wpAny_askSetting (wpAny_ite ?_))
  split
  · first
      | exact wpAny_bind (wpAny_pure (wpAny_pure (And.intro rfl h0)))
      | exact wpAny_pure (And.intro rfl h0)
  · first
      | exact wpAny_bind (wpAny_rule (wpAny_bind (wpAny_standAt (wpAny_bind (wpAny_mono h (fun it' s' h' => wpAny_pure (And.intro rfl h')) fun _ _ x => x)))))
      | (refine wpAny_bind (wpAny_rule ?_); show wpAny _ _ (standAt i1.pos >>= _) _ _ s; exact wpAny_bind (wpAny_standAt (wpAny_bind (wpAny_mono h (fun it' s' h' => wpAny_pure (And.intro rfl h')) fun _ _ x => x))))
end
end L2.Dx

set_option Elab.async false
set_option linter.all false
set_option maxRecDepth 100000
set_option maxHeartbeats 4000000
namespace L2.Dx
open PySem PySem.Spec PyProof.Rows L2
/-- a new empty dict, as it is told -/
def NewD (o : HO) : Prop := ∀ {P : Program} {w : World} {H : Hp} (h : Heap), sysModules < h.objs.size → ObjOk P w H (h.push { cls := .type "dict", data := .dict #[] }) h.objs.size o
theorem newK : NewD (.dK []) := fun h b => dk_empty h b
theorem newT : NewD (.dT []) := fun h b => dt_empty h b
section
variable {X : Cx}
/-- {kx: vx for tg in iter if .. for tg1 in iter1 if ..}; o: the new dict, keys of one kind -/
def tDc2 (o : HO) (wi : TI) (g : TG) (tt : TT) (wi1 : TI) (g1 : TG) (tt1 : TT) (tk tv : TE) (vs vs1 : List Nat) : TE := fun σ H Q => wi σ H fun J H1 => ∀ D, H1 D = none → ∃ W : Nat → Nat → Hp → Prop, (∃ m, W 0 m (upd H1 D o)) ∧ ∀ i m H, W i m H →
  (J.stop i H ∧ Q (.ref D) H) ∨ (J.go i H ∧ ∃ Nx : Hp → Prop, (∀ H', Nx H' → ∃ m', m' < m ∧ W (i + 1) m' H') ∧ ∀ x H', J.yld i H x H' → g x (wipe σ vs) H' fun σ2 H2 => wipe σ2 vs = wipe σ vs ∧ tt σ2 H2 fun b H3 =>
    if b = true then wi1 σ2 H3 fun J1 H4 => ∃ W1 : Nat → Nat → Hp → Prop, (∃ m, W1 0 m H4) ∧ ∀ j k H, W1 j k H →
      (J1.stop j H ∧ Nx H) ∨ (J1.go j H ∧ ∃ Nx1 : Hp → Prop, (∀ H', Nx1 H' → ∃ k', k' < k ∧ W1 (j + 1) k' H') ∧ ∀ x H', J1.yld j H x H' → g1 x (wipe σ2 vs1) H' fun σ3 H5 => wipe σ3 vs1 = wipe σ2 vs1 ∧ tt1 σ3 H5 fun b H6 =>
        if b = true then tk σ3 H6 fun y H7 => tv σ3 H7 fun z H8 => ∃ H9, DPut H8 D y z H9 ∧ Nx1 H9 else Nx1 H6)
    else Nx H3)
theorem dc2_core {pins : List (Addr × Obj)} {s : Shared} {σ : St} {H : Hp} {Q : VK} {kx vx tg iter tg1 iter1 : Expr} {ifs ifs1 : List Expr} {scope : Scope} {own : List (Str × Nat)} {vs1 : List Nat} {pos pos' : Pos} {o0 : HO} {wi wi1 : TI} {g g1 : TG} {tt tt1 : TT} {tk tv : TE} {use : Option (Value → Sem Unit)} {Qf : Value → Shared → Prop}
    (hu : X.A.units + 1 < cLine) (nw : NewD o0) (hc : X.calm = true) (hN : X.N.Nodup) (I : Inv X pins σ H s) (hi : PI X tg iter wi) (ok : BlkOk X.N X.env.scope scope own) (hv : ∀ i ∈ vs1, i ∈ own.map (·.2))
    (hg : ∀ (s : Shared) (H : Hp) (C : Addr) (cl : List (Str × Addr)) (fp : List Addr), PG (X.blk s H scope (compEnvC scope cl C X.env) fp) tg g) (ht : ∀ (s : Shared) (H : Hp) (C : Addr) (cl : List (Str × Addr)) (fp : List Addr), PTs (X.blk s H scope (compEnvC scope cl C X.env) fp) ifs tt)
    (hs : ∀ x, foldedSetIterable iter X.env x = pure x)
    (hi1 : ∀ (s : Shared) (H : Hp) (C : Addr) (cl : List (Str × Addr)) (fp : List Addr), PI (X.blk s H scope (compEnvC scope cl C X.env) fp) tg1 iter1 wi1)
    (hg1 : ∀ (s : Shared) (H : Hp) (C : Addr) (cl : List (Str × Addr)) (fp : List Addr), PG (X.blk s H scope (compEnvC scope cl C X.env) fp) tg1 g1)
    (ht1 : ∀ (s : Shared) (H : Hp) (C : Addr) (cl : List (Str × Addr)) (fp : List Addr), PTs (X.blk s H scope (compEnvC scope cl C X.env) fp) ifs1 tt1)
    (hk : ∀ (s : Shared) (H : Hp) (C : Addr) (cl : List (Str × Addr)) (fp : List Addr), PE (X.blk s H scope (compEnvC scope cl C X.env) fp) kx tk)
    (he : ∀ (s : Shared) (H : Hp) (C : Addr) (cl : List (Str × Addr)) (fp : List Addr), PE (X.blk s H scope (compEnvC scope cl C X.env) fp) vx tv)
    (hs1 : ∀ env x, foldedSetIterable iter1 env x = pure x)
    (h : tDc2 o0 wi g tt wi1 g1 tt1 tk tv (own.map (·.2)) vs1 σ H Q)
    (hRR : ∀ D C s' m H', Inv X pins σ H' s' → Q (.ref D) H' → s'.heap.Ns C m → FpOk X pins H' C → compPost (model X.prog X.w) X.A X.xe use Qf (.ref D) C (.ok .next) s') :
    wpAny (model X.prog X.w) X.A (comprehension (.DictComp kx vx [⟨tg, iter, ifs, 0⟩, ⟨tg1, iter1, ifs1, 0⟩] scope pos) scope X.env pos' newDict false (eval iter X.env) use) Qf X.xe s := by
  have free : ∀ y ∈ scope.names, y.2 = .free → ∃ c, X.env.cells.lookup y.1 = some c := fun y hy e => (ok.free y hy e).elim (fun k => I.ok.has _ (.inl k)) fun k => I.ok.has _ (.inr k)
  refine wpAny_comprehension_free (use := use) rfl hs (closure_ok free) ok.kind (fun y hy e => by rw [ok.uniq y hy, e]) (thn (hi.run pins s σ H _ I h) fun xv s1 hx => thn hx fun itv s2 h2 => ?_)
  obtain ⟨it, fp, tn, J, H2, e, I2, T, st2, f2, q⟩ := h2
  subst e
  refine wpAny_newObj_type (newEnv_comp ?_)
  generalize hD : s2.heap.objs.size = D
  obtain ⟨W, ⟨m0, w0⟩, turn⟩ := q D (I2.hok.fresh (Nat.le_of_eq hD))
  generalize hs3 : ({ s2 with heap := s2.heap.push { cls := .type "dict", data := .dict #[] } } : Shared) = s3
  have I3 : Inv X pins σ (upd H2 D o0) s3 := by
    rw [← hs3]
    refine I2.laid (t' := s2.toks) (fun b o e => Heap.get?_push_of_some _ e) (Nat.le_of_eq hD) ?_
    rw [← hD]
    exact nw s2.heap I2.big
  have h3 : s3.heap = s2.heap.push { cls := .type "dict", data := .dict #[] } := by rw [← hs3]
  have f3 : ∀ b ∈ fp, FpOk X pins (upd H2 D o0) b ∧ b < s3.heap.objs.size := fun b hb => by
    have lt : b < s2.heap.objs.size := (T.obj _ _ st2 b hb).elim fun _ z => Heap.lt_size z.1
    refine ⟨⟨(upd_ne (by rw [← hD]; exact Nat.ne_of_lt lt)).trans (f2 b hb).1, (f2 b hb).2⟩, by rw [h3, Heap.size_push]; exact Nat.lt_succ_of_lt lt⟩
  have st3 : tn 0 s3.heap := T.keep _ _ _ st2 fun b _ o e => by rw [h3]; exact Heap.get?_push_of_some _ e
  have I4 := block_start I3 ok hN f3
  generalize hcl : cellsFrom (s3.heap.objs.size + 1) scope.names (cloFrom X.env.cells scope.names []) = cl at I4 ⊢
  have pg := hg s3 (upd H2 D o0) s3.heap.objs.size cl fp
  have pt := ht s3 (upd H2 D o0) s3.heap.objs.size cl fp
  have pk := hk s3 (upd H2 D o0) s3.heap.objs.size cl fp
  have pe := he s3 (upd H2 D o0) s3.heap.objs.size cl fp
  have pi1 := hi1 s3 (upd H2 D o0) s3.heap.objs.size cl fp
  have pg1 := hg1 s3 (upd H2 D o0) s3.heap.objs.size cl fp
  have pt1 := ht1 s3 (upd H2 D o0) s3.heap.objs.size cl fp
  show codeAny _ _ (.compStart (.DictComp kx vx [⟨tg, iter, ifs, 0⟩, ⟨tg1, iter1, ifs1, 0⟩] scope pos) 0 (.ref it) (.ref D) (compEnvC scope cl s3.heap.objs.size X.env)) (compPost (model X.prog X.w) X.A X.xe use Qf (.ref D) s3.heap.objs.size) { s3 with heap := pushCells (s3.heap.push { cls := .type "dict", data := .dict #[] }) scope.names }
  have nfp : ∀ b ∈ fp, (upd H2 D o0) b = none := fun b hb => (f3 b hb).1.1
  generalize hce : compEnvC scope cl s3.heap.objs.size X.env = ce at I4 pg pt pk pe pi1 pg1 pt1 ⊢
  have cL : ce.locals = s3.heap.objs.size := by subst hce; rfl
  generalize hH3 : upd H2 D o0 = H3 at I3 I4 pg pt pk pe pi1 pg1 pt1 w0 nfp f3
  generalize hs4 : ({ s3 with heap := pushCells (s3.heap.push { cls := .type "dict", data := .dict #[] }) scope.names } : Shared) = s4 at I4 ⊢
  have st4 : tn 0 s4.heap := T.keep _ _ _ st3 fun b _ o e => by rw [← hs4]; exact pushCells_keeps _ _ _ _ (Heap.get?_push_of_some _ e)
  generalize hY : X.blk s3 H3 scope ce fp = Y at I4 pg pt pk pe pi1 pg1 pt1
  have yA : Y.A = X.A := by rw [← hY]
  have yP : Y.prog = X.prog := by rw [← hY]
  have yW : Y.w = X.w := by rw [← hY]
  have yK : Y.K = X.K := by rw [← hY]
  have yc : Y.calm = true := by rw [← hY]; exact hc
  have yx : Y.xe = fun _ _ => False := by rw [← hY]
  have ye : Y.env = ce := by rw [← hY]
  have yex : Y.ex = fp := by rw [← hY]
  have ypn : Y.pn = [] := by rw [← hY]
  have stat : ∀ {σ' : St} {H' : Hp} {s' : Shared}, Inv Y [] σ' H' s' → (∀ b ∈ fp, H' b = none) → ∀ b ∈ fp, FpOk Y [] H' b := fun {σ' H' s'} I' hn b hb =>
    ⟨hn b hb, (I'.ok.exf b (by rw [yex]; exact hb)).1, I'.ok.exfs b (by rw [yex]; exact hb), .inl (by rw [yex]; exact hb), fun x c e => (I'.ok.exf b (by rw [yex]; exact hb)).2 x c e, fun p hp => by rw [ypn] at hp; cases hp⟩
  have loop : codeAny (model X.prog X.w) X.A (.compLoop (.DictComp kx vx [⟨tg, iter, ifs, 0⟩, ⟨tg1, iter1, ifs1, 0⟩] scope pos) 0 (.ref it) (.ref D) ce) (compPost (model X.prog X.w) X.A X.xe use Qf (.ref D) s3.heap.objs.size) s4 := by
    subst hY
    refine dLoop0 (hs1 ce) (fun n s' => ∃ i H', Inv (X.blk s3 H3 scope ce fp) [] (wipe σ (own.map (·.2))) H' s' ∧ tn i s'.heap ∧ (∀ b ∈ fp, H' b = none) ∧ W i n H') ?_ m0 ⟨0, H3, I4, st4, nfp, w0⟩
    rintro n s5 ⟨i, H5, I5, st5, n5, w5⟩
    rcases turn i n H5 w5 with ⟨stop, qq⟩ | ⟨go, Nx, hNx, step⟩
    · refine thnF (T.done (X.blk s3 H3 scope ce fp) rfl rfl rfl hc i [] s5 _ H5 (fun _ _ => False) I5 (stat I5 n5) st5 stop) fun r s6 ⟨hr, I6⟩ => ?_
      subst hr
      have I7 : Inv X pins σ H5 s6 := I3.call' (ch := fp) I6.os I6.base I6.hok I6.bare fun b hb => ⟨(f3 b hb).1.2.2.2.1, (f3 b hb).1.2.1, (f3 b hb).1.2.2.2.2.1, (f3 b hb).1.2.2.2.2.2⟩
      obtain ⟨m, hn, _⟩ := I6.loc
      exact hRR D s3.heap.objs.size s6 m H5 I7 qq (cL ▸ hn) (I3.fpOk (Nat.le_refl _) (cL ▸ I6.free))
    · refine thnF (T.item (X.blk s3 H3 scope ce fp) rfl rfl rfl hc i [] s5 _ H5 (fun _ _ => False) I5 (stat I5 n5) st5 go) fun r s6 ⟨u, hr, h6⟩ => ?_
      subst hr
      refine thnF h6 fun _ s7 ⟨x, H7, I7, r7, y7, st7, n7⟩ => ?_
      refine thnF (pg.run _ s7 _ H7 x u _ (I7.pinned (stat I7 n7) (T.obj _ _ st7)) r7 (step x H7 y7)) fun _ s8 ⟨σ8, H8, I8, hw8, q8⟩ => ?_
      refine thnF (pt.run _ s8 σ8 H8 _ I8 q8) fun b s9 ⟨H9, I9, q9⟩ => ?_
      have fin : ∀ {σ9 : St} {s' : Shared} {H' : Hp}, Inv (X.blk s3 H3 scope ce fp) ([] ++ pinsAt fp s7.heap) σ9 H' s' → (wipe σ (own.map (·.2))).length = σ9.length → (∀ (j : Nat) v, (wipe σ (own.map (·.2)))[j]? = some (some v) → σ9[j]? = some (some v)) → Nx H' →
          ∃ m, m < n ∧ ∃ i H', Inv (X.blk s3 H3 scope ce fp) [] (wipe σ (own.map (·.2))) H' s' ∧ tn i s'.heap ∧ (∀ b ∈ fp, H' b = none) ∧ W i m H' := fun {σ9 s' H'} I' hl hk nx => by
        obtain ⟨m', hm, w'⟩ := hNx H' nx
        have pin' : ∀ b ∈ fp, ∀ o, s7.heap.get? b = some o → s'.heap.get? b = some o ∧ H' b = none := fun b hb o e =>
          have z := I'.pin (b, o) (List.mem_append_right _ (List.mem_append_right _ (mem_pinsAt hb e)))
          ⟨z.1, z.2.1⟩
        exact ⟨m', hm, i + 1, H', (I'.unpinned (pins := [])).weak hl hk, T.keep _ _ _ st7 fun b hb o e => (pin' b hb o e).1, fun b hb => (T.obj _ _ st7 b hb).elim fun o e => (pin' b hb o e.1).2, w'⟩
      have hl8 : (wipe σ (own.map (·.2))).length = σ8.length := by rw [← hw8, wipe_length]
      have hk8 : ∀ (j : Nat) v, (wipe σ (own.map (·.2)))[j]? = some (some v) → σ8[j]? = some (some v) := fun j v e => (wipe_some (hw8 ▸ e)).1
      have hk9 : ∀ (j : Nat) v, (wipe σ (own.map (·.2)))[j]? = some (some v) → (wipe σ8 vs1)[j]? = some (some v) := fun j v e => by
        obtain ⟨e1, e2⟩ := wipe_some (hw8 ▸ e)
        exact (wipe_out fun z => e2 (hv j z)).trans e1
      cases b with
      | false =>
        simp only [Bool.false_eq_true, if_false] at q9 ⊢
        exact fin I9 hl8 hk8 q9
      | true =>
        simp only [if_true] at q9 ⊢
        refine thnF (pi1.run _ s9 σ8 H9 _ I9 q9) fun xv s10 hx => thnF hx fun itv s11 h11 => ?_
        obtain ⟨it1, fp1, tn1, J1, H11, e1, I11, T1, st11, f11, W1, ⟨m1, w1⟩, turn1⟩ := h11
        subst e1
        have stat1 : ∀ {H' : Hp}, (∀ b ∈ fp1, H' b = none) → ∀ b ∈ fp1, FpOk (X.blk s3 H3 scope ce fp) ([] ++ pinsAt fp s7.heap) H' b := fun hn b hb => ⟨hn b hb, (f11 b hb).2⟩
        have loop1 : codeAny (model X.prog X.w) X.A (.compLoop (.DictComp kx vx [⟨tg, iter, ifs, 0⟩, ⟨tg1, iter1, ifs1, 0⟩] scope pos) 1 (.ref it1) (.ref D) ce)
            (fun r s' => match r with
              | .ok _ => ∃ m, m < n ∧ ∃ i H', Inv (X.blk s3 H3 scope ce fp) [] (wipe σ (own.map (·.2))) H' s' ∧ tn i s'.heap ∧ (∀ b ∈ fp, H' b = none) ∧ W i m H'
              | .error _ => False) s11 := by
          refine dLoop1 (fun k s' => ∃ j H', Inv (X.blk s3 H3 scope ce fp) ([] ++ pinsAt fp s7.heap) (wipe σ8 vs1) H' s' ∧ tn1 j s'.heap ∧ (∀ b ∈ fp1, H' b = none) ∧ W1 j k H') ?_ m1 ⟨0, H11, I11.weak (wipe_length _ _) (fun j v e => (wipe_some e).1), st11, fun b hb => (f11 b hb).1, w1⟩
          rintro k s12 ⟨j, H12, I12, st12, n12, w12⟩
          rcases turn1 j k H12 w12 with ⟨stop1, nx1⟩ | ⟨go1, Nx1, hNx1, step1⟩
          · refine thnF (T1.done (X.blk s3 H3 scope ce fp) rfl rfl rfl hc j _ s12 (wipe σ8 vs1) H12 (fun _ _ => False) I12 (stat1 n12) st12 stop1) fun r s13 ⟨hr, I13⟩ => ?_
            subst hr
            exact fin I13 (hl8.trans (wipe_length σ8 vs1).symm) hk9 nx1
          · refine thnF (T1.item (X.blk s3 H3 scope ce fp) rfl rfl rfl hc j _ s12 (wipe σ8 vs1) H12 (fun _ _ => False) I12 (stat1 n12) st12 go1) fun r s13 ⟨u1, hr, h13⟩ => ?_
            subst hr
            refine thnF h13 fun _ s14 ⟨x1, H14, I14, r14, y14, st14, n14⟩ => ?_
            refine thnF (pg1.run _ s14 (wipe σ8 vs1) H14 x1 u1 _ (I14.pinned (stat1 n14) (T1.obj _ _ st14)) r14 (step1 x1 H14 y14)) fun _ s15 ⟨σ15, H15, I15, hw15, q15⟩ => ?_
            refine thnF (pt1.run _ s15 σ15 H15 _ I15 q15) fun b1 s16 ⟨H16, I16, q16⟩ => ?_
            have fin1 : ∀ {s' : Shared} {H' : Hp}, Inv (X.blk s3 H3 scope ce fp) (([] ++ pinsAt fp s7.heap) ++ pinsAt fp1 s14.heap) σ15 H' s' → Nx1 H' → ∃ m, m < k ∧ ∃ j H', Inv (X.blk s3 H3 scope ce fp) ([] ++ pinsAt fp s7.heap) (wipe σ8 vs1) H' s' ∧ tn1 j s'.heap ∧ (∀ b ∈ fp1, H' b = none) ∧ W1 j m H' := fun {s' H'} I' nx => by
              obtain ⟨m', hm, w'⟩ := hNx1 H' nx
              have pin' : ∀ b ∈ fp1, ∀ o, s14.heap.get? b = some o → s'.heap.get? b = some o ∧ H' b = none := fun b hb o e =>
                have z := I'.pin (b, o) (List.mem_append_right _ (List.mem_append_right _ (mem_pinsAt hb e)))
                ⟨z.1, z.2.1⟩
              exact ⟨m', hm, j + 1, H', I'.unpinned.weak (by rw [← hw15, wipe_length]) (fun j v e => (wipe_some (hw15 ▸ e)).1), T1.keep _ _ _ st14 fun b hb o e => (pin' b hb o e).1, fun b hb => (T1.obj _ _ st14 b hb).elim fun o e => (pin' b hb o e.1).2, w'⟩
            cases b1 with
            | false =>
              simp only [Bool.false_eq_true, if_false] at q16 ⊢
              exact fin1 I16 q16
            | true =>
              simp only [if_true] at q16 ⊢
              refine thnF (pk.run _ s16 σ15 H16 _ I16 q16) fun z s17 ⟨yk, H17, I17, r17, q17⟩ => ?_
              refine thnF (pe.run _ s17 σ15 H17 _ I17 q17) fun z2 s18 ⟨yv, H18, I18, r18, H19, hput, nx⟩ => ?_
              exact put_ok (X := X.blk s3 H3 scope ce fp) hu I18 hput r17 r18 fun s19 I19 => fin1 I19 nx
        exact dStart1 loop1 (T1.self X.A 0 _ _ _ st11 loop1)
  exact codeAny_compStart_dict loop (T.self X.A 0 _ _ _ st4 loop)
theorem pe_dc2 {kx vx tg iter tg1 iter1 : Expr} {ifs ifs1 : List Expr} {scope : Scope} {own : List (Str × Nat)} {vs1 : List Nat} {pos : Pos} {o0 : HO} {wi wi1 : TI} {g g1 : TG} {tt tt1 : TT} {tk tv : TE} (hu : X.A.units + 1 < cLine) (nw : NewD o0) (hc : X.calm = true) (hN : X.N.Nodup) (hi : PI X tg iter wi) (ok : BlkOk X.N X.env.scope scope own) (hv : ∀ i ∈ vs1, i ∈ own.map (·.2))
    (hg : ∀ (s : Shared) (H : Hp) (C : Addr) (cl : List (Str × Addr)) (fp : List Addr), PG (X.blk s H scope (compEnvC scope cl C X.env) fp) tg g) (ht : ∀ (s : Shared) (H : Hp) (C : Addr) (cl : List (Str × Addr)) (fp : List Addr), PTs (X.blk s H scope (compEnvC scope cl C X.env) fp) ifs tt)
    (hi1 : ∀ (s : Shared) (H : Hp) (C : Addr) (cl : List (Str × Addr)) (fp : List Addr), PI (X.blk s H scope (compEnvC scope cl C X.env) fp) tg1 iter1 wi1)
    (hg1 : ∀ (s : Shared) (H : Hp) (C : Addr) (cl : List (Str × Addr)) (fp : List Addr), PG (X.blk s H scope (compEnvC scope cl C X.env) fp) tg1 g1)
    (ht1 : ∀ (s : Shared) (H : Hp) (C : Addr) (cl : List (Str × Addr)) (fp : List Addr), PTs (X.blk s H scope (compEnvC scope cl C X.env) fp) ifs1 tt1)
    (hk : ∀ (s : Shared) (H : Hp) (C : Addr) (cl : List (Str × Addr)) (fp : List Addr), PE (X.blk s H scope (compEnvC scope cl C X.env) fp) kx tk)
    (he : ∀ (s : Shared) (H : Hp) (C : Addr) (cl : List (Str × Addr)) (fp : List Addr), PE (X.blk s H scope (compEnvC scope cl C X.env) fp) vx tv)
    (hs : ∀ x, foldedSetIterable iter X.env x = pure x := by intro _; rfl) (hs1 : ∀ env x, foldedSetIterable iter1 env x = pure x := by intro _ _; rfl) :
    PE X (.DictComp kx vx [⟨tg, iter, ifs, 0⟩, ⟨tg1, iter1, ifs1, 0⟩] scope pos) (tDc2 o0 wi g tt wi1 g1 tt1 tk tv (own.map (·.2)) vs1) := by
  refine ⟨fun pins s σ H Q I h => ?_⟩
  rw [arm_eval_DictComp]
  refine dc2_core hu nw hc hN I hi ok hv hg ht hs hi1 hg1 ht1 hk he hs1 h fun D C s' m H' I' q hn f => ⟨m, hn, fun h'' sb => ?_⟩
  obtain ⟨f0, f1, f2, f3, f4, f5⟩ := f
  exact ⟨.ref D, H', I'.turned (t' := s'.toks) (fun b o hb e => (sb.2 b hb).trans e) f0 f1 f3 f4 f5, rfl, q⟩
end
end L2.Dx

set_option Elab.async false
set_option linter.all false
set_option maxRecDepth 100000
set_option maxHeartbeats 4000000
namespace L2.Dx
open PySem PySem.Spec PyProof.Rows L2
theorem swd_true {kx vx : Expr} {gs : List Comprehension} {scope : Scope} {pos py : Pos} {y : Str} {l : Nat} {env : Env} (hk : env.scope.kind = .function) (hy : env.scope.names.lookup y = some .local) (hl : (py.line == pos.line) = true)
    (ha : (scope.names.any fun (n, k) => n == y && (k == .local || k == .cell)) = false) : swapsWith (.DictComp kx vx gs scope pos) (some (.Name y py)) l env = pure true := by
  have e1 : env.kindOf y = some .local := hy
  have e2 : env.blockKind = .function := by
    unfold Env.blockKind
    rw [hk]
    rfl
  unfold swapsWith
  simp only [e2, e1, ha, Expr.pos, hl]
  rfl
section
variable {X : Cx}
/-- y = {kx: vx for ..}: the new dict is stored where the comprehension ends -/
theorem ps_setDc {i : Nat} {y : Str} {py : Pos} {kx vx tg iter : Expr} {ifs : List Expr} {scope : Scope} {own : List (Str × Nat)} {pos spos : Pos} {wi : TI} {g : TG} {tt : TT} {tk tv : TE} (hc : X.calm = true) (hN : X.N.Nodup) (hy : X.N[i]? = some y) (hyl : X.env.scope.names.lookup y = some .local)
    (hsw : swapsWith (.DictComp kx vx [⟨tg, iter, ifs, 0⟩] scope pos) (some (.Name y py)) spos.line X.env = pure true) (hi : PI X tg iter wi) (ok : BlkOk X.N X.env.scope scope own)
    (hg : ∀ (s : Shared) (H : Hp) (C : Addr) (cl : List (Str × Addr)) (fp : List Addr), PG (X.blk s H scope (compEnvC scope cl C X.env) fp) tg g) (ht : ∀ (s : Shared) (H : Hp) (C : Addr) (cl : List (Str × Addr)) (fp : List Addr), PTs (X.blk s H scope (compEnvC scope cl C X.env) fp) ifs tt)
    (hk : ∀ (s : Shared) (H : Hp) (C : Addr) (cl : List (Str × Addr)) (fp : List Addr), PE (X.blk s H scope (compEnvC scope cl C X.env) fp) kx tk)
    (he : ∀ (s : Shared) (H : Hp) (C : Addr) (cl : List (Str × Addr)) (fp : List Addr), PE (X.blk s H scope (compEnvC scope cl C X.env) fp) vx tv) (hs : ∀ x, foldedSetIterable iter X.env x = pure x := by intro _; rfl) :
    PS X (.Assign [.Name y py] (.DictComp kx vx [⟨tg, iter, ifs, 0⟩] scope pos) spos) (tAsg (tDc wi g tt tk tv (own.map (·.2))) (gName i)) := by
  refine ⟨fun pins s σ H D I h => ?_⟩
  rw [exec_Assign_Name_used _ _ _ _ hsw]
  refine wpAny_bind (wpAny_standAt (wpAny_bind ?_))
  show wpAny _ X.A (do let _ ← comprehension (.DictComp kx vx [⟨tg, iter, ifs, 0⟩] scope pos) scope X.env (firstIterPos [⟨tg, iter, ifs, 0⟩] pos) newDict false (eval iter X.env) (some (assign (.Name y py) X.env))) _ _ s
  have h : tDc wi g tt tk tv (own.map (·.2)) σ H (fun x H1 => gName i x σ H1 D.nx) := h
  refine wpAny_bind (thn (dc_core (Qf := fun _ s' => SP X pins D .next s') hc hN I hi ok hg ht hk he hs h fun L C s' m H' I' q hn f => ?_) fun _ s' hq => wpAny_pure (wpAny_pure hq))
  show wpAny _ _ (assign (.Name y py) X.env (.ref L)) _ _ _
  refine wpAny_assign_Name (store_ok2 (v := V.ref L) I' hN hy (.inl hyl) rfl (fun s2 I2 ⟨a, sb, ha⟩ => ?_) (.inr hyl))
  obtain ⟨f0, f1, f2, f3, f4, f5⟩ := f
  have other : C ≠ a := ha.elim (fun z => by rw [z]; exact f1) fun z e => f4 y a z e.symm
  exact ⟨m, hn.sameBut sb other, fun h3 sb3 => ⟨_, H', I2.turned (t' := s2.toks) (fun b o hb e => (sb3.2 b hb).trans e) f0 f1 f3 f4 f5, q⟩⟩
end
end L2.Dx

set_option Elab.async false
set_option linter.all false
set_option maxRecDepth 100000
set_option maxHeartbeats 4000000
namespace L2.Dx
open PySem PySem.Spec PyProof.Rows L2
/-! rules that name the written part, for blocks of comprehensions: the block's is the def's -/
section
variable {X : Cx} {K : PySem.W.Frag} (hK : X.K = K)
include hK
theorem ix_listK : IxR X (rIxL K) := by subst hK; exact ix_list
theorem ix_tupK : IxR X (rIxT K) := by subst hK; exact ix_tup
theorem sl_listK : SlR X (rSlL K) := by subst hK; exact sl_list
theorem pi_listK {tg l : Expr} {tl : TE} (h : PE X l tl) : PI X tg l (iList K tl) := by subst hK; exact pi_list h
theorem pg_tupK {es : List Expr} {k : Nat} {pos : Pos} {t : TGs} (n : Nat) (hc : X.calm = true) (h : PGs X es t) (hn : (assignEach es X.env).length = n := by rfl) (hst : (assignEach es X.env).findIdx? (·.1) = none := by rfl) :
    PG X (.Tuple es k pos) (gTup K n t) := by subst hK; exact pg_tup hc h hn hst
theorem op_in_seqK : OpR X (compareOp .In) (rIn K false) := by subst hK; exact op_in_seq
theorem op_notIn_seqK : OpR X (compareOp .NotIn) (rIn K true) := by subst hK; exact op_notIn_seq
theorem call_len_seqK : CallR X (.builtin "len") (fun xs H Q => ∃ p ys, xs = [.ref p] ∧ (SqL K H p ys ∨ SqT K H p ys) ∧ Q (.int ys.length) H) := by subst hK; exact call_len_seq
theorem call_isiK' : CallR X (.builtin "isinstance") (rIsi K) := by subst hK; exact call_isi
theorem pi_enumK {e : Expr} {ta : TA} {p pos tpos : Pos} {elts : List Expr} {kk : Nat} (hg : Gl X "enumerate") (hm : X.mg "enumerate" = none) (ha : PA X [e] ta) (hs : starEach [e] X.env = [(false, eval e X.env)] := by rfl) :
    PI X (.Tuple elts kk tpos) (.Call (.Name "enumerate" p) [e] [] pos) (iEnum K ta) := by subst hK; exact pi_enum hg hm ha hs
theorem pi_enumSK {e : Expr} {ta : TA} {p pos tpos p2 kp : Pos} {elts : List Expr} {kk : Nat} {k : Int} {j : Nat} (k0 : -(2 ^ 63) ≤ k) (k1 : k < 2 ^ 63) (hg : Gl X "enumerate") (hm : X.mg "enumerate" = none) (ha : PA X [e] ta)
    (hs : starEach [e] X.env = [(false, eval e X.env)] := by rfl) : PI X (.Tuple elts kk tpos) (.Call (.Name "enumerate" p) [e] [⟨some (Str.ofString "start"), .Constant (.int k) j p2, kp⟩] pos) (iEnumS K k ta) := by subst hK; exact pi_enumS k0 k1 hg hm ha hs
theorem op_eqDK (hu : X.A.units + 64 < cLine) : OpR X (compareOp .Eq) (rEqD K) := by subst hK; exact op_eqD hu
theorem op_neDK (hu : X.A.units + 64 < cLine) : OpR X (compareOp .NotEq) (rNeD K) := by subst hK; exact op_neD hu
end
end L2.Dx

set_option Elab.async false
set_option linter.all false
set_option maxRecDepth 100000
set_option maxHeartbeats 4000000
namespace L2.Dx
open PySem PySem.Spec PyProof.Rows L2
section
variable {X : Cx} {K : PySem.W.Frag}
variable {o e : Expr} {es : List Expr} {to : TE} {t : TA} {name : Str} {apos cpos : Pos} {T id : String} {r : V → List V → Hp → VK → Prop}
theorem pe_bm0K (hK : X.K = K) (pa : PlainAttrs T) (slot : Slot T name id) (hty : typeOf (.builtin id) = pure (.type "method_descriptor")) (hm : MtR X id r) (ho : PE X o to)
    (hbase : attributeBase o name X.env (eval o X.env) = eval o X.env := by rfl) (hline : (apos.endLine == cpos.line) = true := by rfl) : PE X (.Call (.Attribute o name apos) [] [] cpos) (tBM0 K T r to) := by
  subst hK
  exact pe_bm0 pa slot hty hm ho hbase hline
theorem pe_bmK (hK : X.K = K) (pa : PlainAttrs T) (slot : Slot T name id) (hty : typeOf (.builtin id) = pure (.type "method_descriptor")) (hm : MtR X id r) (ho : PE X o to) (ha : PA X (e :: es) t)
    (hbase : attributeBase o name X.env (eval o X.env) = eval o X.env := by rfl)
    (hfew : ((backTo cpos (starEach (e :: es) X.env)).all (fun x => !x.1) && (backToKw cpos (keywordEach [] X.env)).all (fun x => x.1.isSome)
      && decide ((e :: es).length + ([] : List Keyword).length + (if ([] : List Keyword).isEmpty then 0 else 1) < 30)) = true := by rfl)
    (hline : (apos.endLine == cpos.line) = true := by rfl) (hs : starEach (e :: es) X.env = (false, eval e X.env) :: starEach es X.env := by rfl) (hplain : (backTo cpos (starEach es X.env)).any (·.1) = false := by rfl) :
    PE X (.Call (.Attribute o name apos) (e :: es) [] cpos) (tBM K T r to t) := by
  subst hK
  exact pe_bm pa slot hty hm ho ha hbase hfew hline hs hplain
end
end L2.Dx

set_option Elab.async false
set_option linter.all false
set_option maxRecDepth 100000
set_option maxHeartbeats 4000000
namespace Kx
open PySem PySem.Spec PyProof.Rows L2
/-- ** of ints of any size that the model takes -/
def CPowW (i j : Int) : Prop := 0 ≤ j ∧ (Builtin.Int.intBits i : Int) * j ≤ 2 ^ 27
section
variable {X : Cx}
theorem op_powW : OpR X (binaryOp .Pow) (rI CPowW fun i j => .int (i ^ j.toNat)) := opI fun _ _ _ _ _ _ _ hc q => pow_int hc.1 hc.2 q
end
theorem bits_lt {i : Int} {b : Nat} (h0 : 0 < b) (h : i.natAbs < 2 ^ b) : Builtin.Int.intBits i ≤ b := by
  have := PySem.Flt.log2_lt_of h0 h
  unfold Builtin.Int.intBits
  split <;> omega
theorem wide_pow {i j : Int} {b : Nat} (h0 : 0 < b) (h : i.natAbs < 2 ^ b) (hj : 0 ≤ j) (hb : (b : Int) * j ≤ 2 ^ 27) : CPowW i j := by
  refine ⟨hj, Int.le_trans (Int.mul_le_mul_of_nonneg_right (Int.ofNat_le.mpr (bits_lt h0 h)) hj) hb⟩
/-- H' is H but for what stands at the addresses of S -/
def But (S : List Addr) (H H' : Hp) : Prop := ∀ b x, b ∉ S → H b = some x → H' b = some x
theorem But.refl (S : List Addr) (H : Hp) : But S H H := fun _ _ _ e => e
theorem But.trans {S : List Addr} {H H' H'' : Hp} (a : But S H H') (b : But S H' H'') : But S H H'' := fun c x hc e => b c x hc (a c x hc e)
theorem But.mono {S T : List Addr} {H H' : Hp} (a : But S H H') (h : ∀ b ∈ S, b ∈ T) : But T H H' := fun c x hc e => a c x (fun z => hc (h c z)) e
theorem But.same {S : List Addr} {H H' : Hp} (a : Same H H') : But S H H' := fun c x _ e => a c x e
theorem But.put {S : List Addr} {H : Hp} {a : Addr} {o : HO} (h : a ∈ S) : But S H (upd H a o) := fun c x hc e => by
  rw [upd_ne (fun z => hc (by rw [z]; exact h))]
  exact e
theorem But.new {S : List Addr} {H : Hp} {a : Addr} {o : HO} (h : H a = none) : But S H (upd H a o) := fun c x _ e => by
  rw [upd_ne (ne_of_none e h)]
  exact e
end Kx

set_option Elab.async false
set_option linter.all false
set_option maxRecDepth 100000
set_option maxHeartbeats 4000000
namespace KA
open PySem PySem.Spec PyProof.Rows L2 L2.Dx
/-! ### names, nodes -/
abbrev ltS (a b : Str) : Prop := a.cps.toList < b.cps.toList
structure NameOk (z : Str) : Prop where
  lo : 1 ≤ z.length
  hi : z.length ≤ 8
  az : ∀ c ∈ z.cps.toList, 97 ≤ c ∧ c ≤ 122
structure NodesOk (ns : List Str) : Prop where
  lo : 2 ≤ ns.length
  hi : ns.length ≤ 12
  nm : ∀ z ∈ ns, NameOk z
  asc : ns.Pairwise ltS
theorem ltS_irrefl (a : Str) : ¬ ltS a a := List.lt_irrefl _
theorem NodesOk.nodup {ns : List Str} (h : NodesOk ns) : ns.Nodup := h.asc.imp (S := fun a b => a ≠ b) fun {a b} l (e : a = b) => ltS_irrefl b (by rw [e] at l; exact l)
theorem empty_lt {z : Str} (h : NameOk z) : ltS ("" : Str) z := by
  have := h.lo
  obtain ⟨⟨l⟩⟩ := z
  cases l with
  | nil => simp [Str.length] at this
  | cons a r => exact .nil
/-! ### texts of small letters -/
theorem alpha_az {c : Nat} (h : 97 ≤ c ∧ c ≤ 122) : Unicode.isAlpha c = true := by
  have k : (List.range 26).all (fun i => Unicode.isAlpha (97 + i)) = true := by decide +kernel
  rw [List.all_eq_true] at k
  have := k (c - 97) (List.mem_range.mpr (by omega))
  rwa [show 97 + (c - 97) = c by omega] at this
theorem lower_az {c : Nat} (h : 97 ≤ c ∧ c ≤ 122) : Unicode.isLower c = true ∧ (Unicode.isUpper c || Unicode.isTitle c) = false := by
  have k : (List.range 26).all (fun i => Unicode.isLower (97 + i) && !(Unicode.isUpper (97 + i) || Unicode.isTitle (97 + i))) = true := by decide +kernel
  rw [List.all_eq_true] at k
  have := k (c - 97) (List.mem_range.mpr (by omega))
  rw [show 97 + (c - 97) = c by omega] at this
  simpa using this
theorem az_text {z : Str} (h0 : 1 ≤ z.length) (h : ∀ c ∈ z.cps.toList, 97 ≤ c ∧ c ≤ 122) : Txt.isascii z = true ∧ Txt.isalpha z = true ∧ Txt.islower z = true := by
  obtain ⟨⟨l⟩⟩ := z
  refine ⟨?_, ?_, ?_⟩
  · show l.toArray.all (· < 128) = true
    simp only [List.all_toArray, List.all_eq_true, decide_eq_true_eq]
    intro c hc
    have := h c hc
    omega
  · show (decide (l.toArray.size > 0) && l.toArray.all Unicode.isAlpha) = true
    rw [Bool.and_eq_true, decide_eq_true_eq]
    refine ⟨h0, ?_⟩
    simp only [List.all_toArray, List.all_eq_true]
    exact fun c hc => alpha_az (h c hc)
  · show (l.toArray.any Unicode.isLower && !l.toArray.any fun c => Unicode.isUpper c || Unicode.isTitle c) = true
    simp only [List.any_toArray, Bool.and_eq_true, List.any_eq_true, Bool.not_eq_true', List.any_eq_false]
    cases l with
    | nil => simp [Str.length] at h0
    | cons a r =>
      refine ⟨⟨a, List.mem_cons_self, (lower_az (h a List.mem_cons_self)).1⟩, fun c hc => ?_⟩
      rw [(lower_az (h c hc)).2]
      simp
theorem join_mem {c : Nat} : ∀ {zs : List Str}, c ∈ (Str.join ("" : Str) zs).cps.toList → ∃ z ∈ zs, c ∈ z.cps.toList
  | [], h => by cases h
  | [x], h => ⟨x, List.mem_cons_self, h⟩
  | x :: y :: r, h => by
    have h : c ∈ ((x ++ ("" : Str)) ++ Str.join ("" : Str) (y :: r)).cps.toList := h
    rw [show ((x ++ ("" : Str)) ++ Str.join ("" : Str) (y :: r)).cps = (x.cps ++ ("" : Str).cps) ++ (Str.join ("" : Str) (y :: r)).cps from rfl] at h
    simp only [Array.toList_append, List.mem_append] at h
    rcases h with (h | h) | h
    · exact ⟨x, List.mem_cons_self, h⟩
    · cases h
    · obtain ⟨z, hz, hc⟩ := join_mem h
      exact ⟨z, List.mem_cons_of_mem _ hz, hc⟩
theorem join_len {x : Str} : ∀ {zs : List Str}, x ∈ zs → x.length ≤ (Str.join ("" : Str) zs).length
  | [y], h => by cases List.mem_singleton.mp h; exact Nat.le_refl _
  | y :: z :: r, h => by
    show x.length ≤ ((y ++ ("" : Str)) ++ Str.join ("" : Str) (z :: r)).length
    rw [Str.length_append, Str.length_append]
    rcases List.mem_cons.mp h with rfl | h
    · omega
    · have := join_len h
      omega
theorem sum_len : ∀ (zs : List Str), (∀ z ∈ zs, z.length ≤ 8) → (zs.map (·.length)).sum ≤ 8 * zs.length
  | [], _ => Nat.le_refl _
  | z :: r, h => by
    have h1 := h z List.mem_cons_self
    have h2 := sum_len r fun y hy => h y (List.mem_cons_of_mem _ hy)
    simp only [List.map_cons, List.sum_cons, List.length_cons]
    omega
theorem nodes_text {ns : List Str} (h : NodesOk ns) : Txt.isascii (Txt.join ("" : Str) ns) = true ∧ Txt.isalpha (Txt.join ("" : Str) ns) = true ∧ Txt.islower (Txt.join ("" : Str) ns) = true := by
  rw [show Txt.join ("" : Str) ns = Str.join ("" : Str) ns from StrLaws.glued_eq_join _ _]
  refine az_text ?_ fun c hc => ?_
  · cases ns with
    | nil => have := h.lo; simp at this
    | cons x r =>
      exact Nat.le_trans (h.nm x List.mem_cons_self).lo (join_len List.mem_cons_self)
  · obtain ⟨z, hz, hc⟩ := join_mem hc
    exact (h.nm z hz).az c hc
/-! ### small words over heaps -/
theorem same_new {H : Hp} {p : Addr} {o : HO} (h : H p = none) : Same H (upd H p o) := fun b x e => (upd_ne (ne_of_none e h)).trans e
theorem same_put {H0 H : Hp} {p : Addr} {o : HO} (s : Same H0 H) (h : H0 p = none) : Same H0 (upd H p o) := fun b x e => (upd_ne (ne_of_none e h)).trans (s b x e)
theorem free0 {H0 H : Hp} {p : Addr} (s : Same H0 H) (h : H p = none) : H0 p = none := s.free h
theorem ltI {H : Hp} {K : PySem.W.Frag} {a : Addr} {xs : List V} (h : H a = some (.lst xs)) : SqL K H a xs := .inl (.inl h)
theorem tpI {H : Hp} {K : PySem.W.Frag} {a : Addr} {xs : List V} (h : H a = some (.tup xs)) : SqT K H a xs := .inl (.inl h)
/-! ### is, of an int and a truth value -/
theorem op_is_ib {X : Cx} : OpR X (compareOp .Is) (fun x y H Q => ∃ i b, x = .int i ∧ y = .bl b ∧ Q (.bl false) H) := by
  intro pins s σ H x y v u Q I rx ry h
  obtain ⟨i, b, rfl, rfl, q⟩ := h
  obtain ⟨t, rfl⟩ : ∃ t, v = Value.int i t := rx
  obtain rfl : u = Value.bool b := ry
  exact wpAny_is_other rfl (fun z => nomatch z) ⟨.bl false, H, I, rfl, q⟩
/-! ### receivers -/
def recvGo (nodes : List Str) (x : Str) : Str → List Str → Bool
  | _, [] => true
  | p, r :: t => decide (r ∈ nodes) && decide (ltS p r) && decide (r ≠ x) && recvGo nodes x r t
theorem recvGo_cons {nodes : List Str} {x p r : Str} {t : List Str} : recvGo nodes x p (r :: t) = (decide (r ∈ nodes) && decide (ltS p r) && decide (r ≠ x) && recvGo nodes x r t) := rfl
def recvB (nodes : List Str) (x : Str) (rs : List Str) : Bool := !rs.isEmpty && recvGo nodes x "" rs
theorem recvGo_mem {nodes : List Str} {x : Str} : ∀ {rs : List Str} {p : Str}, recvGo nodes x p rs = true → ∀ r ∈ rs, r ∈ nodes ∧ r ≠ x ∧ ltS p r
  | [], _, _, r, hr => nomatch hr
  | y :: t, p, h, r, hr => by
    unfold recvGo at h
    simp only [Bool.and_eq_true, decide_eq_true_eq] at h
    obtain ⟨⟨⟨h1, h2⟩, h3⟩, h4⟩ := h
    rcases List.mem_cons.mp hr with rfl | hr
    · exact ⟨h1, h3, h2⟩
    · obtain ⟨k1, k2, k3⟩ := recvGo_mem h4 r hr
      exact ⟨k1, k2, List.lt_trans h2 k3⟩
theorem recvGo_asc {nodes : List Str} {x : Str} : ∀ {rs : List Str} {p : Str}, recvGo nodes x p rs = true → rs.Pairwise ltS
  | [], _, _ => .nil
  | y :: t, p, h => by
    have h' := h
    unfold recvGo at h
    simp only [Bool.and_eq_true, decide_eq_true_eq] at h
    obtain ⟨_, h4⟩ := h
    exact .cons (fun r hr => (recvGo_mem h4 r hr).2.2) (recvGo_asc h4)
theorem recvGo_of {nodes : List Str} {x : Str} : ∀ {rs : List Str} {p : Str}, (∀ r ∈ rs, r ∈ nodes ∧ r ≠ x ∧ ltS p r) → rs.Pairwise ltS → recvGo nodes x p rs = true
  | [], _, _, _ => rfl
  | y :: t, p, h, a => by
    obtain ⟨h1, h2, h3⟩ := h y List.mem_cons_self
    cases a with
    | cons a1 a2 =>
    unfold recvGo
    rw [decide_eq_true h1, decide_eq_true h2, decide_eq_true h3, recvGo_of (fun r hr => ⟨(h r (List.mem_cons_of_mem _ hr)).1, (h r (List.mem_cons_of_mem _ hr)).2.1, a1 r hr⟩) a2]
    rfl
/-- a dict whose keys are the nodes -/
def KeysAre (kvs : List (Key × V)) (nodes : List Str) : Prop := ∀ r : Str, (valV kvs (.inr r)).isSome = decide (r ∈ nodes)
end KA
namespace KA
open PySem PySem.Spec PyProof.Rows L2 L2.Dx
/-! ### the events -/
inductive Ev where
  | snd (x : Str) (rs : List Str)
  | opn (x s : Str) (n : Int)
def EvAt (H : Hp) (a : Addr) : Ev → Prop
  | .snd x rs => ∃ l, H a = some (.tup [.str "send", .str x, .ref l]) ∧ H l = some (.lst (rs.map V.str))
  | .opn x s n => ∃ m, H a = some (.tup [.str "open", .str x, .ref m]) ∧ H m = some (.tup [.str s, .int n])
theorem EvAt.same {H H' : Hp} {a : Addr} {e : Ev} (h : EvAt H a e) (s : Same H H') : EvAt H' a e := by
  cases e with
  | snd x rs => exact h.elim fun l ⟨h1, h2⟩ => ⟨l, s _ _ h1, s _ _ h2⟩
  | opn x t n => exact h.elim fun l ⟨h1, h2⟩ => ⟨l, s _ _ h1, s _ _ h2⟩
structure RunAt (H : Hp) (r : Addr) (as : List Addr) (es : List Ev) : Prop where
  at' : H r = some (.lst (as.map V.ref))
  len : as.length = es.length
  ev : ∀ (i : Nat) (a : Addr) (e : Ev), as[i]? = some a → es[i]? = some e → EvAt H a e
theorem RunAt.same {H H' : Hp} {r : Addr} {as : List Addr} {es : List Ev} (h : RunAt H r as es) (s : Same H H') : RunAt H' r as es := ⟨s _ _ h.at', h.len, fun i a e h1 h2 => (h.ev i a e h1 h2).same s⟩
theorem RunAt.get {H : Hp} {r : Addr} {as : List Addr} {es : List Ev} (h : RunAt H r as es) {i : Nat} {e : Ev} (he : es[i]? = some e) : ∃ a, as[i]? = some a ∧ EvAt H a e := by
  have hi : i < as.length := by rw [h.len]; exact (List.getElem?_eq_some_iff.mp he).1
  exact ⟨as[i], List.getElem?_eq_getElem hi, h.ev i _ e (List.getElem?_eq_getElem hi) he⟩
/-! ### what a run's reading finds -/
structure Rs where
  sends : Str → List Nat
  opens : Str → List (Nat × Nat)
def Rs.nil : Rs := ⟨fun _ => [], fun _ => []⟩
def recvAt (es : List Ev) (i : Nat) : List Str := match es[i]? with
  | some (.snd _ rs) => rs
  | _ => []
/-- the place of the send of a message -/
def sentAt (r : Rs) (nodes : List Str) (s : Str) (n : Int) : Option Nat := if s ∈ nodes ∧ 0 < n then (r.sends s)[(n - 1).toNat]? else none
def evOk (nodes : List Str) (es : List Ev) (r : Rs) : Ev → Prop
  | .snd x rs => x ∈ nodes ∧ recvB nodes x rs = true
  | .opn x s n => ∃ j, sentAt r nodes s n = some j ∧ x ∈ recvAt es j ∧ (r.opens x).all (fun p => decide (p.1 ≠ j)) = true
def Rs.next (r : Rs) (nodes : List Str) (i : Nat) : Ev → Rs
  | .snd x _ => ⟨fun y => if y = x then r.sends x ++ [i] else r.sends y, r.opens⟩
  | .opn x s n => ⟨r.sends, fun y => if y = x then r.opens x ++ [((sentAt r nodes s n).getD 0, i)] else r.opens y⟩
def Rs.upto (nodes : List Str) (es : List Ev) : Nat → Rs
  | 0 => .nil
  | i + 1 => match es[i]? with
    | some e => (Rs.upto nodes es i).next nodes i e
    | none => Rs.upto nodes es i
def OkTo (nodes : List Str) (es : List Ev) (k : Nat) : Prop := ∀ i, i < k → ∀ e, es[i]? = some e → evOk nodes es (Rs.upto nodes es i) e
def RunOk (nodes : List Str) (es : List Ev) : Prop := OkTo nodes es es.length
theorem upto_succ {nodes : List Str} {es : List Ev} {i : Nat} {e : Ev} (h : es[i]? = some e) : Rs.upto nodes es (i + 1) = (Rs.upto nodes es i).next nodes i e := by
  show (match es[i]? with | some e => (Rs.upto nodes es i).next nodes i e | none => Rs.upto nodes es i) = _
  rw [h]
/-! ### dicts over the nodes -/
theorem valV_in {h : Str → V} {x : Str} : ∀ {nodes : List Str}, x ∈ nodes → valV (nodes.map fun y => ((Sum.inr y : Key), h y)) (.inr x) = some (h x)
  | y :: r, hx => by
    rw [List.map_cons]
    by_cases e : y = x
    · subst e
      exact valV_pos rfl
    · rw [valV_neg (by simpa using e)]
      exact valV_in ((List.mem_cons.mp hx).resolve_left fun z => e z.symm)
theorem valV_out {h : Str → V} {x : Str} : ∀ {nodes : List Str}, x ∉ nodes → valV (nodes.map fun y => ((Sum.inr y : Key), h y)) (.inr x) = none
  | [], _ => rfl
  | y :: r, hx => by
    rw [List.map_cons, valV_neg (by simpa using fun z : y = x => hx (z ▸ List.mem_cons_self))]
    exact valV_out fun z => hx (List.mem_cons_of_mem _ z)
theorem keys_map {h : Str → V} {nodes : List Str} : KeysAre (nodes.map fun y => ((Sum.inr y : Key), h y)) nodes := fun r => by
  by_cases e : r ∈ nodes
  · rw [valV_in e, decide_eq_true e]
    rfl
  · rw [valV_out e, decide_eq_false e]
    rfl
abbrev ixs (l : List Nat) : List V := l.map fun i => V.int (i : Nat)
abbrev ops (l : List (Nat × Nat)) : List (Key × V) := l.map fun p => (Sum.inl ((p.1 : Nat) : Int), V.int (p.2 : Nat))
/-- the dict of the sends: its lists at f -/
structure SendsAt (H : Hp) (d : Addr) (nodes : List Str) (f : Str → Addr) (S : Str → List Nat) : Prop where
  at' : H d = some (.dK (nodes.map fun x => (Sum.inr x, V.ref (f x))))
  own : ∀ x ∈ nodes, H (f x) = some (.lst (ixs (S x)))
structure OpensAt (H : Hp) (d : Addr) (nodes : List Str) (g : Str → Addr) (O : Str → List (Nat × Nat)) : Prop where
  at' : H d = some (.dK (nodes.map fun x => (Sum.inr x, V.ref (g x))))
  own : ∀ x ∈ nodes, H (g x) = some (.dK (ops (O x)))
theorem SendsAt.same {H H' : Hp} {d : Addr} {nodes : List Str} {f : Str → Addr} {S : Str → List Nat} (h : SendsAt H d nodes f S) (s : Same H H') : SendsAt H' d nodes f S := ⟨s _ _ h.at', fun x hx => s _ _ (h.own x hx)⟩
theorem OpensAt.same {H H' : Hp} {d : Addr} {nodes : List Str} {f : Str → Addr} {S : Str → List (Nat × Nat)} (h : OpensAt H d nodes f S) (s : Same H H') : OpensAt H' d nodes f S := ⟨s _ _ h.at', fun x hx => s _ _ (h.own x hx)⟩
theorem valV_ops {j : Nat} : ∀ {l : List (Nat × Nat)}, (valV (ops l) (.inl ((j : Nat) : Int))).isSome = !l.all (fun p => decide (p.1 ≠ j))
  | [] => rfl
  | p :: r => by
    show (valV ((Sum.inl ((p.1 : Nat) : Int), V.int (p.2 : Nat)) :: ops r) _).isSome = _
    by_cases e : p.1 = j
    · subst e
      rw [valV_pos rfl]
      simp
    · rw [valV_neg (fun z => e (Int.ofNat.inj (Sum.inl.inj z))), valV_ops (j := j) (l := r)]
      simp [e]
end KA

set_option Elab.async false
set_option linter.all false
set_option maxRecDepth 100000
set_option maxHeartbeats 4000000
namespace KA
open PySem PySem.Spec PyProof.Rows L2 L2.Dx
def topS (i : Nat) : Stmt := PySem.Challenge.pw_waitlists_k05_whole_renamed_nodes.main.body.getD i (.Pass ⟨0, 0, 0, 0⟩)
abbrev s_is_nodes : Stmt := topS 7
theorem sc_is_nodes : FnScope ["value", "previous", "entry", "letters"] ["value"] (defScope s_is_nodes) := ⟨rfl, rfl, rfl, by decide +kernel, rfl, by decide +kernel, by decide +kernel⟩
abbrev s_is_run : Stmt := topS 8
theorem sc_is_run : FnScope ["nodes", "value"] ["nodes", "value"] (defScope s_is_run) := ⟨rfl, rfl, rfl, by decide +kernel, rfl, by decide +kernel, by decide +kernel⟩
abbrev s_messages_of : Stmt := topS 9
theorem sc_messages_of : FnScope ["nodes", "run", "sends", "_", "node", "number", "index"] ["nodes", "run"] (defScope s_messages_of) := ⟨rfl, rfl, rfl, by decide +kernel, rfl, by decide +kernel, by decide +kernel⟩
abbrev s_send_index : Stmt := topS 10
theorem sc_send_index : FnScope ["nodes", "run", "message", "sends", "_"] ["nodes", "run", "message"] (defScope s_send_index) := ⟨rfl, rfl, rfl, by decide +kernel, rfl, by decide +kernel, by decide +kernel⟩
abbrev s_open_index : Stmt := topS 11
theorem sc_open_index : FnScope ["nodes", "run", "message", "node", "sends", "opens", "sent"] ["nodes", "run", "message", "node"] (defScope s_open_index) := ⟨rfl, rfl, rfl, by decide +kernel, rfl, by decide +kernel, by decide +kernel⟩
abbrev s_is_node : Stmt := topS 12
theorem sc_is_node : FnScope ["nodes", "value"] ["nodes", "value"] (defScope s_is_node) := ⟨rfl, rfl, rfl, by decide +kernel, rfl, by decide +kernel, by decide +kernel⟩
abbrev s_is_receivers : Stmt := topS 13
theorem sc_is_receivers : FnScope ["nodes", "node", "value", "previous", "entry"] ["nodes", "node", "value"] (defScope s_is_receivers) := ⟨rfl, rfl, rfl, by decide +kernel, rfl, by decide +kernel, by decide +kernel⟩
abbrev s_find_send : Stmt := topS 14
theorem sc_find_send : FnScope ["sends", "value", "sender", "number", "own"] ["sends", "value"] (defScope s_find_send) := ⟨rfl, rfl, rfl, by decide +kernel, rfl, by decide +kernel, by decide +kernel⟩
abbrev s_scan_run : Stmt := topS 15
theorem sc_scan_run : FnScope ["nodes", "value", "sends", "opens", "index", "event", "kind", "node", "detail", "own", "sender", "number", "sent"] ["nodes", "value"] (defScope s_scan_run) := ⟨rfl, rfl, rfl, by decide +kernel, rfl, by decide +kernel, by decide +kernel⟩
abbrev s_check_nodes : Stmt := topS 16
theorem sc_check_nodes : FnScope ["nodes"] ["nodes"] (defScope s_check_nodes) := ⟨rfl, rfl, rfl, by decide +kernel, rfl, by decide +kernel, by decide +kernel⟩
abbrev s_check_run : Stmt := topS 17
theorem sc_check_run : FnScope ["nodes", "run", "events"] ["nodes", "run"] (defScope s_check_run) := ⟨rfl, rfl, rfl, by decide +kernel, rfl, by decide +kernel, by decide +kernel⟩
abbrev s_check_node : Stmt := topS 18
theorem sc_check_node : FnScope ["nodes", "node"] ["nodes", "node"] (defScope s_check_node) := ⟨rfl, rfl, rfl, by decide +kernel, rfl, by decide +kernel, by decide +kernel⟩
abbrev s_check_message : Stmt := topS 19
theorem sc_check_message : FnScope ["sends", "message", "sent"] ["sends", "message"] (defScope s_check_message) := ⟨rfl, rfl, rfl, by decide +kernel, rfl, by decide +kernel, by decide +kernel⟩
abbrev s__law_seed : Stmt := topS 21
theorem sc__law_seed : FnScope ["script", "k", "cell"] ["script", "k"] (defScope s__law_seed) := ⟨rfl, rfl, rfl, by decide +kernel, rfl, by decide +kernel, by decide +kernel⟩
abbrev s__law_next : Stmt := topS 22
theorem sc__law_next : FnScope ["seed", "size", "found", "state"] ["seed", "size"] (defScope s__law_next) := ⟨rfl, rfl, rfl, by decide +kernel, rfl, by decide +kernel, by decide +kernel⟩
abbrev s__law_nodes : Stmt := topS 23
theorem sc__law_nodes : FnScope ["seed", "most", "pool", "turn"] ["seed", "most"] (defScope s__law_nodes) := ⟨rfl, rfl, rfl, by decide +kernel, rfl, by decide +kernel, by decide +kernel⟩
abbrev s__law_run : Stmt := topS 24
theorem sc__law_run : FnScope ["seed", "nodes", "most", "found", "counts", "waiting", "style", "turn", "node", "message", "others", "some", "receivers", "one"] ["seed", "nodes", "most"] (defScope s__law_run) := ⟨rfl, rfl, rfl, by decide +kernel, rfl, by decide +kernel, by decide +kernel⟩
abbrev s__law_renamed : Stmt := topS 25
theorem sc__law_renamed : FnScope ["run", "names", "found", "kind", "node", "third", "one"] ["run", "names"] (defScope s__law_renamed) := ⟨rfl, rfl, rfl, by decide +kernel, rfl, by decide +kernel, by decide +kernel⟩
abbrev s__law_right : Stmt := topS 26
theorem sc__law_right : FnScope ["nodes", "run", "names", "others", "mate", "due", "whole", "message", "other", "node", "one"] ["nodes", "run", "names", "others"] (defScope s__law_right) := ⟨rfl, rfl, rfl, by decide +kernel, rfl, by decide +kernel, by decide +kernel⟩
abbrev s_law : Stmt := topS 27
theorem sc_law : FnScope ["script", "k", "seed", "nodes", "run", "others", "same", "used", "node", "fewer", "event", "one"] ["script"] (defScope s_law) := ⟨rfl, rfl, rfl, by decide +kernel, rfl, by decide +kernel, by decide +kernel⟩
/-- where the text's defs stand behind the top -/
structure Txt (K : PySem.W.Frag) (mg : Str → Option Value) where
  f_is_nodes : Addr
  fd_is_nodes : FuncData
  F_is_nodes : Fun K "is_nodes" "is_nodes" s_is_nodes f_is_nodes fd_is_nodes
  M_is_nodes : mg "is_nodes" = some (.ref f_is_nodes)
  f_is_run : Addr
  fd_is_run : FuncData
  F_is_run : Fun K "is_run" "is_run" s_is_run f_is_run fd_is_run
  M_is_run : mg "is_run" = some (.ref f_is_run)
  f_messages_of : Addr
  fd_messages_of : FuncData
  F_messages_of : Fun K "messages_of" "messages_of" s_messages_of f_messages_of fd_messages_of
  M_messages_of : mg "messages_of" = some (.ref f_messages_of)
  f_send_index : Addr
  fd_send_index : FuncData
  F_send_index : Fun K "send_index" "send_index" s_send_index f_send_index fd_send_index
  M_send_index : mg "send_index" = some (.ref f_send_index)
  f_open_index : Addr
  fd_open_index : FuncData
  F_open_index : Fun K "open_index" "open_index" s_open_index f_open_index fd_open_index
  M_open_index : mg "open_index" = some (.ref f_open_index)
  f_is_node : Addr
  fd_is_node : FuncData
  F_is_node : Fun K "is_node" "is_node" s_is_node f_is_node fd_is_node
  M_is_node : mg "is_node" = some (.ref f_is_node)
  f_is_receivers : Addr
  fd_is_receivers : FuncData
  F_is_receivers : Fun K "is_receivers" "is_receivers" s_is_receivers f_is_receivers fd_is_receivers
  M_is_receivers : mg "is_receivers" = some (.ref f_is_receivers)
  f_find_send : Addr
  fd_find_send : FuncData
  F_find_send : Fun K "find_send" "find_send" s_find_send f_find_send fd_find_send
  M_find_send : mg "find_send" = some (.ref f_find_send)
  f_scan_run : Addr
  fd_scan_run : FuncData
  F_scan_run : Fun K "scan_run" "scan_run" s_scan_run f_scan_run fd_scan_run
  M_scan_run : mg "scan_run" = some (.ref f_scan_run)
  f_check_nodes : Addr
  fd_check_nodes : FuncData
  F_check_nodes : Fun K "check_nodes" "check_nodes" s_check_nodes f_check_nodes fd_check_nodes
  M_check_nodes : mg "check_nodes" = some (.ref f_check_nodes)
  f_check_run : Addr
  fd_check_run : FuncData
  F_check_run : Fun K "check_run" "check_run" s_check_run f_check_run fd_check_run
  M_check_run : mg "check_run" = some (.ref f_check_run)
  f_check_node : Addr
  fd_check_node : FuncData
  F_check_node : Fun K "check_node" "check_node" s_check_node f_check_node fd_check_node
  M_check_node : mg "check_node" = some (.ref f_check_node)
  f_check_message : Addr
  fd_check_message : FuncData
  F_check_message : Fun K "check_message" "check_message" s_check_message f_check_message fd_check_message
  M_check_message : mg "check_message" = some (.ref f_check_message)
  f__law_seed : Addr
  fd__law_seed : FuncData
  F__law_seed : Fun K "_law_seed" "_law_seed" s__law_seed f__law_seed fd__law_seed
  M__law_seed : mg "_law_seed" = some (.ref f__law_seed)
  f__law_next : Addr
  fd__law_next : FuncData
  F__law_next : Fun K "_law_next" "_law_next" s__law_next f__law_next fd__law_next
  M__law_next : mg "_law_next" = some (.ref f__law_next)
  f__law_nodes : Addr
  fd__law_nodes : FuncData
  F__law_nodes : Fun K "_law_nodes" "_law_nodes" s__law_nodes f__law_nodes fd__law_nodes
  M__law_nodes : mg "_law_nodes" = some (.ref f__law_nodes)
  f__law_run : Addr
  fd__law_run : FuncData
  F__law_run : Fun K "_law_run" "_law_run" s__law_run f__law_run fd__law_run
  M__law_run : mg "_law_run" = some (.ref f__law_run)
  f__law_renamed : Addr
  fd__law_renamed : FuncData
  F__law_renamed : Fun K "_law_renamed" "_law_renamed" s__law_renamed f__law_renamed fd__law_renamed
  M__law_renamed : mg "_law_renamed" = some (.ref f__law_renamed)
  f__law_right : Addr
  fd__law_right : FuncData
  F__law_right : Fun K "_law_right" "_law_right" s__law_right f__law_right fd__law_right
  M__law_right : mg "_law_right" = some (.ref f__law_right)
  f_law : Addr
  fd_law : FuncData
  F_law : Fun K "law" "law" s_law f_law fd_law
  M_law : mg "law" = some (.ref f_law)
  m_isinstance : mg "isinstance" = none
  m_list : mg "list" = none
  m_str : mg "str" = none
  m_len : mg "len" = none
  m_tuple : mg "tuple" = none
  m_int : mg "int" = none
  m_bool : mg "bool" = none
  m_dict : mg "dict" = none
  m_sum : mg "sum" = none
  m_max : mg "max" = none
  m_min : mg "min" = none
  m_range : mg "range" = none
  m_enumerate : mg "enumerate" = none
  m_sorted : mg "sorted" = none
  m_zip : mg "zip" = none
  m_reversed : mg "reversed" = none
  m_abs : mg "abs" = none
  m_repr : mg "repr" = none
  m_set : mg "set" = none
  m_any : mg "any" = none
  m_all : mg "all" = none
section
variable {K : PySem.W.Frag} {mg : Str → Option Value}
theorem b_is_nodes (T : Txt K mg) : Binds K T.fd_is_nodes ["value"] [] := T.F_is_nodes.binds fun _ _ _ _ _ _ us hl => match us, hl with | [_], _ => rfl
theorem b_is_run (T : Txt K mg) : Binds K T.fd_is_run ["nodes", "value"] [] := T.F_is_run.binds fun _ _ _ _ _ _ us hl => match us, hl with | [_, _], _ => rfl
theorem b_messages_of (T : Txt K mg) : Binds K T.fd_messages_of ["nodes", "run"] [] := T.F_messages_of.binds fun _ _ _ _ _ _ us hl => match us, hl with | [_, _], _ => rfl
theorem b_send_index (T : Txt K mg) : Binds K T.fd_send_index ["nodes", "run", "message"] [] := T.F_send_index.binds fun _ _ _ _ _ _ us hl => match us, hl with | [_, _, _], _ => rfl
theorem b_open_index (T : Txt K mg) : Binds K T.fd_open_index ["nodes", "run", "message", "node"] [] := T.F_open_index.binds fun _ _ _ _ _ _ us hl => match us, hl with | [_, _, _, _], _ => rfl
theorem b_is_node (T : Txt K mg) : Binds K T.fd_is_node ["nodes", "value"] [] := T.F_is_node.binds fun _ _ _ _ _ _ us hl => match us, hl with | [_, _], _ => rfl
theorem b_is_receivers (T : Txt K mg) : Binds K T.fd_is_receivers ["nodes", "node", "value"] [] := T.F_is_receivers.binds fun _ _ _ _ _ _ us hl => match us, hl with | [_, _, _], _ => rfl
theorem b_find_send (T : Txt K mg) : Binds K T.fd_find_send ["sends", "value"] [] := T.F_find_send.binds fun _ _ _ _ _ _ us hl => match us, hl with | [_, _], _ => rfl
theorem b_scan_run (T : Txt K mg) : Binds K T.fd_scan_run ["nodes", "value"] [] := T.F_scan_run.binds fun _ _ _ _ _ _ us hl => match us, hl with | [_, _], _ => rfl
theorem b_check_nodes (T : Txt K mg) : Binds K T.fd_check_nodes ["nodes"] [] := T.F_check_nodes.binds fun _ _ _ _ _ _ us hl => match us, hl with | [_], _ => rfl
theorem b_check_run (T : Txt K mg) : Binds K T.fd_check_run ["nodes", "run"] [] := T.F_check_run.binds fun _ _ _ _ _ _ us hl => match us, hl with | [_, _], _ => rfl
theorem b_check_node (T : Txt K mg) : Binds K T.fd_check_node ["nodes", "node"] [] := T.F_check_node.binds fun _ _ _ _ _ _ us hl => match us, hl with | [_, _], _ => rfl
theorem b_check_message (T : Txt K mg) : Binds K T.fd_check_message ["sends", "message"] [] := T.F_check_message.binds fun _ _ _ _ _ _ us hl => match us, hl with | [_, _], _ => rfl
theorem b__law_seed (T : Txt K mg) : Binds K T.fd__law_seed ["script", "k"] [] := T.F__law_seed.binds fun _ _ _ _ _ _ us hl => match us, hl with | [_, _], _ => rfl
theorem b__law_next (T : Txt K mg) : Binds K T.fd__law_next ["seed", "size"] [] := T.F__law_next.binds fun _ _ _ _ _ _ us hl => match us, hl with | [_, _], _ => rfl
theorem b__law_nodes (T : Txt K mg) : Binds K T.fd__law_nodes ["seed", "most"] [] := T.F__law_nodes.binds fun _ _ _ _ _ _ us hl => match us, hl with | [_, _], _ => rfl
theorem b__law_run (T : Txt K mg) : Binds K T.fd__law_run ["seed", "nodes", "most"] [] := T.F__law_run.binds fun _ _ _ _ _ _ us hl => match us, hl with | [_, _, _], _ => rfl
theorem b__law_renamed (T : Txt K mg) : Binds K T.fd__law_renamed ["run", "names"] [] := T.F__law_renamed.binds fun _ _ _ _ _ _ us hl => match us, hl with | [_, _], _ => rfl
theorem b__law_right (T : Txt K mg) : Binds K T.fd__law_right ["nodes", "run", "names", "others"] [] := T.F__law_right.binds fun _ _ _ _ _ _ us hl => match us, hl with | [_, _, _, _], _ => rfl
theorem b_law (T : Txt K mg) : Binds K T.fd_law ["script"] [] := T.F_law.binds fun _ _ _ _ _ _ us hl => match us, hl with | [_], _ => rfl
end

end KA

set_option Elab.async false
set_option linter.all false
set_option maxRecDepth 100000
set_option maxHeartbeats 4000000
namespace KA
open PySem PySem.Spec PyProof.Rows L2 L2.Dx
section
variable {P : Program} {w : World} {K : PySem.W.Frag} {mg : Str → Option Value} {base : Heap}
def sp_is_nodes (K : PySem.W.Frag) : Sp := fun vs H Q _ => ∃ (a : Addr) (ns : List Str), vs = [.ref a] ∧ H a = some (.lst (ns.map V.str)) ∧ NodesOk ns ∧ Q (.bl true) H
theorem ok_is_nodes (T : Txt K mg) :
    FnOk P w K mg base CX0 1 T.f_is_nodes T.fd_is_nodes ["value"] (sp_is_nodes K) := by
  refine T.F_is_nodes.ok sc_is_nodes (fun vs H Q E h => ?_) (fun cdv A outer s H vs Q E hr h => ?_)
  · obtain ⟨a, ns, rfl, _⟩ := h
    rfl
  · obtain ⟨a, ns, rfl, ha, hn, q⟩ := h
    refine ⟨_, (pss_cons (ps_if (PW.pt (pw_or (pt_not (pt_val (pe_callB call_isi (by rfl) T.m_isinstance (by decide +kernel) (pa_cons (pv 0) (pa_cons (pe_bltn (v := .ty "list") (by rfl) T.m_list (by decide +kernel) rfl) pa_nil))))) (pw_or1 (pt_not (pt_chain op_le op_le pe_int (pe_callB call_len_seq (by rfl) T.m_len PySem.boot_len (pa_cons (pv 0) pa_nil)) pe_int)))))
      (pss_one (ps_ret pe_bl))
      pss_nil)
    (pss_cons (ps_set (i := 1) sc_is_nodes.nd rfl (by first | exact .inl rfl | exact .inr rfl) pe_str)
    (pss_cons (ps_for PassesOwn.never rfl (pi_list (pv 0)) (pg_name (i := 2) sc_is_nodes.nd rfl (by first | exact .inl rfl | exact .inr rfl))
      (pss_cons (ps_if (PW.pt (pw_or (pt_not (pt_val (pe_callB call_isi (by rfl) T.m_isinstance (by decide +kernel) (pa_cons (pv 2) (pa_cons (pe_bltn (v := .ty "str") (by rfl) T.m_str (by decide +kernel) rfl) pa_nil))))) (pw_or (pt_cmpR op_le_str (pv 2) (pv 1) (nomark _)) (pw_or1 (pt_cmpR op_gt (pe_callB call_len_str (by rfl) T.m_len PySem.boot_len (pa_cons (pv 2) pa_nil)) pe_int (nomark _))))))
        (pss_one (ps_ret pe_bl))
        pss_nil)
      (pss_one (ps_set (i := 1) sc_is_nodes.nd rfl (by first | exact .inl rfl | exact .inr rfl) (pv 2)))))
    (pss_cons (ps_set (i := 3) sc_is_nodes.nd rfl (by first | exact .inl rfl | exact .inr rfl) (pe_join pe_str (pv 0)))
    (pss_one (ps_ret (pe_and (pe_m0 PySem.F.slot_str_isascii PySem.F.type_str_isascii mt_isascii (pv 3)) (pe_and (pe_m0 PySem.F.slot_str_isalpha PySem.F.type_str_isalpha mt_isalpha (pv 3)) (pe_one (pe_m0 PySem.F.slot_str_islower PySem.F.type_str_islower mt_islower (pv 3))))))))))), ?_⟩
    have l1 := hn.lo
    have l2 := hn.hi
    refine ⟨.ref a, rfl, _, _, _, _, true, rfl, .ty "list", .base (.lst ha), kit_ty (by decide +kernel), true, rfl, iteF ?_⟩
    refine ⟨_, rfl, a, ns.map V.str, rfl, .inl (ltI ha), 2, _, rfl, rfl, true, ?_, iteT ⟨_, _, rfl, rfl, true, ?_, iteF ?_⟩⟩
    · show V.bl (decide ((2 : Int) ≤ ((ns.map V.str).length : Nat))) = .bl true
      rw [List.length_map, decide_eq_true (by omega)]
    · show V.bl (decide ((((ns.map V.str).length : Nat) : Int) ≤ 12)) = .bl true
      rw [List.length_map, decide_eq_true (by omega)]
    -- the loop
    refine ⟨.ref a, rfl, a, rfl, ⟨_, ltI ha⟩, for_list (xs := ns.map V.str) (fun i σ H' => H' = H ∧ ∃ z y, σ = [some (.ref a), some (.str z), y, none] ∧ ∀ x, ns[i]? = some x → ltS z x) ?_ ?_ ?_ ?_⟩
    · refine ⟨rfl, "", none, rfl, fun x hx => empty_lt (hn.nm x (List.mem_of_getElem? hx))⟩
    · rintro i σ H' _ ⟨rfl, _⟩
      exact ltI ha
    · rintro i x σ H' hx ⟨rfl, z, y, rfl, hz⟩
      rw [List.getElem?_map] at hx
      obtain ⟨n, hx1, rfl⟩ := Option.map_eq_some_iff.mp hx
      have on := hn.nm n (List.mem_of_getElem? hx1)
      have o8 := on.hi
      refine ⟨.str n, rfl, _, _, _, _, true, rfl, .ty "str", .base (.str n), kit_ty (by decide +kernel), true, rfl, iteF ?_⟩
      refine ⟨.str n, rfl, .str z, rfl, n, z, rfl, rfl, false, ?_, iteF ?_⟩
      · rw [decide_eq_true (hz n hx1)]
        rfl
      refine ⟨.str n, rfl, n, rfl, Nat.le_trans o8 (by decide), _, 8, rfl, rfl, false, ?_, iteF ?_⟩
      · show V.bl (decide ((8 : Int) < (n.length : Nat))) = .bl false
        rw [decide_eq_false (by omega)]
      refine ⟨.str n, rfl, rfl, n, _, rfl, fun x hx2 => ?_⟩
      have p := hn.asc
      rw [List.pairwise_iff_getElem] at p
      obtain ⟨h1, e1⟩ := List.getElem?_eq_some_iff.mp hx1
      obtain ⟨h2, e2⟩ := List.getElem?_eq_some_iff.mp hx2
      have := p i (i + 1) h1 h2 (Nat.lt_succ_self i)
      rwa [e1, e2] at this
    · rintro σ H' ⟨rfl, z, y, rfl, _⟩
      obtain ⟨t1, t2, t3⟩ := nodes_text hn
      have hl : (ns.map (·.length)).sum ≤ 96 := Nat.le_trans (sum_len ns fun z hz => (hn.nm z hz).hi) (by omega)
      refine ⟨⟨_, rfl⟩, .ref a, rfl, "", a, ns, rfl, rfl, .inl (ltI ha), ?_, ?_⟩
      · show (ns.map (·.length)).sum + ns.length * 0 ≤ 16777216
        omega
      refine ⟨_, rfl, ⟨_, rfl⟩, _, rfl, rfl, trivial, true, ?_, iteT ⟨_, rfl, ⟨_, rfl⟩, _, rfl, rfl, trivial, true, ?_, iteT ⟨_, rfl, ⟨_, rfl⟩, _, rfl, rfl, trivial, ?_⟩⟩⟩
      · rw [t1]
      · rw [t2]
      · rw [t3]
        exact q

def sp_is_node (K : PySem.W.Frag) : Sp := fun vs H Q _ => ∃ (a : Addr) (ns : List Str) (x : Str), vs = [.ref a, .str x] ∧ H a = some (.lst (ns.map V.str)) ∧ Q (.bl (decide (x ∈ ns))) H
theorem inV_str {x : Str} : ∀ {ns : List Str}, inV (.str x) (ns.map V.str) = decide (x ∈ ns)
  | [] => rfl
  | y :: r => by
    have ih := @inV_str x r
    unfold inV at ih ⊢
    rw [List.map_cons, List.any_cons, ih]
    by_cases e : y = x
    · subst e
      simp [eqV]
    · have e2 : eqV (.str y) (.str x) = false := by
        show decide (y = x) = false
        exact decide_eq_false e
      rw [e2]
      simp [Ne.symm e]
theorem flat_str : ∀ (ns : List Str), (ns.map V.str).all flatV = true
  | [] => rfl
  | y :: r => by
    rw [List.map_cons, List.all_cons, flat_str r]
    rfl
theorem ok_is_node (T : Txt K mg) :
    FnOk P w K mg base CX0 1 T.f_is_node T.fd_is_node ["nodes", "value"] (sp_is_node K) := by
  refine T.F_is_node.ok sc_is_node (fun vs H Q E h => ?_) (fun cdv A outer s H vs Q E hr h => ?_)
  · obtain ⟨a, ns, x, rfl, _⟩ := h
    rfl
  · obtain ⟨a, ns, x, rfl, ha, q⟩ := h
    refine ⟨_, (pss_one (ps_ret (pe_and (pe_callB call_isi (by rfl) T.m_isinstance (by decide +kernel) (pa_cons (pv 1) (pa_cons (pe_bltn (v := .ty "str") (by rfl) T.m_str (by decide +kernel) rfl) pa_nil))) (pe_one (pe_cmpR op_in_seq (pv 1) (pv 0) rfl))))), ?_⟩
    refine ⟨.str x, rfl, _, _, _, _, true, rfl, .ty "str", .base (.str x), kit_ty (by decide +kernel), true, rfl, iteT ?_⟩
    refine ⟨.str x, rfl, .ref a, rfl, a, ns.map V.str, rfl, .inl (ltI ha), rfl, flat_str ns, ?_⟩
    rw [inV_str]
    exact q
def sp_is_receivers (K : PySem.W.Frag) : Sp := fun vs H Q _ => ∃ (d l : Addr) (kvs : List (Key × V)) (ns rs : List Str) (x : Str), vs = [.ref d, .str x, .ref l] ∧ H d = some (.dK kvs) ∧ KeysAre kvs ns ∧ H l = some (.lst (rs.map V.str)) ∧ Q (.bl (recvB ns x rs)) H
theorem ok_is_receivers (T : Txt K mg) :
    FnOk P w K mg base CX0 1 T.f_is_receivers T.fd_is_receivers ["nodes", "node", "value"] (sp_is_receivers K) := by
  refine T.F_is_receivers.ok sc_is_receivers (fun vs H Q E h => ?_) (fun cdv A outer s H vs Q E hr h => ?_)
  · obtain ⟨d, l, kvs, ns, rs, x, rfl, _⟩ := h
    rfl
  · obtain ⟨d, l, kvs, ns, rs, x, rfl, hd, hk, hl, q⟩ := h
    refine ⟨_, (pss_cons (ps_if (PW.pt (pw_or (pt_not (pt_val (pe_callB call_isi (by rfl) T.m_isinstance (by decide +kernel) (pa_cons (pv 2) (pa_cons (pe_bltn (v := .ty "list") (by rfl) T.m_list (by decide +kernel) rfl) pa_nil))))) (pw_or1 (pt_not (pt_truth (pv 2) (fun _ => rfl))))))
      (pss_one (ps_ret pe_bl))
      pss_nil)
    (pss_cons (ps_set (i := 3) sc_is_receivers.nd rfl (by first | exact .inl rfl | exact .inr rfl) pe_str)
    (pss_cons (ps_for PassesOwn.never rfl (pi_list (pv 2)) (pg_name (i := 4) sc_is_receivers.nd rfl (by first | exact .inl rfl | exact .inr rfl))
      (pss_cons (ps_if (PW.pt (pw_or (pt_not (pt_val (pe_callB call_isi (by rfl) T.m_isinstance (by decide +kernel) (pa_cons (pv 4) (pa_cons (pe_bltn (v := .ty "str") (by rfl) T.m_str (by decide +kernel) rfl) pa_nil))))) (pw_or (pt_cmp (pc_dnotin (hu_of hr) (pv 4) (pv 0))) (pw_or (pt_cmpR op_le_str (pv 4) (pv 3) (nomark _)) (pw_or1 (pt_cmpR op_eq (pv 4) (pv 1) (nomark _)))))))
        (pss_one (ps_ret pe_bl))
        pss_nil)
      (pss_one (ps_set (i := 3) sc_is_receivers.nd rfl (by first | exact .inl rfl | exact .inr rfl) (pv 4)))))
    (pss_one (ps_ret pe_bl))))), ?_⟩
    refine ⟨.ref l, rfl, _, _, _, _, true, rfl, .ty "list", .base (.lst hl), kit_ty (by decide +kernel), true, rfl, iteF ?_⟩
    refine ⟨.ref l, rfl, !(rs.map V.str).isEmpty, .inl ⟨_, ltI hl, rfl⟩, ?_⟩
    cases hrs : rs with
    | nil =>
      rw [hrs] at q
      exact iteT q
    | cons r0 rt =>
    rw [← hrs]
    have hne : (rs.map V.str).isEmpty = false := by rw [hrs]; rfl
    rw [hne]
    refine iteF ?_
    have hb : recvB ns x rs = recvGo ns x "" rs := by
      unfold recvB
      rw [show rs.isEmpty = false by rw [hrs]; rfl]
      rfl
    rw [hb] at q
    refine ⟨.ref l, rfl, l, rfl, ⟨_, ltI hl⟩, for_list (xs := rs.map V.str) (fun i σ H' => H' = H ∧ ∃ z y, σ = [some (.ref d), some (.str x), some (.ref l), some (.str z), y] ∧ recvGo ns x "" rs = recvGo ns x z (rs.drop i)) ?_ ?_ ?_ ?_⟩
    · exact ⟨rfl, "", none, rfl, rfl⟩
    · rintro i σ H' _ ⟨rfl, _⟩
      exact ltI hl
    · rintro i v σ H' hx ⟨rfl, z, y, rfl, hz⟩
      rw [List.getElem?_map] at hx
      obtain ⟨n, hx1, rfl⟩ := Option.map_eq_some_iff.mp hx
      have hdrop : rs.drop i = n :: rs.drop (i + 1) := by
        obtain ⟨h1, e1⟩ := List.getElem?_eq_some_iff.mp hx1
        rw [← e1]
        exact List.drop_eq_getElem_cons h1
      rw [hdrop, recvGo_cons] at hz
      refine ⟨.str n, rfl, _, _, _, _, true, rfl, .ty "str", .base (.str n), kit_ty (by decide +kernel), true, rfl, iteF ?_⟩
      refine ⟨.str n, rfl, .ref d, rfl, d, _, rfl, DGet.k (k := Sum.inr n) hd, _, rfl, ?_⟩
      rw [hk n]
      by_cases c1 : n ∈ ns
      · rw [decide_eq_true c1] at hz ⊢
        refine iteF ?_
        refine ⟨.str n, rfl, .str z, rfl, n, z, rfl, rfl, _, rfl, ?_⟩
        by_cases c2 : z.cps.toList < n.cps.toList
        · rw [decide_eq_true c2] at hz ⊢
          refine iteF ⟨.str n, rfl, .str x, rfl, rfl, decide (n = x), ?_, ?_⟩
          · simp
          by_cases c3 : n = x
          · rw [decide_eq_true c3]
            rw [decide_eq_false (not_not_intro c3)] at hz
            refine iteT ?_
            rw [hz] at q
            exact q
          · rw [decide_eq_false c3]
            rw [decide_eq_true c3] at hz
            refine iteF ⟨.str n, rfl, rfl, n, _, rfl, ?_⟩
            simpa using hz
        · rw [decide_eq_false c2] at hz ⊢
          refine iteT ?_
          have hz' : recvGo ns x "" rs = false := by simpa using hz
          rw [hz'] at q
          exact q
      · rw [decide_eq_false c1] at hz ⊢
        refine iteT ?_
        have hz' : recvGo ns x "" rs = false := by simpa using hz
        rw [hz'] at q
        exact q
    · rintro σ H' ⟨rfl, z, y, rfl, hz⟩
      rw [List.length_map, List.drop_length] at hz
      rw [hz] at q
      exact q
end
end KA

set_option Elab.async false
set_option linter.all false
set_option maxRecDepth 100000
set_option maxHeartbeats 4000000
namespace KA
open PySem PySem.Spec PyProof.Rows L2 L2.Dx
section
variable {P : Program} {w : World} {K : PySem.W.Frag} {mg : Str → Option Value} {base : Heap}
def sp_find_send : Sp := fun vs H Q _ => ∃ (d m : Addr) (nodes : List Str) (fa : Str → Addr) (r : Rs) (s : Str) (n : Int), vs = [.ref d, .ref m] ∧ SendsAt H d nodes fa r.sends ∧ H m = some (.tup [.str s, .int n]) ∧
  Q (match sentAt r nodes s n with | some j => .int (j : Nat) | none => .non) H
theorem ok_find_send (T : Txt K mg) :
    FnOk P w K mg base CX0 1 T.f_find_send T.fd_find_send ["sends", "value"] sp_find_send := by
  refine T.F_find_send.ok sc_find_send (fun vs H Q E h => ?_) (fun cdv A outer s H vs Q E hr h => ?_)
  · obtain ⟨d, m, nodes, fa, r, s, n, rfl, _⟩ := h
    rfl
  · obtain ⟨d, m, nodes, fa, r, sd, n, rfl, hS, hm, q⟩ := h
    refine ⟨_, (pss_cons (ps_if (PW.pt (pw_or (pt_not (pt_val (pe_callB call_isi (by rfl) T.m_isinstance (by decide +kernel) (pa_cons (pv 1) (pa_cons (pe_bltn (v := .ty "tuple") (by rfl) T.m_tuple (by decide +kernel) rfl) pa_nil))))) (pw_or1 (pt_cmpR op_ne (pe_callB call_len_seq (by rfl) T.m_len PySem.boot_len (pa_cons (pv 1) pa_nil)) pe_int (nomark _)))))
      (pss_one (ps_ret pe_non))
      pss_nil)
    (pss_cons (ps_asg (pv 1) (pg_tup rfl (pgs_cons (pg_name (i := 2) sc_find_send.nd rfl (by first | exact .inl rfl | exact .inr rfl)) (pgs_cons (pg_name (i := 3) sc_find_send.nd rfl (by first | exact .inl rfl | exact .inr rfl)) pgs_nil))))
    (pss_cons (ps_if (PW.pt (pw_or (pt_not (pt_val (pe_callB call_isi (by rfl) T.m_isinstance (by decide +kernel) (pa_cons (pv 2) (pa_cons (pe_bltn (v := .ty "str") (by rfl) T.m_str (by decide +kernel) rfl) pa_nil))))) (pw_or (pt_cmp (pc_dnotin (hu_of hr) (pv 2) (pv 0))) (pw_or (pt_not (pt_val (pe_callB call_isi (by rfl) T.m_isinstance (by decide +kernel) (pa_cons (pv 3) (pa_cons (pe_bltn (v := .ty "int") (by rfl) T.m_int (by decide +kernel) rfl) pa_nil))))) (pw_or1 (pt_cmpR op_is_ib (pv 3) pe_bl (nomark _)))))))
      (pss_one (ps_ret pe_non))
      pss_nil)
    (pss_cons (ps_set (i := 4) sc_find_send.nd rfl (by first | exact .inl rfl | exact .inr rfl) (pe_dget (hu_of hr) (pv 0) (pv 2) (fun _ _ => rfl)))
    (pss_one (ps_ret (pe_ifExp (pt_chain op_lt op_le pe_int (pv 3) (pe_callB call_len_seq (by rfl) T.m_len PySem.boot_len (pa_cons (pv 4) pa_nil))) (pe_ix ix_list (pv 4) (pe_op op_sub (pv 3) pe_int) (fun _ _ => rfl)) pe_non))))))), ?_⟩
    refine ⟨.ref m, rfl, _, _, _, _, true, rfl, .ty "tuple", .base (.tup hm), kit_ty (by decide +kernel), true, rfl, iteF ?_⟩
    refine ⟨.ref m, rfl, m, _, rfl, .inr (tpI hm), rfl, false, rfl, iteF ?_⟩
    refine ⟨.ref m, rfl, m, _, rfl, tpI hm, rfl, .str sd, _, rfl, .int n, _, rfl, rfl, ?_⟩
    refine ⟨.str sd, rfl, _, _, _, _, true, rfl, .ty "str", .base (.str sd), kit_ty (by decide +kernel), true, rfl, iteF ?_⟩
    refine ⟨.str sd, rfl, .ref d, rfl, d, _, rfl, DGet.k (k := Sum.inr sd) hS.at', _, rfl, ?_⟩
    unfold sentAt at q
    by_cases c1 : sd ∈ nodes
    · rw [valV_in c1]
      refine iteF ⟨.int n, rfl, _, _, _, _, true, rfl, .ty "int", .base (.int n), kit_ty (by decide +kernel), true, rfl, iteF ?_⟩
      refine ⟨.int n, rfl, n, true, rfl, rfl, false, rfl, iteF ?_⟩
      refine ⟨.ref d, rfl, .str sd, rfl, d, .ref (fa sd), rfl, by rw [← valV_in (h := fun x => V.ref (fa x)) c1]; exact DGet.k (k := Sum.inr sd) hS.at', ?_⟩
      have ho := hS.own sd c1
      refine ⟨.int n, rfl, 0, n, rfl, rfl, _, rfl, ?_⟩
      by_cases c2 : 0 < n
      · rw [if_pos ⟨c1, c2⟩] at q
        rw [decide_eq_true c2]
        refine iteT ⟨.ref (fa sd), rfl, fa sd, _, rfl, .inl (ltI ho), n, _, rfl, rfl, _, rfl, ?_⟩
        by_cases c3 : (n - 1).toNat < (r.sends sd).length
        · rw [List.getElem?_eq_getElem c3] at q
          rw [decide_eq_true (by rw [List.length_map]; omega)]
          refine iteT ⟨.ref (fa sd), rfl, .int n, rfl, n, 1, rfl, rfl, fa sd, _, n - 1, .int (((r.sends sd)[(n - 1).toNat] : Nat) : Int), rfl, rfl, ltI ho, ?_, q⟩
          exact at_of (j := (n - 1).toNat) (by omega) (by rw [List.getElem?_map, List.getElem?_eq_getElem c3]; rfl)
        · rw [List.getElem?_eq_none (by omega)] at q
          rw [decide_eq_false (by rw [List.length_map]; omega)]
          exact iteF q
      · rw [if_neg (fun z => c2 z.2)] at q
        rw [decide_eq_false c2]
        exact ⟨false, rfl, iteF q⟩
    · rw [valV_out c1]
      rw [if_neg (fun z => c1 z.1)] at q
      exact iteT q
end
end KA

set_option Elab.async false
set_option linter.all false
set_option maxRecDepth 100000
set_option maxHeartbeats 4000000
namespace L2.Dx
open PySem PySem.Spec PyProof.Rows L2
/-- a dict comprehension over a list that stays -/
theorem dc_list {K : PySem.W.Frag} {a : Addr} {xs : List V} {g : TG} {tt : TT} {tk tv : TE} {vs : List Nat} {σ : St} {H1 : Hp} {D : Addr} {Qd : Hp → Prop} (Pv : Nat → Hp → Prop) (h0 : Pv 0 (upd H1 D (.dK []))) (hl : ∀ i H, i ≤ xs.length → Pv i H → SqL K H a xs)
    (hs : ∀ i x H, xs[i]? = some x → Pv i H → g x (wipe σ vs) H fun σ2 H2 => wipe σ2 vs = wipe σ vs ∧ tt σ2 H2 fun b H3 =>
      if b = true then tk σ2 H3 fun y H4 => tv σ2 H4 fun z H5 => ∃ kvs k, y = kV k ∧ H5 D = some (.dK kvs) ∧ kvs.length < sizeLine ∧ Pv (i + 1) (upd H5 D (.dK (putK kvs k z))) else Pv (i + 1) H3) (hd : ∀ H, Pv xs.length H → Qd H) :
    ∃ W : Nat → Nat → Hp → Prop, (∃ m, W 0 m (upd H1 D (.dK []))) ∧ ∀ i m H, W i m H →
      ((Itl K a).stop i H ∧ Qd H) ∨ ((Itl K a).go i H ∧ ∃ Nx : Hp → Prop, (∀ H', Nx H' → ∃ m', m' < m ∧ W (i + 1) m' H') ∧ ∀ x H', (Itl K a).yld i H x H' → g x (wipe σ vs) H' fun σ2 H2 => wipe σ2 vs = wipe σ vs ∧ tt σ2 H2 fun b H3 =>
        if b = true then tk σ2 H3 fun y H4 => tv σ2 H4 fun z H5 => ∃ kvs k, y = kV k ∧ H5 D = some (.dK kvs) ∧ kvs.length < sizeLine ∧ Nx (upd H5 D (.dK (putK kvs k z))) else Nx H3) := by
  refine ⟨fun i m H => m = xs.length - i ∧ i ≤ xs.length ∧ Pv i H, ⟨_, rfl, Nat.zero_le _, h0⟩, fun i m H ⟨em, hi, p⟩ => ?_⟩
  subst em
  rcases Nat.lt_or_ge i xs.length with lt | ge
  · refine .inr ⟨⟨xs, xs[i], hl i H hi p, List.getElem?_eq_getElem lt⟩, Pv (i + 1), fun H' p' => ⟨_, by omega, rfl, lt, p'⟩, fun x H' ⟨e, y⟩ => ?_⟩
    subst e
    exact hs i x _ (y xs (hl i _ hi p)) p
  · have e : xs.length = i := Nat.le_antisymm ge hi
    subst e
    exact .inl ⟨⟨xs, hl _ H hi p, Nat.le_refl _⟩, hd H p⟩
/-- a for over enumerate(list), the list stays -/
theorem for_enum {K : PySem.W.Frag} {a : Addr} {xs : List V} {g : TG} {tb : TS} {D : Ends} {σ : St} {H : Hp} (Pv : Nat → St → Hp → Prop) (h0 : Pv 0 σ H) (hl : ∀ i σ H, i ≤ xs.length → Pv i σ H → SqL K H a xs)
    (hs : ∀ i x σ H T, xs[i]? = some x → Pv i σ H → H T = none → g (.ref T) σ (upd H T (.tup [.int (i : Nat), x])) fun σ2 H2 => tb { D with nx := Pv (i + 1), ct := Pv (i + 1), bk := D.nx } σ2 H2) (hd : ∀ σ H, Pv xs.length σ H → D.nx σ H) :
    ∃ W : Nat → Nat → St → Hp → Prop, (∃ m, W 0 m σ H) ∧ ∀ i m σ H, W i m σ H →
      ((Ite K a).stop i H ∧ D.nx σ H) ∨ ((Ite K a).go i H ∧ ∃ N : St → Hp → Prop, (∀ σ' H', N σ' H' → ∃ m', m' < m ∧ W (i + 1) m' σ' H') ∧ ∀ x H', (Ite K a).yld i H x H' → g x σ H' fun σ2 H2 => tb { D with nx := N, ct := N, bk := D.nx } σ2 H2) := by
  refine ⟨fun i m σ H => m = xs.length - i ∧ i ≤ xs.length ∧ Pv i σ H, ⟨_, rfl, Nat.zero_le _, h0⟩, fun i m σ H ⟨em, hi, p⟩ => ?_⟩
  subst em
  rcases Nat.lt_or_ge i xs.length with lt | ge
  · refine .inr ⟨⟨xs, xs[i], hl i σ H hi p, List.getElem?_eq_getElem lt⟩, Pv (i + 1), fun σ' H' p' => ⟨_, by omega, rfl, lt, p'⟩, fun v H' ⟨T, x, ev, nT, eH, y⟩ => ?_⟩
    subst ev eH
    exact hs i x _ _ T (y xs (hl i _ _ hi p)) p nT
  · have e : xs.length = i := Nat.le_antisymm ge hi
    subst e
    exact .inl ⟨⟨xs, hl _ σ H hi p, Nat.le_refl _⟩, hd σ H p⟩
end L2.Dx
namespace KA
open PySem PySem.Spec PyProof.Rows L2 L2.Dx
theorem take_snoc {α : Type} {l : List α} {i : Nat} {x : α} (h : l[i]? = some x) : l.take (i + 1) = l.take i ++ [x] := by
  obtain ⟨h1, e⟩ := List.getElem?_eq_some_iff.mp h
  rw [List.take_succ, h]
  rfl
theorem notin_take {α : Type} {l : List α} {i : Nat} {x : α} (nd : l.Nodup) (h : l[i]? = some x) : x ∉ l.take i := fun hm => by
  obtain ⟨j, hj⟩ := List.getElem?_of_mem hm
  rw [List.getElem?_take] at hj
  by_cases c : j < i
  · rw [if_pos c] at hj
    have := nd_ix nd hj h
    omega
  · rw [if_neg c] at hj
    cases hj
/-- {x: a new empty thing for x in nodes} -/
theorem dc_nodes {K : PySem.W.Frag} {σ : L2.St} {H : Hp} {N D : Addr} {nodes : List Str} {o0 : HO} {j : Nat} {tv : TE} {Qd : Hp → Prop} (hj : j < σ.length) (hN : H N = some (.lst (nodes.map V.str))) (nd : nodes.Nodup) (hl : nodes.length ≤ 1000) (hD : H D = none)
    (hv : ∀ (σ : L2.St) (H : Hp) (Q : VK), (∀ p, H p = none → Q (.ref p) (upd H p o0)) → tv σ H Q)
    (q : ∀ (H' : Hp) (f : Str → Addr), Same H H' → H' D = some (.dK (nodes.map fun x => (Sum.inr x, V.ref (f x)))) → (∀ x ∈ nodes, H' (f x) = some o0 ∧ H (f x) = none ∧ f x ≠ D) → (∀ x ∈ nodes, ∀ y ∈ nodes, f x = f y → x = y) → Qd H') :
    ∃ W : Nat → Nat → Hp → Prop, (∃ m, W 0 m (upd H D (.dK []))) ∧ ∀ i m H, W i m H →
      ((Itl K N).stop i H ∧ Qd H) ∨ ((Itl K N).go i H ∧ ∃ Nx : Hp → Prop, (∀ H', Nx H' → ∃ m', m' < m ∧ W (i + 1) m' H') ∧ ∀ x H', (Itl K N).yld i H x H' → gName j x (wipe σ [j]) H' fun σ2 H2 => wipe σ2 [j] = wipe σ [j] ∧ tYes σ2 H2 fun b H3 =>
        if b = true then tVar j σ2 H3 fun y H4 => tv σ2 H4 fun z H5 => ∃ kvs k, y = kV k ∧ H5 D = some (.dK kvs) ∧ kvs.length < sizeLine ∧ Nx (upd H5 D (.dK (putK kvs k z))) else Nx H3) := by
  have hl' : nodes.length < sizeLine := small1000 hl
  refine dc_list (xs := nodes.map V.str) (fun i H' => Same H H' ∧ ∃ f : Str → Addr, H' D = some (.dK ((nodes.take i).map fun x => (Sum.inr x, V.ref (f x)))) ∧ (∀ x ∈ nodes.take i, H' (f x) = some o0 ∧ H (f x) = none ∧ f x ≠ D) ∧ ∀ x ∈ nodes.take i, ∀ y ∈ nodes.take i, f x = f y → x = y) ?_ ?_ ?_ ?_
  · exact ⟨same_new hD, fun _ => 0, upd_same, fun x hx => by simp at hx, fun x hx => by simp at hx⟩
  · exact fun i H' _ ⟨sm, _⟩ => ltI (sm _ _ hN)
  · rintro i v H' hx ⟨sm, f, hd, hf, inj⟩
    rw [List.getElem?_map] at hx
    obtain ⟨n, hn, rfl⟩ := Option.map_eq_some_iff.mp hx
    have nin := notin_take nd hn
    have hset : ((wipe σ [j]).set j (some (V.str n)))[j]? = some (some (V.str n)) := by
      rw [List.getElem?_set_self]
      rw [wipe_length]
      exact hj
    refine ⟨by simp [wipe, List.set_set], ?_⟩
    unfold tYes
    dsimp only
    rw [if_pos rfl]
    refine ⟨_, hset, hv _ _ _ fun p hp => ?_⟩
    have ndp : D ≠ p := ne_of_none hd hp
    refine ⟨_, Sum.inr n, rfl, (upd_ne ndp).trans hd, by rw [List.length_map]; exact Nat.lt_of_le_of_lt (List.length_take_le' _ _) hl', ?_⟩
    have hp0 : H p = none := sm.free hp
    refine ⟨same_put (same_put sm hp0) hD, fun y => if y = n then p else f y, ?_, ?_, ?_⟩
    · rw [upd_same, putK_new _ (valV_out nin), take_snoc hn, List.map_append]
      congr 2
      congr 1
      · refine List.map_congr_left fun y hy => ?_
        dsimp only
        rw [if_neg fun (z : y = n) => nin (by rw [← z]; exact hy)]
      · simp
    · intro x hx
      rw [take_snoc hn] at hx
      dsimp only
      by_cases e : x = n
      · rw [if_pos e, upd_ne (Ne.symm ndp), upd_same]
        exact ⟨rfl, hp0, Ne.symm ndp⟩
      · obtain ⟨k1, k2, k3⟩ := hf x ((List.mem_append.mp hx).resolve_right fun z => e (List.mem_singleton.mp z))
        rw [if_neg e, upd_ne k3, upd_ne (ne_of_none k1 hp)]
        exact ⟨k1, k2, k3⟩
    · intro x hx y hy
      rw [take_snoc hn] at hx hy
      dsimp only
      by_cases e : x = n <;> by_cases e' : y = n
      · intro _; rw [e, e']
      · rw [if_pos e, if_neg e']
        intro z
        have := (hf y ((List.mem_append.mp hy).resolve_right fun z => e' (List.mem_singleton.mp z))).1
        rw [← z, hp] at this
        cases this
      · rw [if_neg e, if_pos e']
        intro z
        have := (hf x ((List.mem_append.mp hx).resolve_right fun z => e (List.mem_singleton.mp z))).1
        rw [z, hp] at this
        cases this
      · rw [if_neg e, if_neg e']
        exact inj x ((List.mem_append.mp hx).resolve_right fun z => e (List.mem_singleton.mp z)) y ((List.mem_append.mp hy).resolve_right fun z => e' (List.mem_singleton.mp z))
  · rintro H' ⟨sm, f, hd, hf, inj⟩
    rw [List.length_map, List.take_length] at hd hf inj
    exact q H' f sm hd hf inj
/-! ### lists of texts as data -/
theorem dp_strs {K : PySem.W.Frag} {H : Hp} : ∀ (rs : List Str), DpAll K H (rs.map V.str) (rs.map PyData.str)
  | [] => .nil
  | x :: r => .cons (.str x) (dp_strs r)
theorem eqv_strs : ∀ (rs ts : List Str), PyData.eqvAll (rs.map PyData.str) (ts.map PyData.str) = decide (rs = ts)
  | [], [] => rfl
  | [], y :: t => rfl
  | x :: r, [] => rfl
  | x :: r, y :: t => by
    show (x == y && PyData.eqvAll (r.map PyData.str) (t.map PyData.str)) = _
    rw [eqv_strs r t, Bool.eq_iff_iff]
    simp
theorem depth_strs : ∀ (rs : List Str), PyData.depthAll (rs.map PyData.str) = 0
  | [] => rfl
  | x :: r => by
    show max 0 (PyData.depthAll (r.map PyData.str)) = 0
    rw [depth_strs r]
    rfl
end KA

set_option Elab.async false
set_option linter.all false
set_option maxRecDepth 100000
set_option maxHeartbeats 4000000
namespace KA
open PySem PySem.Spec PyProof.Rows L2 L2.Dx
/-! ### the reading of a run -/
theorem sends_ok {nodes : List Str} {es : List Ev} : ∀ {i : Nat}, OkTo nodes es i → ∀ {x : Str} {j : Nat}, j ∈ (Rs.upto nodes es i).sends x → x ∈ nodes ∧ j < i ∧ ∃ rs, es[j]? = some (.snd x rs) ∧ recvB nodes x rs = true
  | 0, _, _, _, h => nomatch h
  | i + 1, ok, x, j, h => by
    have ih : ∀ {x : Str} {j : Nat}, j ∈ (Rs.upto nodes es i).sends x → x ∈ nodes ∧ j < i ∧ ∃ rs, es[j]? = some (.snd x rs) ∧ recvB nodes x rs = true := sends_ok (i := i) fun k hk => ok k (Nat.lt_succ_of_lt hk)
    have up : ∀ {x : Str} {j : Nat}, j ∈ (Rs.upto nodes es i).sends x → x ∈ nodes ∧ j < i + 1 ∧ ∃ rs, es[j]? = some (.snd x rs) ∧ recvB nodes x rs = true := fun h => ⟨(ih h).1, Nat.lt_succ_of_lt (ih h).2.1, (ih h).2.2⟩
    cases he : es[i]? with
    | none =>
      have e : Rs.upto nodes es (i + 1) = Rs.upto nodes es i := by
        show (match es[i]? with | some e => (Rs.upto nodes es i).next nodes i e | none => Rs.upto nodes es i) = _
        rw [he]
      rw [e] at h
      exact up h
    | some e =>
      rw [upto_succ he] at h
      cases e with
      | opn y s n => exact up h
      | snd y rs =>
        have h : j ∈ (if x = y then (Rs.upto nodes es i).sends y ++ [i] else (Rs.upto nodes es i).sends x) := h
        by_cases e : x = y
        · subst e
          rw [if_pos rfl] at h
          rcases List.mem_append.mp h with h | h
          · exact up h
          · cases List.mem_singleton.mp h
            have := ok i (Nat.lt_succ_self i) _ he
            exact ⟨this.1, Nat.lt_succ_self _, rs, he, this.2⟩
        · rw [if_neg e] at h
          exact up h
theorem sentAt_mem {r : Rs} {nodes : List Str} {s : Str} {n : Int} {j : Nat} (h : sentAt r nodes s n = some j) : s ∈ nodes ∧ 0 < n ∧ (r.sends s)[(n - 1).toNat]? = some j ∧ j ∈ r.sends s := by
  unfold sentAt at h
  by_cases c : s ∈ nodes ∧ 0 < n
  · rw [if_pos c] at h
    exact ⟨c.1, c.2, h, List.mem_of_getElem? h⟩
  · rw [if_neg c] at h
    cases h
theorem recvB_mem {nodes : List Str} {x r : Str} {rs : List Str} (h : recvB nodes x rs = true) (hr : r ∈ rs) : r ∈ nodes ∧ r ≠ x := by
  unfold recvB at h
  rw [Bool.and_eq_true] at h
  exact ⟨(recvGo_mem h.2 r hr).1, (recvGo_mem h.2 r hr).2.1⟩
theorem recvAt_snd {es : List Ev} {j : Nat} {x : Str} {rs : List Str} (h : es[j]? = some (.snd x rs)) : recvAt es j = rs := by
  unfold recvAt
  rw [h]
structure Fix (H0 : Hp) (nodes : List Str) (d1 d2 : Addr) (f g : Str → Addr) : Prop where
  n1 : H0 d1 = none
  n2 : H0 d2 = none
  nf : ∀ x ∈ nodes, H0 (f x) = none
  ng : ∀ x ∈ nodes, H0 (g x) = none
  fi : ∀ x ∈ nodes, ∀ y ∈ nodes, f x = f y → x = y
  gi : ∀ x ∈ nodes, ∀ y ∈ nodes, g x = g y → x = y
  g1 : ∀ x ∈ nodes, g x ≠ d1
  g2 : ∀ x ∈ nodes, g x ≠ d2
structure Inv1 (H0 H : Hp) (nodes : List Str) (es : List Ev) (d1 d2 : Addr) (f g : Str → Addr) (i : Nat) : Prop where
  ok : OkTo nodes es i
  sm : Same H0 H
  s : SendsAt H d1 nodes f (Rs.upto nodes es i).sends
  o : OpensAt H d2 nodes g (Rs.upto nodes es i).opens
theorem OkTo.succ {nodes : List Str} {es : List Ev} {i : Nat} {e : Ev} (h : OkTo nodes es i) (he : es[i]? = some e) (ok : evOk nodes es (Rs.upto nodes es i) e) : OkTo nodes es (i + 1) := fun j hj e' he' => by
  by_cases c : j < i
  · exact h j c e' he'
  · have : j = i := by omega
    subst this
    rw [he] at he'
    cases he'
    exact ok
section
variable {H0 H : Hp} {nodes : List Str} {es : List Ev} {d1 d2 : Addr} {f g : Str → Addr} {i : Nat}
theorem Inv1.new {T : Addr} {o : HO} (I : Inv1 H0 H nodes es d1 d2 f g i) (h : H T = none) : Inv1 H0 (upd H T o) nodes es d1 d2 f g i :=
  ⟨I.ok, I.sm.trans (same_new h), I.s.same (same_new h), I.o.same (same_new h)⟩
theorem Inv1.send {x : Str} {rs : List Str} (F : Fix H0 nodes d1 d2 f g) (I : Inv1 H0 H nodes es d1 d2 f g i) (he : es[i]? = some (.snd x rs)) (hx : x ∈ nodes) (hr : recvB nodes x rs = true) :
    Inv1 H0 (upd H (f x) (.lst (ixs ((Rs.upto nodes es i).sends x) ++ [.int (i : Nat)]))) nodes es d1 d2 f g (i + 1) := by
  have hf := I.s.own x hx
  have n1 : d1 ≠ f x := ne_of I.s.at' hf (by intro z; cases z)
  have n2 : d2 ≠ f x := ne_of I.o.at' hf (by intro z; cases z)
  refine ⟨I.ok.succ he ⟨hx, hr⟩, same_put I.sm (F.nf x hx), ⟨(upd_ne n1).trans I.s.at', fun y hy => ?_⟩, ⟨(upd_ne n2).trans I.o.at', fun y hy => ?_⟩⟩
  · rw [upto_succ he]
    show _ = some (HO.lst (ixs (if y = x then (Rs.upto nodes es i).sends x ++ [i] else (Rs.upto nodes es i).sends y)))
    by_cases e : y = x
    · subst e
      rw [if_pos rfl, upd_same]
      simp [ixs]
    · rw [if_neg e, upd_ne fun z => e (F.fi y hy x hx z)]
      exact I.s.own y hy
  · rw [upto_succ he]
    show _ = some (HO.dK (ops ((Rs.upto nodes es i).opens y)))
    rw [upd_ne (ne_of (I.o.own y hy) hf (by intro z; cases z))]
    exact I.o.own y hy
theorem Inv1.opn {x s : Str} {n : Int} {j : Nat} (F : Fix H0 nodes d1 d2 f g) (I : Inv1 H0 H nodes es d1 d2 f g i) (he : es[i]? = some (.opn x s n)) (hj : sentAt (Rs.upto nodes es i) nodes s n = some j) (hx : x ∈ nodes) (hr : x ∈ recvAt es j)
    (hn : ((Rs.upto nodes es i).opens x).all (fun p => decide (p.1 ≠ j)) = true) :
    Inv1 H0 (upd H (g x) (.dK (putK (ops ((Rs.upto nodes es i).opens x)) (Sum.inl ((j : Nat) : Int)) (.int (i : Nat))))) nodes es d1 d2 f g (i + 1) := by
  have hg := I.o.own x hx
  refine ⟨I.ok.succ he ⟨j, hj, hr, hn⟩, same_put I.sm (F.ng x hx), ⟨(upd_ne (Ne.symm (F.g1 x hx))).trans I.s.at', fun y hy => ?_⟩, ⟨(upd_ne (Ne.symm (F.g2 x hx))).trans I.o.at', fun y hy => ?_⟩⟩
  · rw [upto_succ he]
    show _ = some (HO.lst (ixs ((Rs.upto nodes es i).sends y)))
    rw [upd_ne (ne_of (I.s.own y hy) hg (by intro z; cases z))]
    exact I.s.own y hy
  · rw [upto_succ he]
    show _ = some (HO.dK (ops (if y = x then (Rs.upto nodes es i).opens x ++ [((sentAt (Rs.upto nodes es i) nodes s n).getD 0, i)] else (Rs.upto nodes es i).opens y)))
    rw [hj]
    by_cases e : y = x
    · subst e
      rw [if_pos rfl, upd_same, putK_new]
      · simp [ops]
      · have := valV_ops (j := j) (l := (Rs.upto nodes es i).opens y)
        rw [hn] at this
        simpa using this
    · rw [if_neg e, upd_ne fun z => e (F.gi y hy x hx z)]
      exact I.o.own y hy
theorem not_ok {e : Ev} (hi : i < es.length) (he : es[i]? = some e) (h : ¬ evOk nodes es (Rs.upto nodes es i) e) : ¬ RunOk nodes es := fun ok => h (ok i hi e he)
end
theorem atI_last {xs : List V} {v : V} (h0 : 0 < xs.length) (h : xs[xs.length - 1]? = some v) : atI xs (-1) = some v := by
  have e : ixN xs.length (-1) = some (xs.length - 1) := by
    unfold ixN
    rw [if_neg (by decide), if_pos (by omega)]
    congr 1
    omega
  unfold atI
  rw [e]
  exact h
theorem len_ixs {l : List Nat} : (ixs l).length = l.length := List.length_map ..
theorem get_ixs {l : List Nat} {k j : Nat} (h : l[k]? = some j) : (ixs l)[k]? = some (.int (j : Nat)) := by
  rw [List.getElem?_map, h]
  rfl
theorem sends_len {nodes : List Str} {es : List Ev} {x : Str} : ∀ {i : Nat}, ((Rs.upto nodes es i).sends x).length ≤ i
  | 0 => Nat.le_refl _
  | i + 1 => by
    have ih := @sends_len nodes es x i
    cases he : es[i]? with
    | none =>
      have e : Rs.upto nodes es (i + 1) = Rs.upto nodes es i := by
        show (match es[i]? with | some e => (Rs.upto nodes es i).next nodes i e | none => Rs.upto nodes es i) = _
        rw [he]
      rw [e]
      omega
    | some e =>
      rw [upto_succ he]
      cases e with
      | opn y s n => exact Nat.le_succ_of_le ih
      | snd y rs =>
        show (if x = y then (Rs.upto nodes es i).sends y ++ [i] else (Rs.upto nodes es i).sends x).length ≤ _
        by_cases e : x = y
        · subst e
          rw [if_pos rfl, List.length_append]
          simpa using ih
        · rw [if_neg e]
          omega
theorem opens_len {nodes : List Str} {es : List Ev} {x : Str} : ∀ {i : Nat}, ((Rs.upto nodes es i).opens x).length ≤ i
  | 0 => Nat.le_refl _
  | i + 1 => by
    have ih := @opens_len nodes es x i
    cases he : es[i]? with
    | none =>
      have e : Rs.upto nodes es (i + 1) = Rs.upto nodes es i := by
        show (match es[i]? with | some e => (Rs.upto nodes es i).next nodes i e | none => Rs.upto nodes es i) = _
        rw [he]
      rw [e]
      omega
    | some e =>
      rw [upto_succ he]
      cases e with
      | snd y rs => exact Nat.le_succ_of_le ih
      | opn y s n =>
        show (if x = y then (Rs.upto nodes es i).opens y ++ [((sentAt (Rs.upto nodes es i) nodes s n).getD 0, i)] else (Rs.upto nodes es i).opens x).length ≤ _
        by_cases e : x = y
        · subst e
          rw [if_pos rfl, List.length_append]
          simpa using ih
        · rw [if_neg e]
          omega
end KA

set_option Elab.async false
set_option linter.all false
set_option maxRecDepth 100000
set_option maxHeartbeats 4000000
namespace L2.Dx
open PySem PySem.Spec PyProof.Rows L2
/-- two clauses: the outer one over a list that stays; R is what the inner loop is asked, given what it must reach -/
theorem dc2_outer {K : PySem.W.Frag} {a : Addr} {xs : List V} {g : TG} {o : HO} {vs : List Nat} {σ : St} {H1 : Hp} {D : Addr} {Qd : Hp → Prop} {R : St → Hp → (Hp → Prop) → Prop} (Pv : Nat → Hp → Prop) (h0 : Pv 0 (upd H1 D o)) (hl : ∀ i H, i ≤ xs.length → Pv i H → SqL K H a xs)
    (hs : ∀ i x H, xs[i]? = some x → Pv i H → g x (wipe σ vs) H fun σ2 H2 => wipe σ2 vs = wipe σ vs ∧ R σ2 H2 (Pv (i + 1))) (hd : ∀ H, Pv xs.length H → Qd H) :
    ∃ W : Nat → Nat → Hp → Prop, (∃ m, W 0 m (upd H1 D o)) ∧ ∀ i m H, W i m H →
      ((Itl K a).stop i H ∧ Qd H) ∨ ((Itl K a).go i H ∧ ∃ Nx : Hp → Prop, (∀ H', Nx H' → ∃ m', m' < m ∧ W (i + 1) m' H') ∧ ∀ x H', (Itl K a).yld i H x H' → g x (wipe σ vs) H' fun σ2 H2 => wipe σ2 vs = wipe σ vs ∧ R σ2 H2 Nx) := by
  refine ⟨fun i m H => m = xs.length - i ∧ i ≤ xs.length ∧ Pv i H, ⟨_, rfl, Nat.zero_le _, h0⟩, fun i m H ⟨em, hi, p⟩ => ?_⟩
  subst em
  rcases Nat.lt_or_ge i xs.length with lt | ge
  · refine .inr ⟨⟨xs, xs[i], hl i H hi p, List.getElem?_eq_getElem lt⟩, Pv (i + 1), fun H' p' => ⟨_, by omega, rfl, lt, p'⟩, fun x H' ⟨e, y⟩ => ?_⟩
    subst e
    exact hs i x _ (y xs (hl i _ hi p)) p
  · have e : xs.length = i := Nat.le_antisymm ge hi
    subst e
    exact .inl ⟨⟨xs, hl _ H hi p, Nat.le_refl _⟩, hd H p⟩
/-- the inner one over enumerate(list, start=k) -/
theorem dc2_inner {K : PySem.W.Frag} {a : Addr} {k0 : Int} {xs : List V} {g1 : TG} {vs1 : List Nat} {σ : St} {H1 : Hp} {Nx : Hp → Prop} {R : St → Hp → (Hp → Prop) → Prop} (P1 : Nat → Hp → Prop) (h0 : P1 0 H1) (hl : ∀ j H, j ≤ xs.length → P1 j H → SqL K H a xs)
    (hs : ∀ j x H T, xs[j]? = some x → P1 j H → H T = none → g1 (.ref T) (wipe σ vs1) (upd H T (.tup [.int (k0 + (j : Nat)), x])) fun σ3 H5 => wipe σ3 vs1 = wipe σ vs1 ∧ R σ3 H5 (P1 (j + 1))) (hd : ∀ H, P1 xs.length H → Nx H) :
    ∃ W1 : Nat → Nat → Hp → Prop, (∃ m, W1 0 m H1) ∧ ∀ j k H, W1 j k H →
      ((IteS K a k0).stop j H ∧ Nx H) ∨ ((IteS K a k0).go j H ∧ ∃ Nx1 : Hp → Prop, (∀ H', Nx1 H' → ∃ k', k' < k ∧ W1 (j + 1) k' H') ∧ ∀ x H', (IteS K a k0).yld j H x H' → g1 x (wipe σ vs1) H' fun σ3 H5 => wipe σ3 vs1 = wipe σ vs1 ∧ R σ3 H5 Nx1) := by
  refine ⟨fun i m H => m = xs.length - i ∧ i ≤ xs.length ∧ P1 i H, ⟨_, rfl, Nat.zero_le _, h0⟩, fun i m H ⟨em, hi, p⟩ => ?_⟩
  subst em
  rcases Nat.lt_or_ge i xs.length with lt | ge
  · refine .inr ⟨⟨xs, xs[i], hl i H hi p, List.getElem?_eq_getElem lt⟩, P1 (i + 1), fun H' p' => ⟨_, by omega, rfl, lt, p'⟩, fun v H' ⟨T, x, ev, nT, eH, y⟩ => ?_⟩
    subst ev eH
    exact hs i x _ T (y xs (hl i _ hi p)) p nT
  · have e : xs.length = i := Nat.le_antisymm ge hi
    subst e
    exact .inl ⟨⟨xs, hl _ H hi p, rfl⟩, hd H p⟩
end L2.Dx
namespace KA
open PySem PySem.Spec PyProof.Rows L2 L2.Dx
theorem cut_all (xs : List V) : cutV xs none none = xs := by
  unfold cutV
  rw [HT.sIx_none, HT.sIx_none]
  simp
/-! ### the messages of a run -/
def numFrom : Nat → List Nat → List (Nat × Nat)
  | _, [] => []
  | k, j :: t => (k, j) :: numFrom (k + 1) t
theorem numFrom_snoc (j : Nat) : ∀ (l : List Nat) (k : Nat), numFrom k (l ++ [j]) = numFrom k l ++ [(k + l.length, j)]
  | [], k => rfl
  | a :: t, k => by
    show (k, a) :: numFrom (k + 1) (t ++ [j]) = _
    rw [numFrom_snoc j t (k + 1), show k + (a :: t).length = k + 1 + t.length by rw [List.length_cons]; omega]
    rfl
theorem numFrom_mem {k a b : Nat} : ∀ {l : List Nat} {k : Nat}, (a, b) ∈ numFrom k l → k ≤ a ∧ a < k + l.length ∧ l[a - k]? = some b
  | [], _, h => nomatch h
  | j :: t, k, h => by
    rcases List.mem_cons.mp h with e | h
    · cases e
      refine ⟨Nat.le_refl _, by rw [List.length_cons]; omega, ?_⟩
      rw [Nat.sub_self]
      rfl
    · obtain ⟨h1, h2, h3⟩ := numFrom_mem (k := k) h
      refine ⟨by omega, by rw [List.length_cons]; omega, ?_⟩
      rw [show a - k = a - (k + 1) + 1 by omega, List.getElem?_cons_succ]
      exact h3
theorem numFrom_len : ∀ (l : List Nat) (k : Nat), (numFrom k l).length = l.length
  | [], _ => rfl
  | j :: t, k => by
    show (numFrom (k + 1) t).length + 1 = _
    rw [numFrom_len t]
    rfl
/-- (sender, number, place of the send) -/
abbrev Msg := Str × Nat × Nat
def msgsOf (x : Str) (l : List Nat) : List Msg := (numFrom 1 l).map fun p => (x, p.1, p.2)
def allMsgs (nodes : List Str) (S : Str → List Nat) : List Msg := nodes.flatMap fun x => msgsOf x (S x)
abbrev keyOf (t : Msg) : List Key := [Sum.inr t.1, Sum.inl ((t.2.1 : Nat) : Int)]
theorem valT_out {h : Msg → V} {k : List Key} : ∀ {L : List Msg}, (∀ t ∈ L, keyOf t ≠ k) → valV (L.map fun t => (keyOf t, h t)) k = none
  | [], _ => rfl
  | t :: r, hn => by
    rw [List.map_cons, valV_neg (hn t List.mem_cons_self)]
    exact valT_out fun u hu => hn u (List.mem_cons_of_mem _ hu)
theorem msgs_snoc {x : Str} {l : List Nat} {k j : Nat} (h : l[k]? = some j) : msgsOf x (l.take (k + 1)) = msgsOf x (l.take k) ++ [(x, k + 1, j)] := by
  unfold msgsOf
  rw [take_snoc h, numFrom_snoc, List.map_append]
  have : (l.take k).length = k := by
    rw [List.length_take]
    have := (List.getElem?_eq_some_iff.mp h).1
    omega
  rw [this, Nat.add_comm 1 k]
  rfl
theorem all_snoc {nodes : List Str} {S : Str → List Nat} {i : Nat} {x : Str} (h : nodes[i]? = some x) : allMsgs (nodes.take (i + 1)) S = allMsgs (nodes.take i) S ++ msgsOf x (S x) := by
  unfold allMsgs
  rw [take_snoc h, List.flatMap_append]
  simp
theorem msgsOf_mem {x : Str} {l : List Nat} {t : Msg} (h : t ∈ msgsOf x l) : t.1 = x ∧ 1 ≤ t.2.1 ∧ t.2.1 ≤ l.length ∧ l[t.2.1 - 1]? = some t.2.2 := by
  unfold msgsOf at h
  obtain ⟨⟨a, b⟩, hp, rfl⟩ := List.mem_map.mp h
  obtain ⟨h1, h2, h3⟩ := numFrom_mem (k := 0) hp
  exact ⟨rfl, h1, by show a ≤ _; omega, h3⟩
theorem all_mem {nodes : List Str} {S : Str → List Nat} {t : Msg} (h : t ∈ allMsgs nodes S) : t.1 ∈ nodes ∧ 1 ≤ t.2.1 ∧ t.2.1 ≤ (S t.1).length ∧ (S t.1)[t.2.1 - 1]? = some t.2.2 := by
  unfold allMsgs at h
  obtain ⟨x, hx, ht⟩ := List.mem_flatMap.mp h
  obtain ⟨rfl, h2⟩ := msgsOf_mem ht
  exact ⟨hx, h2⟩
/-- a dict from the messages L to lists of their receivers -/
structure MsgsAt (H0 H : Hp) (D : Addr) (es : List Ev) (L : List Msg) (h : Msg → Addr) : Prop where
  at' : H D = some (.dT (L.map fun t => (keyOf t, V.ref (h t))))
  own : ∀ t ∈ L, H (h t) = some (.lst ((recvAt es t.2.2).map V.str)) ∧ H0 (h t) = none ∧ h t ≠ D
  inj : ∀ t ∈ L, ∀ u ∈ L, h t = h u → t = u
theorem MsgsAt.same {H0 H H' : Hp} {D : Addr} {es : List Ev} {L : List Msg} {h : Msg → Addr} (M : MsgsAt H0 H D es L h) (s : Same H H') : MsgsAt H0 H' D es L h := ⟨s _ _ M.at', fun t ht => ⟨s _ _ (M.own t ht).1, (M.own t ht).2⟩, M.inj⟩
theorem MsgsAt.put {H0 H : Hp} {D p : Addr} {es : List Ev} {L : List Msg} {h : Msg → Addr} {u : Msg} (M : MsgsAt H0 H D es L h) (hu : ∀ t ∈ L, keyOf t ≠ keyOf u) (hp : H p = some (.lst ((recvAt es u.2.2).map V.str))) (h0 : H0 p = none) (hne : ∀ t ∈ L, h t ≠ p) :
    MsgsAt H0 (upd H D (.dT (putK (L.map fun t => (keyOf t, V.ref (h t))) (keyOf u) (.ref p)))) D es (L ++ [u]) (fun t => if t = u then p else h t) := by
  have nin : u ∉ L := fun z => hu u z rfl
  have pD : p ≠ D := ne_of hp M.at' (by intro z; cases z)
  refine ⟨?_, fun t ht => ?_, fun t ht v hv => ?_⟩
  · rw [upd_same, putK_new _ (valT_out hu), List.map_append]
    congr 2
    congr 1
    · refine List.map_congr_left fun t ht => ?_
      rw [if_neg fun (z : t = u) => nin (by rw [← z]; exact ht)]
    · simp
  · by_cases e : t = u
    · rw [if_pos e, upd_ne pD, e]
      exact ⟨hp, h0, pD⟩
    · have k := M.own t ((List.mem_append.mp ht).resolve_right fun z => e (List.mem_singleton.mp z))
      rw [if_neg e, upd_ne k.2.2]
      exact k
  · by_cases e : t = u <;> by_cases e' : v = u
    · intro _; rw [e, e']
    · rw [if_pos e, if_neg e']
      exact fun z => absurd z.symm (hne v ((List.mem_append.mp hv).resolve_right fun z => e' (List.mem_singleton.mp z)))
    · rw [if_neg e, if_pos e']
      exact fun z => absurd z (hne t ((List.mem_append.mp ht).resolve_right fun z => e (List.mem_singleton.mp z)))
    · rw [if_neg e, if_neg e']
      exact M.inj t ((List.mem_append.mp ht).resolve_right fun z => e (List.mem_singleton.mp z)) v ((List.mem_append.mp hv).resolve_right fun z => e' (List.mem_singleton.mp z))
end KA

set_option Elab.async false
set_option linter.all false
set_option maxRecDepth 100000
set_option maxHeartbeats 4000000
namespace KA
open PySem PySem.Spec PyProof.Rows L2 L2.Dx
def TextsOk (es : List Ev) : Prop := ∀ (i : Nat) (x : Str) (rs : List Str), es[i]? = some (.snd x rs) → PyData.canLayAll0 (rs.map PyData.str) = true
/-! ### runs that grow -/
abbrev rsOf (nodes : List Str) (es : List Ev) : Rs := Rs.upto nodes es es.length
theorem upto_app {nodes : List Str} {es t : List Ev} : ∀ {i : Nat}, i ≤ es.length → Rs.upto nodes (es ++ t) i = Rs.upto nodes es i
  | 0, _ => rfl
  | i + 1, h => by
    have e : (es ++ t)[i]? = es[i]? := List.getElem?_append_left (by omega)
    show (match (es ++ t)[i]? with | some e => (Rs.upto nodes (es ++ t) i).next nodes i e | none => Rs.upto nodes (es ++ t) i) = (match es[i]? with | some e => (Rs.upto nodes es i).next nodes i e | none => Rs.upto nodes es i)
    rw [e, upto_app (by omega)]
theorem recvAt_app {es t : List Ev} {j : Nat} (h : j < es.length) : recvAt (es ++ t) j = recvAt es j := by
  unfold recvAt
  rw [List.getElem?_append_left h]
theorem rsOf_snoc {nodes : List Str} {es : List Ev} {e : Ev} : rsOf nodes (es ++ [e]) = (rsOf nodes es).next nodes es.length e := by
  unfold rsOf
  rw [show (es ++ [e]).length = es.length + 1 by simp, upto_succ (i := es.length) (e := e) (by simp), upto_app (Nat.le_refl _)]
theorem sentAt_lt {nodes : List Str} {es : List Ev} {s : Str} {n : Int} {j : Nat} (ok : RunOk nodes es) (h : sentAt (rsOf nodes es) nodes s n = some j) : j < es.length := (sends_ok ok (sentAt_mem h).2.2.2).2.1
theorem evOk_app {nodes : List Str} {es t : List Ev} {i : Nat} {e : Ev} (ok : OkTo nodes es i) (hi : i ≤ es.length) : evOk nodes (es ++ t) (Rs.upto nodes (es ++ t) i) e ↔ evOk nodes es (Rs.upto nodes es i) e := by
  rw [upto_app hi]
  cases e with
  | snd x rs => exact Iff.rfl
  | opn x s n =>
    constructor
    · rintro ⟨j, h1, h2, h3⟩
      have lt := (sends_ok ok (sentAt_mem h1).2.2.2).2.1
      exact ⟨j, h1, by rw [← recvAt_app (t := t) (by omega)]; exact h2, h3⟩
    · rintro ⟨j, h1, h2, h3⟩
      have lt := (sends_ok ok (sentAt_mem h1).2.2.2).2.1
      exact ⟨j, h1, by rw [recvAt_app (t := t) (by omega)]; exact h2, h3⟩
theorem runOk_app {nodes : List Str} {es t : List Ev} (ok : RunOk nodes es) : OkTo nodes (es ++ t) es.length := fun i hi e he => by
  rw [List.getElem?_append_left hi] at he
  exact (evOk_app (fun j hj => ok j (by omega)) (by omega)).mpr (ok i hi e he)
theorem runOk_snoc {nodes : List Str} {es : List Ev} {e : Ev} (ok : RunOk nodes es) (h : evOk nodes es (rsOf nodes es) e) : RunOk nodes (es ++ [e]) := by
  unfold RunOk
  rw [show (es ++ [e]).length = es.length + 1 by simp]
  exact (runOk_app ok).succ (e := e) (by simp) ((evOk_app ok (Nat.le_refl _)).mpr h)
theorem not_runOk_snoc {nodes : List Str} {es : List Ev} {e : Ev} (ok : RunOk nodes es) (h : ¬ evOk nodes es (rsOf nodes es) e) : ¬ RunOk nodes (es ++ [e]) := fun ok' =>
  h ((evOk_app ok (Nat.le_refl _)).mp (ok' es.length (by simp) e (by simp)))
/-- who opens twice -/
theorem opened_in {nodes : List Str} {es : List Ev} : ∀ {k : Nat}, OkTo nodes es k → ∀ {i : Nat} {x s : Str} {n : Int}, i < k → es[i]? = some (.opn x s n) → ∃ j, sentAt (Rs.upto nodes es k) nodes s n = some j ∧ x ∈ recvAt es j ∧ (j, i) ∈ (Rs.upto nodes es k).opens x
  | 0, _, i, _, _, _, hi, _ => absurd hi (Nat.not_lt_zero _)
  | k + 1, ok, i, x, s, n, hi, he => by
    have ih := @opened_in nodes es k (fun j hj => ok j (by omega))
    cases hk : es[k]? with
    | none =>
      have h1 := (List.getElem?_eq_some_iff.mp he).1
      have h2 := List.getElem?_eq_none_iff.mp hk
      by_cases c : i = k
      · omega
      · have e : Rs.upto nodes es (k + 1) = Rs.upto nodes es k := by
          show (match es[k]? with | some e => (Rs.upto nodes es k).next nodes k e | none => Rs.upto nodes es k) = _
          rw [hk]
        rw [e]
        exact ih (by omega) he
    | some e =>
      rw [upto_succ hk]
      have keep : ∀ {j : Nat}, sentAt (Rs.upto nodes es k) nodes s n = some j → sentAt ((Rs.upto nodes es k).next nodes k e) nodes s n = some j := fun {j} h => by
        unfold sentAt at h ⊢
        by_cases c : s ∈ nodes ∧ 0 < n
        · rw [if_pos c] at h ⊢
          cases e with
          | opn y t m => exact h
          | snd y rs =>
            show (if s = y then (Rs.upto nodes es k).sends y ++ [k] else (Rs.upto nodes es k).sends s)[(n - 1).toNat]? = some j
            by_cases c2 : s = y
            · subst c2
              rw [if_pos rfl, List.getElem?_append_left (List.getElem?_eq_some_iff.mp h).1]
              exact h
            · rw [if_neg c2]
              exact h
        · rw [if_neg c] at h
          cases h
      by_cases c : i = k
      · subst c
        rw [he] at hk
        cases hk
        obtain ⟨j, h1, h2, h3⟩ := ok i (by omega) _ he
        refine ⟨j, keep h1, h2, ?_⟩
        show (j, i) ∈ (if x = x then (Rs.upto nodes es i).opens x ++ [((sentAt (Rs.upto nodes es i) nodes s n).getD 0, i)] else (Rs.upto nodes es i).opens x)
        rw [if_pos rfl, h1]
        simp
      · obtain ⟨j, h1, h2, h3⟩ := ih (by omega) he
        refine ⟨j, keep h1, h2, ?_⟩
        cases e with
        | snd y rs => exact h3
        | opn y t m =>
          show (j, i) ∈ (if x = y then (Rs.upto nodes es k).opens y ++ [((sentAt (Rs.upto nodes es k) nodes t m).getD 0, k)] else (Rs.upto nodes es k).opens x)
          by_cases c2 : x = y
          · subst c2
            rw [if_pos rfl]
            exact List.mem_append_left _ h3
          · rw [if_neg c2]
            exact h3
theorem not_again {nodes : List Str} {es : List Ev} {i : Nat} {x s : Str} {n : Int} (ok : RunOk nodes es) (he : es[i]? = some (.opn x s n)) : ¬ RunOk nodes (es ++ [.opn x s n]) := by
  refine not_runOk_snoc ok ?_
  rintro ⟨j, h1, h2, h3⟩
  obtain ⟨j', k1, k2, k3⟩ := opened_in ok (List.getElem?_eq_some_iff.mp he).1 he
  rw [h1] at k1
  cases k1
  rw [List.all_eq_true] at h3
  have := h3 _ k3
  simp at this
/-! ### opens that wait -/
structure Pend where
  x : Str
  s : Str
  n : Int
  j : Nat
abbrev Pend.ev (p : Pend) : Ev := .opn p.x p.s p.n
structure MInv (nodes : List Str) (es : List Ev) (pend : List Pend) : Prop where
  ok : RunOk nodes es
  nd : (pend.map fun p => (p.x, p.j)).Nodup
  good : ∀ p ∈ pend, sentAt (rsOf nodes es) nodes p.s p.n = some p.j ∧ p.x ∈ recvAt es p.j ∧ ((rsOf nodes es).opens p.x).all (fun q => decide (q.1 ≠ p.j)) = true
theorem sentAt_snoc {nodes : List Str} {es : List Ev} {e : Ev} {s : Str} {n : Int} {j : Nat} (h : sentAt (rsOf nodes es) nodes s n = some j) : sentAt (rsOf nodes (es ++ [e])) nodes s n = some j := by
  rw [rsOf_snoc]
  unfold sentAt at h ⊢
  by_cases c : s ∈ nodes ∧ 0 < n
  · rw [if_pos c] at h ⊢
    cases e with
    | opn y t m => exact h
    | snd y rs =>
      show (if s = y then (rsOf nodes es).sends y ++ [es.length] else (rsOf nodes es).sends s)[(n - 1).toNat]? = some j
      by_cases c2 : s = y
      · subst c2
        rw [if_pos rfl, List.getElem?_append_left (List.getElem?_eq_some_iff.mp h).1]
        exact h
      · rw [if_neg c2]
        exact h
  · rw [if_neg c] at h
    cases h
theorem opens_lt {nodes : List Str} {es : List Ev} {x : Str} : ∀ {k : Nat}, OkTo nodes es k → ∀ p ∈ (Rs.upto nodes es k).opens x, p.1 < k
  | 0, _, p, h => nomatch h
  | k + 1, ok, p, h => by
    have ih := @opens_lt nodes es x k fun j hj => ok j (by omega)
    cases hk : es[k]? with
    | none =>
      have e : Rs.upto nodes es (k + 1) = Rs.upto nodes es k := by
        show (match es[k]? with | some e => (Rs.upto nodes es k).next nodes k e | none => Rs.upto nodes es k) = _
        rw [hk]
      rw [e] at h
      have := ih p h
      omega
    | some e =>
      rw [upto_succ hk] at h
      cases e with
      | snd y rs =>
        have := ih p h
        omega
      | opn y t m =>
        have h : p ∈ (if x = y then (Rs.upto nodes es k).opens y ++ [((sentAt (Rs.upto nodes es k) nodes t m).getD 0, k)] else (Rs.upto nodes es k).opens x) := h
        by_cases c2 : x = y
        · subst c2
          rw [if_pos rfl] at h
          rcases List.mem_append.mp h with h | h
          · have := ih p h
            omega
          · rw [List.mem_singleton.mp h]
            obtain ⟨j, h1, _⟩ := ok k (by omega) _ hk
            rw [h1]
            have := (sends_ok (fun j hj => ok j (by omega)) (sentAt_mem h1).2.2.2).2.1
            show j < k + 1
            omega
        · rw [if_neg c2] at h
          have := ih p h
          omega
def newPend (nodes : List Str) (es : List Ev) (x : Str) (rs : List Str) : List Pend := rs.map fun r => ⟨r, x, (((rsOf nodes es).sends x).length + 1 : Nat), es.length⟩
theorem MInv.send {nodes : List Str} {es : List Ev} {pend : List Pend} {x : Str} {rs : List Str} (M : MInv nodes es pend) (hx : x ∈ nodes) (hr : recvB nodes x rs = true) (hnd : rs.Nodup) : MInv nodes (es ++ [.snd x rs]) (pend ++ newPend nodes es x rs) := by
  refine ⟨runOk_snoc M.ok ⟨hx, hr⟩, ?_, fun p hp => ?_⟩
  · rw [List.map_append, List.nodup_append]
    refine ⟨M.nd, ?_, ?_⟩
    · unfold newPend
      rw [List.map_map]
      refine List.Pairwise.map (S := fun a b => a ≠ b) _ (fun a b hab h => hab ?_) hnd
      exact (Prod.mk.inj h).1
    · intro a ha b hb e
      obtain ⟨p, hp, rfl⟩ := List.mem_map.mp ha
      obtain ⟨q, hq, rfl⟩ := List.mem_map.mp hb
      obtain ⟨r, _, rfl⟩ := List.mem_map.mp hq
      have := sentAt_lt M.ok (M.good p hp).1
      have e2 : p.j = es.length := (Prod.mk.inj e).2
      omega
  · rcases List.mem_append.mp hp with hp | hp
    · obtain ⟨h1, h2, h3⟩ := M.good p hp
      refine ⟨sentAt_snoc h1, by rw [recvAt_app (sentAt_lt M.ok h1)]; exact h2, ?_⟩
      rw [rsOf_snoc]
      exact h3
    · obtain ⟨r, hr', rfl⟩ := List.mem_map.mp hp
      refine ⟨?_, ?_, ?_⟩
      · rw [rsOf_snoc]
        unfold sentAt
        rw [if_pos ⟨hx, by show (0 : Int) < ((((rsOf nodes es).sends x).length + 1 : Nat) : Int); omega⟩]
        show (if x = x then (rsOf nodes es).sends x ++ [es.length] else (rsOf nodes es).sends x)[(((((rsOf nodes es).sends x).length + 1 : Nat) : Int) - 1).toNat]? = some es.length
        rw [if_pos rfl, show (((((rsOf nodes es).sends x).length + 1 : Nat) : Int) - 1).toNat = ((rsOf nodes es).sends x).length by omega]
        simp
      · show r ∈ recvAt (es ++ [.snd x rs]) es.length
        rw [recvAt_snd (x := x) (rs := rs) (by simp)]
        exact hr'
      · show ((rsOf nodes (es ++ [.snd x rs])).opens r).all (fun q => decide (q.1 ≠ es.length)) = true
        rw [rsOf_snoc]
        show ((rsOf nodes es).opens r).all (fun q => decide (q.1 ≠ es.length)) = true
        rw [List.all_eq_true]
        intro q hq
        have := opens_lt M.ok q hq
        simp
        omega
theorem MInv.open {nodes : List Str} {es : List Ev} {ps : List Pend} {p : Pend} (M : MInv nodes es (ps ++ [p])) : MInv nodes (es ++ [p.ev]) ps := by
  obtain ⟨h1, h2, h3⟩ := M.good p (by simp)
  have nd := M.nd
  rw [List.map_append, List.nodup_append] at nd
  refine ⟨runOk_snoc M.ok ⟨p.j, h1, h2, h3⟩, nd.1, fun q hq => ?_⟩
  obtain ⟨k1, k2, k3⟩ := M.good q (List.mem_append_left _ hq)
  refine ⟨sentAt_snoc k1, by rw [recvAt_app (sentAt_lt M.ok k1)]; exact k2, ?_⟩
  rw [rsOf_snoc]
  show (if q.x = p.x then (rsOf nodes es).opens p.x ++ [((sentAt (rsOf nodes es) nodes p.s p.n).getD 0, es.length)] else (rsOf nodes es).opens q.x).all (fun r => decide (r.1 ≠ q.j)) = true
  by_cases c : q.x = p.x
  · rw [if_pos c, h1, List.all_append, ← c, k3]
    have : p.j ≠ q.j := fun e => nd.2.2 (q.x, q.j) (List.mem_map.mpr ⟨q, hq, rfl⟩) (p.x, p.j) (by simp) (by rw [c, e])
    simp [this]
  · rw [if_neg c]
    exact k3
theorem MInv.rev {nodes : List Str} {es : List Ev} {ps : List Pend} (M : MInv nodes es ps) : MInv nodes es ps.reverse :=
  ⟨M.ok, by rw [List.map_reverse]; exact List.pairwise_reverse.mpr (M.nd.imp fun h e => h e.symm), fun p hp => M.good p (List.mem_reverse.mp hp)⟩
theorem recvB_sub {nodes rs : List Str} {x : Str} (hn : NodesOk nodes) (hs : rs.Sublist nodes) (h0 : rs ≠ []) (hx : ∀ r ∈ rs, r ≠ x) : recvB nodes x rs = true := by
  unfold recvB
  rw [recvGo_of (fun r hr => ⟨hs.subset hr, hx r hr, empty_lt (hn.nm r (hs.subset hr))⟩) (hn.asc.sublist hs)]
  cases rs with
  | nil => exact absurd rfl h0
  | cons _ _ => rfl
theorem name_strOk {z : Str} (h : NameOk z) : PyData.canLay0 (.str z) = true := by
  show z.cps.all (· < 0x110000) = true
  rw [← Array.all_toList, List.all_eq_true]
  intro c hc
  have := h.az c hc
  simp
  omega
theorem names_canLay : ∀ {rs : List Str}, (∀ r ∈ rs, NameOk r) → PyData.canLayAll0 (rs.map PyData.str) = true
  | [], _ => rfl
  | r :: t, h => by
    show (PyData.canLay0 (.str r) && PyData.canLayAll0 (t.map PyData.str)) = true
    rw [name_strOk (h r List.mem_cons_self), names_canLay fun y hy => h y (List.mem_cons_of_mem _ hy)]
    rfl
theorem texts_of {nodes : List Str} {es : List Ev} (hn : NodesOk nodes) (ok : RunOk nodes es) : TextsOk es := fun i x rs he =>
  names_canLay fun r hr => hn.nm r (recvB_mem (ok i (List.getElem?_eq_some_iff.mp he).1 _ he).2 hr).1
end KA

set_option Elab.async false
set_option linter.all false
set_option maxRecDepth 100000
set_option maxHeartbeats 16000000
namespace KA
open PySem PySem.Spec PyProof.Rows L2 L2.Dx
theorem shaped_strs {rs : List Str} (h : PyData.canLayAll0 (rs.map PyData.str) = true) : SeqAt.shaped (.list (rs.map PyData.str)) = true := by
  unfold SeqAt.shaped
  rw [show (PyData.list (rs.map PyData.str)).canLay0 = PyData.canLayAll0 (rs.map PyData.str) from rfl, h, show (PyData.list (rs.map PyData.str)).depth = PyData.depthAll (rs.map PyData.str) + 1 from rfl, depth_strs]
  rfl
section
variable {P : Program} {w : World} {K : PySem.W.Frag} {mg : Str → Option Value} {base : Heap}
def sp_scan_run (K : PySem.W.Frag) : Sp := fun vs H Q _ => ∃ (N R : Addr) (nodes : List Str) (as : List Addr) (es : List Ev), vs = [.ref N, .ref R] ∧ H N = some (.lst (nodes.map V.str)) ∧ NodesOk nodes ∧ RunAt H R as es ∧ es.length ≤ 1000 ∧ TextsOk es ∧
  (¬ RunOk nodes es → ∀ H', Same H H' → Q .non H') ∧
  (RunOk nodes es → ∀ (H' : Hp) (p d1 d2 : Addr) (f g : Str → Addr), Same H H' → H p = none → H' p = some (.tup [.ref d1, .ref d2]) → SendsAt H' d1 nodes f (Rs.upto nodes es es.length).sends → OpensAt H' d2 nodes g (Rs.upto nodes es es.length).opens → Q (.ref p) H')
theorem ok_scan_run (T : Txt K mg) : FnOk P w K mg base CX0 2 T.f_scan_run T.fd_scan_run ["nodes", "value"] (sp_scan_run K) := by
  refine T.F_scan_run.ok sc_scan_run (fun vs H Q E h => ?_) (fun cdv A outer s H vs Q E hr h => ?_)
  · obtain ⟨N, R, nodes, as, es, rfl, _⟩ := h
    rfl
  · obtain ⟨N, R, nodes, as, es, rfl, hN, hn, hR, hlen, htx, qN, qY⟩ := h
    refine ⟨_, (pss_cons (ps_if (pt_not (pt_val (pe_callB call_isi (by rfl) T.m_isinstance (by decide +kernel) (pa_cons (pv 1) (pa_cons (pe_bltn (v := .ty "list") (by rfl) T.m_list (by decide +kernel) rfl) pa_nil)))))
      (pss_one (ps_ret pe_non))
      pss_nil)
    (pss_cons (ps_setDc (i := 2) (own := [("node", 7)]) rfl sc_scan_run.nd rfl rfl (swd_true rfl rfl rfl (by decide +kernel)) (pi_list (pv 0)) (blkOk_by (N := ["nodes", "value", "sends", "opens", "index", "event", "kind", "node", "detail", "own", "sender", "number", "sent"]) (sc := defScope s_scan_run) (by decide +kernel)) (fun _ _ _ _ _ => (pg_name (i := 7) sc_scan_run.nd rfl (by first | exact .inl rfl | exact .inr rfl))) (fun _ _ _ _ _ => pts_nil) (fun _ _ _ _ _ => (pv 7)) (fun _ _ _ _ _ => (pe_lst pa_nil)))
    (pss_cons (ps_setDc (i := 3) (own := [("node", 7)]) rfl sc_scan_run.nd rfl rfl (swd_true rfl rfl rfl (by decide +kernel)) (pi_list (pv 0)) (blkOk_by (N := ["nodes", "value", "sends", "opens", "index", "event", "kind", "node", "detail", "own", "sender", "number", "sent"]) (sc := defScope s_scan_run) (by decide +kernel)) (fun _ _ _ _ _ => (pg_name (i := 7) sc_scan_run.nd rfl (by first | exact .inl rfl | exact .inr rfl))) (fun _ _ _ _ _ => pts_nil) (fun _ _ _ _ _ => (pv 7)) (fun _ _ _ _ _ => pe_dnewK))
    (pss_cons (ps_for PassesOwn.never rfl (pi_enum (by rfl) T.m_enumerate (pa_cons (pv 1) pa_nil)) (pg_tup rfl (pgs_cons (pg_name (i := 4) sc_scan_run.nd rfl (by first | exact .inl rfl | exact .inr rfl)) (pgs_cons (pg_name (i := 5) sc_scan_run.nd rfl (by first | exact .inl rfl | exact .inr rfl)) pgs_nil)))
      (pss_cons (ps_if (PW.pt (pw_or (pt_not (pt_val (pe_callB call_isi (by rfl) T.m_isinstance (by decide +kernel) (pa_cons (pv 5) (pa_cons (pe_bltn (v := .ty "tuple") (by rfl) T.m_tuple (by decide +kernel) rfl) pa_nil))))) (pw_or1 (pt_cmpR op_ne (pe_callB call_len_seq (by rfl) T.m_len PySem.boot_len (pa_cons (pv 5) pa_nil)) pe_int (nomark _)))))
        (pss_one (ps_ret pe_non))
        pss_nil)
      (pss_cons (ps_asg (pv 5) (pg_tup rfl (pgs_cons (pg_name (i := 6) sc_scan_run.nd rfl (by first | exact .inl rfl | exact .inr rfl)) (pgs_cons (pg_name (i := 7) sc_scan_run.nd rfl (by first | exact .inl rfl | exact .inr rfl)) (pgs_cons (pg_name (i := 8) sc_scan_run.nd rfl (by first | exact .inl rfl | exact .inr rfl)) pgs_nil)))))
      (pss_one (ps_if (pt_cmpR op_eq (pv 6) pe_str (nomark _))
        (pss_cons (ps_if (PW.pt (pw_or (pt_not (pt_val (pe_callB call_isi (by rfl) T.m_isinstance (by decide +kernel) (pa_cons (pv 7) (pa_cons (pe_bltn (v := .ty "str") (by rfl) T.m_str (by decide +kernel) rfl) pa_nil))))) (pw_or1 (pt_cmp (pc_dnotin (hu_of hr) (pv 7) (pv 2))))))
          (pss_one (ps_ret pe_non))
          pss_nil)
        (pss_cons (ps_set (i := 9) sc_scan_run.nd rfl (by first | exact .inl rfl | exact .inr rfl) (pe_dget (hu_of hr) (pv 2) (pv 7) (fun _ _ => rfl)))
        (pss_cons (ps_if (PW.pt (pw_and (PW.pt (pw_or (pt_not (pt_truth (pv 9) (fun _ => rfl))) (pw_or1 (pt_cmpR (op_neD hr.units) (pv 8) (pe_ix ix_tup (pe_ix ix_list (pv 1) (pe_ix ix_list (pv 9) (pe_un un_neg pe_int) (fun _ _ => rfl)) (fun _ _ => rfl)) pe_int (fun _ _ => rfl)) (nomark _))))) (pw_and1 (pt_not (pt_val (pe_call (ok_is_receivers T) (hr.mono (by decide)) rfl T.M_is_receivers T.F_is_receivers.kp (b_is_receivers T) .nil pass0 (pa_cons (pv 2) (pa_cons (pv 7) (pa_cons (pv 8) pa_nil)))))))))
          (pss_one (ps_ret pe_non))
          pss_nil)
        (pss_one (ps_expr (pe_bm PySem.F.plainAttrs_list PySem.F.slot_list_append PySem.F.type_list_append mt_append (pv 9) (pa_cons (pv 4) pa_nil)))))))
        (pss_one (ps_if (pt_cmpR op_eq (pv 6) pe_str (nomark _))
          (pss_cons (ps_if (PW.pt (pw_or (pt_not (pt_val (pe_callB call_isi (by rfl) T.m_isinstance (by decide +kernel) (pa_cons (pv 8) (pa_cons (pe_bltn (v := .ty "tuple") (by rfl) T.m_tuple (by decide +kernel) rfl) pa_nil))))) (pw_or1 (pt_cmpR op_ne (pe_callB call_len_seq (by rfl) T.m_len PySem.boot_len (pa_cons (pv 8) pa_nil)) pe_int (nomark _)))))
            (pss_one (ps_ret pe_non))
            pss_nil)
          (pss_cons (ps_asg (pv 8) (pg_tup rfl (pgs_cons (pg_name (i := 10) sc_scan_run.nd rfl (by first | exact .inl rfl | exact .inr rfl)) (pgs_cons (pg_name (i := 11) sc_scan_run.nd rfl (by first | exact .inl rfl | exact .inr rfl)) pgs_nil))))
          (pss_cons (ps_if (PW.pt (pw_or (pt_not (pt_val (pe_callB call_isi (by rfl) T.m_isinstance (by decide +kernel) (pa_cons (pv 10) (pa_cons (pe_bltn (v := .ty "str") (by rfl) T.m_str (by decide +kernel) rfl) pa_nil))))) (pw_or (pt_cmp (pc_dnotin (hu_of hr) (pv 10) (pv 2))) (pw_or (pt_not (pt_val (pe_callB call_isi (by rfl) T.m_isinstance (by decide +kernel) (pa_cons (pv 11) (pa_cons (pe_bltn (v := .ty "int") (by rfl) T.m_int (by decide +kernel) rfl) pa_nil))))) (pw_or1 (pt_cmpR op_is_ib (pv 11) pe_bl (nomark _)))))))
            (pss_one (ps_ret pe_non))
            pss_nil)
          (pss_cons (ps_set (i := 9) sc_scan_run.nd rfl (by first | exact .inl rfl | exact .inr rfl) (pe_dget (hu_of hr) (pv 2) (pv 10) (fun _ _ => rfl)))
          (pss_cons (ps_if (pt_not (pt_chain op_lt op_le pe_int (pv 11) (pe_callB call_len_seq (by rfl) T.m_len PySem.boot_len (pa_cons (pv 9) pa_nil))))
            (pss_one (ps_ret pe_non))
            pss_nil)
          (pss_cons (ps_set (i := 12) sc_scan_run.nd rfl (by first | exact .inl rfl | exact .inr rfl) (pe_ix ix_list (pv 9) (pe_op op_sub (pv 11) pe_int) (fun _ _ => rfl)))
          (pss_cons (ps_if (PW.pt (pw_or (pt_cmpR op_notIn_seq (pv 7) (pe_ix ix_tup (pe_ix ix_list (pv 1) (pv 12) (fun _ _ => rfl)) pe_int (fun _ _ => rfl)) rfl) (pw_or1 (pt_cmp (pc_din (hu_of hr) (pv 12) (pe_dget (hu_of hr) (pv 3) (pv 7) (fun _ _ => rfl)))))))
            (pss_one (ps_ret pe_non))
            pss_nil)
          (pss_one (ps_dput (hu_of hr) (pe_dget (hu_of hr) (pv 3) (pv 7) (fun _ _ => rfl)) (pv 12) (pv 4) rfl)))))))))
          (pss_one (ps_ret pe_non)))))))))
    (pss_one (ps_ret (pe_tup (pa_cons (pv 2) (pa_cons (pv 3) pa_nil))))))))), ?_⟩
    have nd := hn.nodup
    have n12 := hn.hi
    refine ⟨.ref R, rfl, _, _, _, _, true, rfl, .ty "list", .base (.lst hR.at'), kit_ty (by decide +kernel), true, rfl, iteF ?_⟩
    -- sends
    refine ⟨.ref N, rfl, N, rfl, ⟨_, ltI hN⟩, fun d1 hd1 => dc_nodes (o0 := .lst []) (show 7 < 13 by decide) hN nd (by omega) hd1 (fun σ H Q q => ⟨Nat.zero_le _, q⟩) fun H1 f s1 e1 f1 fi => ?_⟩
    -- opens
    refine ⟨.ref N, rfl, N, rfl, ⟨_, ltI (s1 _ _ hN)⟩, fun d2 hd2 => dc_nodes (o0 := .dK []) (show 7 < 13 by decide) (s1 _ _ hN) nd (by omega) hd2 (fun σ H Q q => q) fun H2 g s2 e2 g1 gi => ?_⟩
    have s02 : Same H H2 := s1.trans s2
    have FX : Fix H nodes d1 d2 f g := ⟨hd1, s1.free hd2, fun x hx => (f1 x hx).2.1, fun x hx => s1.free (g1 x hx).2.1, fi, gi, fun x hx z => (by
      have := (g1 x hx).2.1
      rw [z, e1] at this
      cases this), fun x hx => (g1 x hx).2.2⟩
    have I0 : Inv1 H H2 nodes es d1 d2 f g 0 := ⟨fun i hi => absurd hi (Nat.not_lt_zero _), s02, ⟨s2 _ _ e1, fun x hx => s2 _ _ (f1 x hx).1⟩, ⟨e2, fun x hx => (g1 x hx).1⟩⟩
    refine ⟨.ref R, rfl, R, _, rfl, ltI (s02 _ _ hR.at'), for_enum (xs := as.map V.ref) (fun i σ H' => Inv1 H H' nodes es d1 d2 f g i ∧ ∃ y4 y5 y6 y7 y8 y9 y10 y11 y12, σ = [some (.ref N), some (.ref R), some (.ref d1), some (.ref d2), y4, y5, y6, y7, y8, y9, y10, y11, y12]) ?_ ?_ ?_ ?_⟩
    · exact ⟨I0, none, none, none, none, none, none, none, none, none, rfl⟩
    · exact fun i σ H' _ hI => ltI (hI.1.sm _ _ hR.at')
    · rintro i v σ H' Tp hx ⟨I, y4, y5, y6, y7, y8, y9, y10, y11, y12, rfl⟩ hT
      rw [List.getElem?_map] at hx
      obtain ⟨a, ha, rfl⟩ := Option.map_eq_some_iff.mp hx
      have hia : i < es.length := by rw [← hR.len]; exact (List.getElem?_eq_some_iff.mp ha).1
      obtain ⟨e, he⟩ : ∃ e, es[i]? = some e := ⟨_, List.getElem?_eq_getElem hia⟩
      have hev0 : EvAt H a e := hR.ev i a e ha he
      refine ⟨Tp, _, rfl, tpI upd_same, rfl, _, _, rfl, _, _, rfl, rfl, ?_⟩
      have I1 := I.new (o := .tup [.int (i : Nat), .ref a]) hT
      have hev := hev0.same I1.sm
      have hRv : RunAt (upd H' Tp (.tup [.int (i : Nat), .ref a])) R as es := hR.same I1.sm
      generalize upd H' Tp (.tup [.int (i : Nat), .ref a]) = H3 at I1 hev hRv ⊢
      clear I hx hT
      have li : i < 1000 := by omega
      cases e with
      | snd x rs =>
        obtain ⟨l, hl1, hl2⟩ := hev
        refine ⟨.ref a, rfl, _, _, _, _, true, rfl, .ty "tuple", .base (.tup hl1), kit_ty (by decide +kernel), true, rfl, iteF ?_⟩
        refine ⟨.ref a, rfl, a, _, rfl, .inr (tpI hl1), rfl, false, rfl, iteF ?_⟩
        refine ⟨.ref a, rfl, a, _, rfl, tpI hl1, rfl, _, _, rfl, _, _, rfl, _, _, rfl, rfl, ?_⟩
        refine ⟨_, rfl, rfl, true, rfl, iteT ?_⟩
        refine ⟨.str x, rfl, _, _, _, _, true, rfl, .ty "str", .base (.str x), kit_ty (by decide +kernel), true, rfl, iteF ?_⟩
        refine ⟨.str x, rfl, .ref d1, rfl, d1, _, rfl, DGet.k (k := Sum.inr x) I1.s.at', _, rfl, ?_⟩
        by_cases c1 : x ∈ nodes
        · rw [valV_in c1]
          have hdg : DGet H3 d1 (.str x) (some (.ref (f x))) := by
            rw [← valV_in (h := fun x => V.ref (f x)) c1]
            exact DGet.k (k := Sum.inr x) I1.s.at'
          have own := I1.s.own x c1
          refine iteF ⟨.ref d1, rfl, .str x, rfl, d1, _, rfl, hdg, ?_⟩
          have step : recvB nodes x rs = true → Inv1 H (upd H3 (f x) (.lst (ixs ((Rs.upto nodes es i).sends x) ++ [.int (i : Nat)]))) nodes es d1 d2 f g (i + 1) := fun c2 => I1.send FX he c1 c2
          have bad : ¬ recvB nodes x rs = true → ∀ H', Same H H' → Q .non H' := fun c2 => qN (not_ok hia he fun z => c2 z.2)
          have hsl : ((Rs.upto nodes es i).sends x).length ≤ i := sends_len
          refine ⟨.ref (f x), rfl, !(ixs ((Rs.upto nodes es i).sends x)).isEmpty, .inl ⟨_, ltI own, rfl⟩, ?_⟩
          by_cases c0 : (Rs.upto nodes es i).sends x = []
          · rw [c0]
            refine iteT (iteT ?_)
            refine ⟨.ref d1, rfl, .str x, rfl, .ref l, rfl, d1, l, _, nodes, rs, x, rfl, I1.s.at', keys_map, hl2, _, rfl, ?_⟩
            by_cases c2 : recvB nodes x rs = true
            · rw [c2]
              refine iteF ⟨.ref (f x), rfl, .inl ⟨rfl, _, .inl (.inl own)⟩, _, rfl, f x, _, _, rfl, rfl, own, small1000 (by rw [len_ixs]; omega), step c2, _, _, _, _, _, _, _, _, _, rfl⟩
            · rw [Bool.not_eq_true _ |>.mp c2]
              exact iteT (bad c2 _ I1.sm)
          · obtain ⟨j0, hj0⟩ : ∃ j0, ((Rs.upto nodes es i).sends x)[((Rs.upto nodes es i).sends x).length - 1]? = some j0 := by
              have : 0 < ((Rs.upto nodes es i).sends x).length := List.length_pos_iff.mpr c0
              exact ⟨_, List.getElem?_eq_getElem (by omega)⟩
            have hpos : 0 < ((Rs.upto nodes es i).sends x).length := List.length_pos_iff.mpr c0
            obtain ⟨_, hj1, rs0, hj2, hj3⟩ := sends_ok I1.ok (List.mem_of_getElem? hj0)
            obtain ⟨a0, ha0, l0, hl3, hl4⟩ := hRv.get hj2
            have hne : (!(ixs ((Rs.upto nodes es i).sends x)).isEmpty) = true := by
              cases hz : (Rs.upto nodes es i).sends x with
              | nil => exact absurd hz c0
              | cons _ _ => rfl
            rw [hne]
            refine iteF ?_
            refine ⟨.ref l, rfl, .ref R, rfl, .ref (f x), rfl, 1, rfl, f x, _, -1, .int (j0 : Nat), rfl, rfl, ltI own, atI_last (by rw [len_ixs]; exact hpos) (by rw [len_ixs]; exact get_ixs hj0), ?_⟩
            refine ⟨R, _, _, .ref a0, rfl, rfl, ltI hRv.at', atI_nat (j := j0) (by rw [List.getElem?_map, ha0]; rfl), ?_⟩
            refine ⟨a0, _, 2, .ref l0, rfl, rfl, tpI hl3, atI_nat (j := 2) rfl, .list (rs.map .str), .list (rs0.map .str), .lst (ltI hl2) (dp_strs rs), .lst (ltI hl4) (dp_strs rs0), shaped_strs (htx i x rs he), shaped_strs (htx j0 x rs0 hj2), _, rfl, ?_⟩
            rw [show PyData.eqv (.list (rs.map .str)) (.list (rs0.map .str)) = decide (rs = rs0) from eqv_strs rs rs0]
            by_cases c3 : rs = rs0
            · have c2 : recvB nodes x rs = true := by rw [c3]; exact hj3
              rw [decide_eq_true c3]
              refine iteF (iteF ⟨.ref (f x), rfl, .inl ⟨rfl, _, .inl (.inl own)⟩, _, rfl, f x, _, _, rfl, rfl, own, small1000 (by rw [len_ixs]; omega), step c2, _, _, _, _, _, _, _, _, _, rfl⟩)
            · rw [decide_eq_false c3]
              refine iteT ⟨.ref d1, rfl, .str x, rfl, .ref l, rfl, d1, l, _, nodes, rs, x, rfl, I1.s.at', keys_map, hl2, _, rfl, ?_⟩
              by_cases c2 : recvB nodes x rs = true
              · rw [c2]
                refine iteF ⟨.ref (f x), rfl, .inl ⟨rfl, _, .inl (.inl own)⟩, _, rfl, f x, _, _, rfl, rfl, own, small1000 (by rw [len_ixs]; omega), step c2, _, _, _, _, _, _, _, _, _, rfl⟩
              · rw [Bool.not_eq_true _ |>.mp c2]
                exact iteT (bad c2 _ I1.sm)
        · rw [valV_out c1]
          refine iteT ?_
          exact qN (not_ok hia he fun z => c1 z.1) _ I1.sm
      | opn x sd n =>
        obtain ⟨m, hm1, hm2⟩ := hev
        refine ⟨.ref a, rfl, _, _, _, _, true, rfl, .ty "tuple", .base (.tup hm1), kit_ty (by decide +kernel), true, rfl, iteF ?_⟩
        refine ⟨.ref a, rfl, a, _, rfl, .inr (tpI hm1), rfl, false, rfl, iteF ?_⟩
        refine ⟨.ref a, rfl, a, _, rfl, tpI hm1, rfl, _, _, rfl, _, _, rfl, _, _, rfl, rfl, ?_⟩
        refine ⟨_, rfl, rfl, false, rfl, iteF ?_⟩
        refine ⟨_, rfl, rfl, true, rfl, iteT ?_⟩
        refine ⟨.ref m, rfl, _, _, _, _, true, rfl, .ty "tuple", .base (.tup hm2), kit_ty (by decide +kernel), true, rfl, iteF ?_⟩
        refine ⟨.ref m, rfl, m, _, rfl, .inr (tpI hm2), rfl, false, rfl, iteF ?_⟩
        refine ⟨.ref m, rfl, m, _, rfl, tpI hm2, rfl, _, _, rfl, _, _, rfl, rfl, ?_⟩
        refine ⟨.str sd, rfl, _, _, _, _, true, rfl, .ty "str", .base (.str sd), kit_ty (by decide +kernel), true, rfl, iteF ?_⟩
        refine ⟨.str sd, rfl, .ref d1, rfl, d1, _, rfl, DGet.k (k := Sum.inr sd) I1.s.at', _, rfl, ?_⟩
        have bad : (∀ j, sentAt (Rs.upto nodes es i) nodes sd n = some j → x ∈ recvAt es j → ((Rs.upto nodes es i).opens x).all (fun p => decide (p.1 ≠ j)) = true → False) → ∀ H', Same H H' → Q .non H' :=
          fun c => qN (not_ok hia he fun ⟨j, z1, z2, z3⟩ => c j z1 z2 z3)
        by_cases c1 : sd ∈ nodes
        · rw [valV_in c1]
          have hdg : DGet H3 d1 (.str sd) (some (.ref (f sd))) := by
            rw [← valV_in (h := fun x => V.ref (f x)) c1]
            exact DGet.k (k := Sum.inr sd) I1.s.at'
          have own := I1.s.own sd c1
          refine iteF ⟨.int n, rfl, _, _, _, _, true, rfl, .ty "int", .base (.int n), kit_ty (by decide +kernel), true, rfl, iteF ?_⟩
          refine ⟨.int n, rfl, n, true, rfl, rfl, false, rfl, iteF ?_⟩
          refine ⟨.ref d1, rfl, .str sd, rfl, d1, _, rfl, hdg, ?_⟩
          refine ⟨.int n, rfl, 0, n, rfl, rfl, _, rfl, ?_⟩
          by_cases c2 : 0 < n
          · rw [decide_eq_true c2]
            refine iteT ⟨.ref (f sd), rfl, f sd, _, rfl, .inl (ltI own), n, _, rfl, rfl, _, rfl, ?_⟩
            rw [len_ixs]
            by_cases c3 : n ≤ (((Rs.upto nodes es i).sends sd).length : Nat)
            · rw [decide_eq_true c3]
              have c3' : (n - 1).toNat < ((Rs.upto nodes es i).sends sd).length := by omega
              have hj : ((Rs.upto nodes es i).sends sd)[(n - 1).toNat]? = some (((Rs.upto nodes es i).sends sd)[(n - 1).toNat]) := List.getElem?_eq_getElem c3'
              generalize ((Rs.upto nodes es i).sends sd)[(n - 1).toNat] = j at hj
              have hsent : sentAt (Rs.upto nodes es i) nodes sd n = some j := by
                unfold sentAt
                rw [if_pos ⟨c1, c2⟩]
                exact hj
              obtain ⟨_, hj1, rs0, hj2, hj3⟩ := sends_ok I1.ok (List.mem_of_getElem? hj)
              obtain ⟨a0, ha0, l0, hl3, hl4⟩ := hRv.get hj2
              refine iteF ⟨.ref (f sd), rfl, .int n, rfl, n, 1, rfl, rfl, f sd, _, n - 1, .int (j : Nat), rfl, rfl, ltI own, at_of (j := (n - 1).toNat) (by omega) (get_ixs hj), ?_⟩
              refine ⟨.str x, rfl, .ref R, rfl, .int (j : Nat), rfl, R, _, _, .ref a0, rfl, rfl, ltI hRv.at', atI_nat (j := j) (by rw [List.getElem?_map, ha0]; rfl), ?_⟩
              refine ⟨a0, _, 2, .ref l0, rfl, rfl, tpI hl3, atI_nat (j := 2) rfl, l0, _, rfl, .inl (ltI hl4), rfl, flat_str rs0, _, rfl, ?_⟩
              rw [inV_str]
              have hra := recvAt_snd hj2
              by_cases c4 : x ∈ rs0
              · rw [decide_eq_true c4]
                have cx : x ∈ nodes := (recvB_mem hj3 c4).1
                have hog : DGet H3 d2 (.str x) (some (.ref (g x))) := by
                  rw [← valV_in (h := fun x => V.ref (g x)) cx]
                  exact DGet.k (k := Sum.inr x) I1.o.at'
                have oown := I1.o.own x cx
                have hol : ((Rs.upto nodes es i).opens x).length ≤ i := opens_len
                refine iteF ⟨.int (j : Nat), rfl, .ref d2, rfl, .str x, rfl, d2, _, rfl, hog, g x, _, rfl, DGet.k (k := Sum.inl ((j : Nat) : Int)) oown, _, rfl, ?_⟩
                rw [valV_ops]
                by_cases c5 : ((Rs.upto nodes es i).opens x).all (fun p => decide (p.1 ≠ j)) = true
                · rw [c5]
                  refine iteF ?_
                  refine ⟨_, rfl, .ref d2, rfl, .str x, rfl, d2, _, rfl, hog, .int (j : Nat), rfl, g x, _, rfl, DPut.k (k := Sum.inl ((j : Nat) : Int)) oown (small1000 (by rw [List.length_map]; omega)), ?_⟩
                  exact ⟨I1.opn FX he hsent cx (by rw [hra]; exact c4) c5, _, _, _, _, _, _, _, _, _, rfl⟩
                · rw [Bool.not_eq_true _ |>.mp c5]
                  refine iteT (bad (fun j' z1 z2 z3 => ?_) _ I1.sm)
                  rw [hsent] at z1
                  cases z1
                  exact c5 z3
              · rw [decide_eq_false c4]
                refine iteT (bad (fun j' z1 z2 z3 => ?_) _ I1.sm)
                rw [hsent] at z1
                cases z1
                rw [hra] at z2
                exact c4 z2
            · rw [decide_eq_false c3]
              refine iteT (bad (fun j' z1 z2 z3 => ?_) _ I1.sm)
              have := sentAt_mem z1
              have h9 := (List.getElem?_eq_some_iff.mp this.2.2.1).1
              omega
          · rw [decide_eq_false c2]
            exact ⟨false, rfl, iteT (bad (fun j' z1 z2 z3 => c2 (sentAt_mem z1).2.1) _ I1.sm)⟩
        · rw [valV_out c1]
          exact iteT (bad (fun j' z1 z2 z3 => c1 (sentAt_mem z1).1) _ I1.sm)
    · rintro σ H' ⟨I, y4, y5, y6, y7, y8, y9, y10, y11, y12, rfl⟩
      rw [List.length_map, hR.len] at I
      refine ⟨.ref d1, rfl, .ref d2, rfl, by show 2 ≤ sizeLine; decide, fun p hp => ?_⟩
      exact qY I.ok _ p d1 d2 f g (I.sm.trans (same_new hp)) (I.sm.free hp) upd_same (I.s.same (same_new hp)) (I.o.same (same_new hp))
end
end KA

set_option Elab.async false
set_option linter.all false
set_option maxRecDepth 100000
set_option maxHeartbeats 16000000
namespace KA
open PySem PySem.Spec PyProof.Rows L2 L2.Dx
section
variable {P : Program} {w : World} {K : PySem.W.Frag} {mg : Str → Option Value} {base : Heap}
def sp_check_nodes : Sp := fun vs H Q _ => ∃ (a : Addr) (ns : List Str), vs = [.ref a] ∧ H a = some (.lst (ns.map V.str)) ∧ NodesOk ns ∧ Q .non H
theorem ok_check_nodes (T : Txt K mg) : FnOk P w K mg base CX0 2 T.f_check_nodes T.fd_check_nodes ["nodes"] sp_check_nodes := by
  refine T.F_check_nodes.ok sc_check_nodes (fun vs H Q E h => ?_) (fun cdv A outer s H vs Q E hr h => ?_)
  · obtain ⟨a, ns, rfl, _⟩ := h
    rfl
  · obtain ⟨a, ns, rfl, ha, hn, q⟩ := h
    refine ⟨_, (pss_one (ps_if (pt_not (pt_val (pe_call (ok_is_nodes T) (hr.mono (by decide)) rfl T.M_is_nodes T.F_is_nodes.kp (b_is_nodes T) .nil pass0 (pa_cons (pv 0) pa_nil))))
      (pss_one ps_never)
      pss_nil)), ?_⟩
    exact ⟨.ref a, rfl, a, ns, rfl, ha, hn, true, rfl, iteF q⟩
def sp_check_node : Sp := fun vs H Q _ => ∃ (a : Addr) (ns : List Str) (x : Str), vs = [.ref a, .str x] ∧ H a = some (.lst (ns.map V.str)) ∧ x ∈ ns ∧ Q .non H
theorem ok_check_node (T : Txt K mg) : FnOk P w K mg base CX0 2 T.f_check_node T.fd_check_node ["nodes", "node"] sp_check_node := by
  refine T.F_check_node.ok sc_check_node (fun vs H Q E h => ?_) (fun cdv A outer s H vs Q E hr h => ?_)
  · obtain ⟨a, ns, x, rfl, _⟩ := h
    rfl
  · obtain ⟨a, ns, x, rfl, ha, hx, q⟩ := h
    refine ⟨_, (pss_one (ps_if (pt_not (pt_val (pe_call (ok_is_node T) (hr.mono (by decide)) rfl T.M_is_node T.F_is_node.kp (b_is_node T) .nil pass0 (pa_cons (pv 0) (pa_cons (pv 1) pa_nil)))))
      (pss_one ps_never)
      pss_nil)), ?_⟩
    refine ⟨.ref a, rfl, .str x, rfl, a, ns, x, rfl, ha, true, ?_, iteF q⟩
    rw [decide_eq_true hx]
def sp_check_message : Sp := fun vs H Q _ => ∃ (d m : Addr) (nodes : List Str) (fa : Str → Addr) (r : Rs) (s : Str) (n : Int) (j : Nat), vs = [.ref d, .ref m] ∧ SendsAt H d nodes fa r.sends ∧ H m = some (.tup [.str s, .int n]) ∧
  sentAt r nodes s n = some j ∧ Q (.int (j : Nat)) H
theorem ok_check_message (T : Txt K mg) : FnOk P w K mg base CX0 2 T.f_check_message T.fd_check_message ["sends", "message"] sp_check_message := by
  refine T.F_check_message.ok sc_check_message (fun vs H Q E h => ?_) (fun cdv A outer s H vs Q E hr h => ?_)
  · obtain ⟨d, m, nodes, fa, r, s, n, j, rfl, _⟩ := h
    rfl
  · obtain ⟨d, m, nodes, fa, r, sd, n, j, rfl, hS, hm, hj, q⟩ := h
    refine ⟨_, (pss_cons (ps_set (i := 2) sc_check_message.nd rfl (by first | exact .inl rfl | exact .inr rfl) (pe_call (ok_find_send T) (hr.mono (by decide)) rfl T.M_find_send T.F_find_send.kp (b_find_send T) .nil pass0 (pa_cons (pv 0) (pa_cons (pv 1) pa_nil))))
    (pss_cons (ps_if (pt_cmpR op_isN (pv 2) pe_non (nomark _))
      (pss_one ps_never)
      pss_nil)
    (pss_one (ps_ret (pv 2))))), ?_⟩
    refine ⟨.ref d, rfl, .ref m, rfl, d, m, nodes, fa, r, sd, n, rfl, hS, hm, ?_⟩
    rw [hj]
    exact ⟨_, rfl, rfl, false, rfl, iteF ⟨_, rfl, q⟩⟩
/-- nodes and a run of them -/
structure Given (H : Hp) (N R : Addr) (nodes : List Str) (as : List Addr) (es : List Ev) : Prop where
  n : H N = some (.lst (nodes.map V.str))
  ok : NodesOk nodes
  r : RunAt H R as es
  len : es.length ≤ 1000
  tx : TextsOk es
def sp_check_run : Sp := fun vs H Q _ => ∃ (N R : Addr) (nodes : List Str) (as : List Addr) (es : List Ev), vs = [.ref N, .ref R] ∧ Given H N R nodes as es ∧ RunOk nodes es ∧
  ∀ (H' : Hp) (p d1 d2 : Addr) (f g : Str → Addr), Same H H' → H p = none → H' p = some (.tup [.ref d1, .ref d2]) → SendsAt H' d1 nodes f (Rs.upto nodes es es.length).sends → OpensAt H' d2 nodes g (Rs.upto nodes es es.length).opens → Q (.ref p) H'
theorem ok_check_run (T : Txt K mg) : FnOk P w K mg base CX0 3 T.f_check_run T.fd_check_run ["nodes", "run"] sp_check_run := by
  refine T.F_check_run.ok sc_check_run (fun vs H Q E h => ?_) (fun cdv A outer s H vs Q E hr h => ?_)
  · obtain ⟨N, R, nodes, as, es, rfl, _⟩ := h
    rfl
  · obtain ⟨N, R, nodes, as, es, rfl, G, ok, q⟩ := h
    refine ⟨_, (pss_cons (ps_expr (pe_call (ok_check_nodes T) (hr.mono (by decide)) rfl T.M_check_nodes T.F_check_nodes.kp (b_check_nodes T) .nil pass0 (pa_cons (pv 0) pa_nil)))
    (pss_cons (ps_set (i := 2) sc_check_run.nd rfl (by first | exact .inl rfl | exact .inr rfl) (pe_call (ok_scan_run T) (hr.mono (by decide)) rfl T.M_scan_run T.F_scan_run.kp (b_scan_run T) .nil pass0 (pa_cons (pv 0) (pa_cons (pv 1) pa_nil))))
    (pss_cons (ps_if (pt_cmpR op_isN (pv 2) pe_non (nomark _))
      (pss_one ps_never)
      pss_nil)
    (pss_one (ps_ret (pv 2)))))), ?_⟩
    refine ⟨.ref N, rfl, N, nodes, rfl, G.n, G.ok, ?_⟩
    refine ⟨.ref N, rfl, .ref R, rfl, N, R, nodes, as, es, rfl, G.n, G.ok, G.r, G.len, G.tx, fun z => absurd ok z, fun _ H' p d1 d2 f g s1 s2 s3 s4 s5 => ?_⟩
    exact ⟨_, rfl, rfl, false, rfl, iteF ⟨_, rfl, q H' p d1 d2 f g s1 s2 s3 s4 s5⟩⟩
def sp_is_run : Sp := fun vs H Q _ => ∃ (N R : Addr) (nodes : List Str) (as : List Addr) (es : List Ev), vs = [.ref N, .ref R] ∧ Given H N R nodes as es ∧
  (RunOk nodes es → ∀ H', Same H H' → Q (.bl true) H') ∧ (¬ RunOk nodes es → ∀ H', Same H H' → Q (.bl false) H')
theorem ok_is_run (T : Txt K mg) : FnOk P w K mg base CX0 3 T.f_is_run T.fd_is_run ["nodes", "value"] sp_is_run := by
  refine T.F_is_run.ok sc_is_run (fun vs H Q E h => ?_) (fun cdv A outer s H vs Q E hr h => ?_)
  · obtain ⟨N, R, nodes, as, es, rfl, _⟩ := h
    rfl
  · obtain ⟨N, R, nodes, as, es, rfl, G, qY, qN⟩ := h
    refine ⟨_, (pss_cons (ps_expr (pe_call (ok_check_nodes T) (hr.mono (by decide)) rfl T.M_check_nodes T.F_check_nodes.kp (b_check_nodes T) .nil pass0 (pa_cons (pv 0) pa_nil)))
    (pss_one (ps_ret (pe_cmpR op_notN (pe_call (ok_scan_run T) (hr.mono (by decide)) rfl T.M_scan_run T.F_scan_run.kp (b_scan_run T) .nil pass0 (pa_cons (pv 0) (pa_cons (pv 1) pa_nil))) pe_non (nomark _))))), ?_⟩
    refine ⟨.ref N, rfl, N, nodes, rfl, G.n, G.ok, ?_⟩
    refine ⟨.ref N, rfl, .ref R, rfl, N, R, nodes, as, es, rfl, G.n, G.ok, G.r, G.len, G.tx, fun z H' s1 => ?_, fun z H' p d1 d2 f g s1 s2 s3 s4 s5 => ?_⟩
    · exact ⟨rfl, qN z H' s1⟩
    · exact ⟨rfl, qY z H' s1⟩
def sp_send_index : Sp := fun vs H Q _ => ∃ (N R m : Addr) (nodes : List Str) (as : List Addr) (es : List Ev) (s : Str) (n : Int) (j : Nat), vs = [.ref N, .ref R, .ref m] ∧ Given H N R nodes as es ∧ RunOk nodes es ∧ H m = some (.tup [.str s, .int n]) ∧
  sentAt (Rs.upto nodes es es.length) nodes s n = some j ∧ ∀ H', Same H H' → Q (.int (j : Nat)) H'
theorem ok_send_index (T : Txt K mg) : FnOk P w K mg base CX0 4 T.f_send_index T.fd_send_index ["nodes", "run", "message"] sp_send_index := by
  refine T.F_send_index.ok sc_send_index (fun vs H Q E h => ?_) (fun cdv A outer s H vs Q E hr h => ?_)
  · obtain ⟨N, R, m, nodes, as, es, s, n, j, rfl, _⟩ := h
    rfl
  · obtain ⟨N, R, m, nodes, as, es, sd, n, j, rfl, G, ok, hm, hj, q⟩ := h
    refine ⟨_, (pss_cons (ps_asg (pe_call (ok_check_run T) (hr.mono (by decide)) rfl T.M_check_run T.F_check_run.kp (b_check_run T) .nil pass0 (pa_cons (pv 0) (pa_cons (pv 1) pa_nil))) (pg_tup rfl (pgs_cons (pg_name (i := 3) sc_send_index.nd rfl (by first | exact .inl rfl | exact .inr rfl)) (pgs_cons (pg_name (i := 4) sc_send_index.nd rfl (by first | exact .inl rfl | exact .inr rfl)) pgs_nil))))
    (pss_one (ps_ret (pe_call (ok_check_message T) (hr.mono (by decide)) rfl T.M_check_message T.F_check_message.kp (b_check_message T) .nil pass0 (pa_cons (pv 3) (pa_cons (pv 2) pa_nil)))))), ?_⟩
    refine ⟨.ref N, rfl, .ref R, rfl, N, R, nodes, as, es, rfl, G, ok, fun H' p d1 d2 f g s1 s2 s3 s4 s5 => ?_⟩
    refine ⟨p, _, rfl, tpI s3, rfl, _, _, rfl, _, _, rfl, rfl, ?_⟩
    exact ⟨.ref d1, rfl, .ref m, rfl, d1, m, nodes, f, _, sd, n, j, rfl, s4, s1 _ _ hm, hj, q _ s1⟩
def sp_open_index : Sp := fun vs H Q _ => ∃ (N R m : Addr) (nodes : List Str) (as : List Addr) (es : List Ev) (s x : Str) (n : Int) (j : Nat), vs = [.ref N, .ref R, .ref m, .str x] ∧ Given H N R nodes as es ∧ RunOk nodes es ∧ H m = some (.tup [.str s, .int n]) ∧
  sentAt (Rs.upto nodes es es.length) nodes s n = some j ∧ x ∈ nodes ∧ ∀ H', Same H H' → Q ((valV (ops ((Rs.upto nodes es es.length).opens x)) (.inl ((j : Nat) : Int))).getD .non) H'
theorem ok_open_index (T : Txt K mg) : FnOk P w K mg base CX0 4 T.f_open_index T.fd_open_index ["nodes", "run", "message", "node"] sp_open_index := by
  refine T.F_open_index.ok sc_open_index (fun vs H Q E h => ?_) (fun cdv A outer s H vs Q E hr h => ?_)
  · obtain ⟨N, R, m, nodes, as, es, s, x, n, j, rfl, _⟩ := h
    rfl
  · obtain ⟨N, R, m, nodes, as, es, sd, x, n, j, rfl, G, ok, hm, hj, hx, q⟩ := h
    refine ⟨_, (pss_cons (ps_asg (pe_call (ok_check_run T) (hr.mono (by decide)) rfl T.M_check_run T.F_check_run.kp (b_check_run T) .nil pass0 (pa_cons (pv 0) (pa_cons (pv 1) pa_nil))) (pg_tup rfl (pgs_cons (pg_name (i := 4) sc_open_index.nd rfl (by first | exact .inl rfl | exact .inr rfl)) (pgs_cons (pg_name (i := 5) sc_open_index.nd rfl (by first | exact .inl rfl | exact .inr rfl)) pgs_nil))))
    (pss_cons (ps_set (i := 6) sc_open_index.nd rfl (by first | exact .inl rfl | exact .inr rfl) (pe_call (ok_check_message T) (hr.mono (by decide)) rfl T.M_check_message T.F_check_message.kp (b_check_message T) .nil pass0 (pa_cons (pv 4) (pa_cons (pv 2) pa_nil))))
    (pss_cons (ps_expr (pe_call (ok_check_node T) (hr.mono (by decide)) rfl T.M_check_node T.F_check_node.kp (b_check_node T) .nil pass0 (pa_cons (pv 0) (pa_cons (pv 3) pa_nil))))
    (pss_one (ps_ret (pe_dget1 (hu_of hr) (pe_dget (hu_of hr) (pv 5) (pv 3) (fun _ _ => rfl)) (pv 6) ⟨rfl, rfl, rfl, rfl⟩)))))), ?_⟩
    refine ⟨.ref N, rfl, .ref R, rfl, N, R, nodes, as, es, rfl, G, ok, fun H' p d1 d2 f g s1 s2 s3 s4 s5 => ?_⟩
    refine ⟨p, _, rfl, tpI s3, rfl, _, _, rfl, _, _, rfl, rfl, ?_⟩
    refine ⟨.ref d1, rfl, .ref m, rfl, d1, m, nodes, f, _, sd, n, j, rfl, s4, s1 _ _ hm, hj, ?_⟩
    refine ⟨.ref N, rfl, .str x, rfl, N, nodes, x, rfl, s1 _ _ G.n, hx, ?_⟩
    have hog : DGet H' d2 (.str x) (some (.ref (g x))) := by
      rw [← valV_in (h := fun x => V.ref (g x)) hx]
      exact DGet.k (k := Sum.inr x) s5.at'
    exact ⟨.ref d2, rfl, .str x, rfl, d2, _, rfl, hog, g x, rfl, .inl ⟨_, .inl (s5.own x hx)⟩, .int (j : Nat), rfl, _, DGet.k (k := Sum.inl ((j : Nat) : Int)) (s5.own x hx), q _ s1⟩
end
end KA

set_option Elab.async false
set_option linter.all false
set_option maxRecDepth 100000
set_option maxHeartbeats 16000000
namespace KA
open PySem PySem.Spec PyProof.Rows L2 L2.Dx
section
variable {P : Program} {w : World} {K : PySem.W.Frag} {mg : Str → Option Value} {base : Heap}
def sp_messages_of : Sp := fun vs H Q _ => ∃ (N R : Addr) (nodes : List Str) (as : List Addr) (es : List Ev), vs = [.ref N, .ref R] ∧ Given H N R nodes as es ∧ RunOk nodes es ∧
  ∀ (H' : Hp) (D : Addr) (h : Msg → Addr), Same H H' → H D = none → MsgsAt H H' D es (allMsgs nodes (Rs.upto nodes es es.length).sends) h → Q (.ref D) H'
theorem allMsgs_len {S : Str → List Nat} {m : Nat} (hS : ∀ x, (S x).length ≤ m) : ∀ nodes : List Str, (allMsgs nodes S).length ≤ nodes.length * m
  | [] => by simp [allMsgs]
  | x :: r => by
    have ih := allMsgs_len hS r
    unfold allMsgs at ih ⊢
    rw [List.flatMap_cons, List.length_append]
    have : (msgsOf x (S x)).length = (S x).length := by
      unfold msgsOf
      rw [List.length_map, numFrom_len]
    have h2 := hS x
    rw [this, List.length_cons, Nat.succ_mul]
    omega
theorem ok_messages_of (T : Txt K mg) : FnOk P w K mg base CX0 4 T.f_messages_of T.fd_messages_of ["nodes", "run"] sp_messages_of := by
  refine T.F_messages_of.ok sc_messages_of (fun vs H Q E h => ?_) (fun cdv A outer s H vs Q E hr h => ?_)
  · obtain ⟨N, R, nodes, as, es, rfl, _⟩ := h
    rfl
  · obtain ⟨N, R, nodes, as, es, rfl, G, ok, q⟩ := h
    refine ⟨_, (pss_cons (ps_asg (pe_call (ok_check_run T) (hr.mono (by decide)) rfl T.M_check_run T.F_check_run.kp (b_check_run T) .nil pass0 (pa_cons (pv 0) (pa_cons (pv 1) pa_nil))) (pg_tup rfl (pgs_cons (pg_name (i := 2) sc_messages_of.nd rfl (by first | exact .inl rfl | exact .inr rfl)) (pgs_cons (pg_name (i := 3) sc_messages_of.nd rfl (by first | exact .inl rfl | exact .inr rfl)) pgs_nil))))
    (pss_one (ps_ret (pe_dc2 (own := [("node", 4), ("number", 5), ("index", 6)]) (vs1 := [5, 6]) (hu_of hr) newT rfl sc_messages_of.nd (pi_list (pv 0)) (blkOk_by (N := ["nodes", "run", "sends", "_", "node", "number", "index"]) (sc := defScope s_messages_of) (by decide +kernel)) (by decide) (fun _ _ _ _ _ => (pg_name (i := 4) sc_messages_of.nd rfl (by first | exact .inl rfl | exact .inr rfl))) (fun _ _ _ _ _ => pts_nil) (fun _ _ _ _ _ => (pi_enumSK (K := K) rfl (by decide) (by decide) (by rfl) T.m_enumerate (pa_cons (pe_dget (hu_of hr) (pv 2) (pv 4) (fun _ _ => rfl)) pa_nil))) (fun _ _ _ _ _ => (pg_tupK (K := K) rfl 2 rfl (pgs_cons (pg_name (i := 5) sc_messages_of.nd rfl (by first | exact .inl rfl | exact .inr rfl)) (pgs_cons (pg_name (i := 6) sc_messages_of.nd rfl (by first | exact .inl rfl | exact .inr rfl)) pgs_nil)))) (fun _ _ _ _ _ => pts_nil) (fun _ _ _ _ _ => (pe_tup (pa_cons (pv 4) (pa_cons (pv 5) pa_nil)))) (fun _ _ _ _ _ => (pe_slice (sl_listK (K := K) rfl) (pe_ix (ix_tupK (K := K) rfl) (pe_ix (ix_listK (K := K) rfl) (pv 1) (pv 6) (fun _ _ => rfl)) pe_int (fun _ _ => rfl)) po_none po_none)))))), ?_⟩
    refine ⟨.ref N, rfl, .ref R, rfl, N, R, nodes, as, es, rfl, G, ok, fun H1 p d1 d2 f g s1 s2 s3 s4 s5 => ?_⟩
    refine ⟨p, _, rfl, tpI s3, rfl, _, _, rfl, _, _, rfl, rfl, ?_⟩
    have n12 := G.ok.hi
    have nd := G.ok.nodup
    generalize hS : (Rs.upto nodes es es.length).sends = S at s4 q
    have hSl : ∀ x, (S x).length ≤ 1000 := fun x => by rw [← hS]; exact Nat.le_trans sends_len G.len
    have hSo : ∀ {x : Str} {j : Nat}, j ∈ S x → x ∈ nodes ∧ j < es.length ∧ ∃ rs, es[j]? = some (.snd x rs) ∧ recvB nodes x rs = true := fun hj => by rw [← hS] at hj; exact sends_ok ok hj
    refine ⟨.ref N, rfl, N, rfl, ⟨_, ltI (s1 _ _ G.n)⟩, fun D hD => dc2_outer (xs := nodes.map V.str) (fun i H' => Same H1 H' ∧ ∃ h, MsgsAt H H' D es (allMsgs (nodes.take i) S) h) ?_ ?_ ?_ ?_⟩
    · exact ⟨same_new hD, fun _ => 0, upd_same, (fun t ht => by cases ht), (fun t ht => by cases ht)⟩
    · exact fun i H' _ hI => ltI (hI.1 _ _ (s1 _ _ G.n))
    · rintro i v H' hx ⟨sm, h, hM⟩
      rw [List.getElem?_map] at hx
      obtain ⟨x, hn, rfl⟩ := Option.map_eq_some_iff.mp hx
      have hxn := List.mem_of_getElem? hn
      refine ⟨rfl, ?_⟩
      dsimp only [tYes]
      rw [if_pos rfl]
      have sf := (s4.same sm)
      have hdg : DGet H' d1 (.str x) (some (.ref (f x))) := by
        rw [← valV_in (h := fun x => V.ref (f x)) hxn]
        exact DGet.k (k := Sum.inr x) sf.at'
      refine ⟨.ref d1, rfl, .str x, rfl, d1, _, rfl, hdg, f x, _, rfl, ltI (sf.own x hxn), dc2_inner (xs := ixs (S x)) (fun k H2 => Same H1 H2 ∧ ∃ h, MsgsAt H H2 D es (allMsgs (nodes.take i) S ++ msgsOf x ((S x).take k)) h) ?_ ?_ ?_ ?_⟩
      · refine ⟨sm, h, ?_⟩
        simpa [msgsOf, numFrom] using hM
      · exact fun k H2 _ hI => ltI ((s4.same hI.1).own x hxn)
      · rintro k v2 H2 Tp hk ⟨sm2, h2, hM2⟩ hT
        rw [List.getElem?_map] at hk
        obtain ⟨j, hj, rfl⟩ := Option.map_eq_some_iff.mp hk
        obtain ⟨_, hjl, rs, hjs, _⟩ := hSo (List.mem_of_getElem? hj)
        have hRv : RunAt (upd H2 Tp (.tup [.int (1 + (k : Nat)), .int (j : Nat)])) R as es := G.r.same (s1.trans (sm2.trans (same_new hT)))
        obtain ⟨a, ha, l, hl1, hl2⟩ := hRv.get hjs
        refine ⟨Tp, _, rfl, tpI upd_same, rfl, _, _, rfl, _, _, rfl, rfl, rfl, ?_⟩
        have sm3 : Same H1 (upd H2 Tp (.tup [.int (1 + (k : Nat)), .int (j : Nat)])) := sm2.trans (same_new hT)
        have hM3 := hM2.same (same_new (o := .tup [.int (1 + (k : Nat)), .int (j : Nat)]) hT)
        generalize upd H2 Tp (.tup [.int (1 + (k : Nat)), .int (j : Nat)]) = H3 at hRv hl1 hl2 sm3 hM3 ⊢
        dsimp only [tYes]
        rw [if_pos rfl]
        -- the key
        refine ⟨.str x, rfl, .int (1 + (k : Nat)), rfl, by show 2 ≤ sizeLine; decide, fun qk hqk => ?_⟩
        have sq : Same H3 (upd H3 qk (.tup [.str x, .int (1 + (k : Nat))])) := same_new hqk
        -- the value
        refine ⟨.ref R, rfl, .int (j : Nat), rfl, R, _, _, .ref a, rfl, rfl, ltI (sq _ _ hRv.at'), atI_nat (j := j) (by rw [List.getElem?_map, ha]; rfl), ?_⟩
        refine ⟨a, _, 2, .ref l, rfl, rfl, tpI (sq _ _ hl1), atI_nat (j := 2) rfl, ?_⟩
        refine ⟨l, _, rfl, ltI (sq _ _ hl2), fun pv hpv => ?_⟩
        rw [cut_all]
        have sv : Same (upd H3 qk (.tup [.str x, .int (1 + (k : Nat))])) (upd (upd H3 qk (.tup [.str x, .int (1 + (k : Nat))])) pv (.lst (rs.map V.str))) := same_new hpv
        have hqv := sv _ _ (upd_same (H := H3) (a := qk) (o := .tup [.str x, .int (1 + (k : Nat))]))
        have hM4 := (hM3.same sq).same sv
        have hpq : H3 pv = none := sq.free hpv
        have ek : (1 + (k : Nat) : Int) = ((k + 1 : Nat) : Int) := by omega
        have hnew : ∀ t ∈ allMsgs (nodes.take i) S ++ msgsOf x ((S x).take k), keyOf t ≠ keyOf (x, k + 1, j) := fun t ht z => by
          have z1 : t.1 = x := Sum.inr.inj (List.cons.inj z).1
          have z2 : ((t.2.1 : Nat) : Int) = ((k + 1 : Nat) : Int) := Sum.inl.inj (List.cons.inj (List.cons.inj z).2).1
          rcases List.mem_append.mp ht with ht | ht
          · have := (all_mem ht).1
            rw [z1] at this
            exact notin_take nd hn this
          · have := (msgsOf_mem ht).2.2.1
            rw [List.length_take] at this
            omega
        have hlen : (allMsgs (nodes.take i) S ++ msgsOf x ((S x).take k)).length < 100000 := by
          have h1 := allMsgs_len hSl (nodes.take i)
          have h2 : (nodes.take i).length ≤ 12 := Nat.le_trans (List.length_take_le' _ _) n12
          have h3 : (msgsOf x ((S x).take k)).length ≤ 1000 := by
            unfold msgsOf
            rw [List.length_map, numFrom_len]
            exact Nat.le_trans (List.length_take_le' _ _) (hSl x)
          have h4 := Nat.mul_le_mul_right 1000 h2
          rw [List.length_append]
          omega
        refine ⟨_, DPut.t (k := keyOf (x, k + 1, j)) hM4.at' ?_ (Nat.lt_trans (by rw [List.length_map]; exact hlen) (by decide)), ?_, ?_⟩
        · rw [hqv, ek]
          rfl
        · exact same_put ((sm3.trans sq).trans sv) hD
        · have hp0 : H pv = none := s1.free (sm3.free hpq)
          refine ⟨fun t => if t = (x, k + 1, j) then pv else h2 t, ?_⟩
          rw [msgs_snoc hj, ← List.append_assoc]
          refine hM4.put hnew ?_ hp0 fun t ht z => ?_
          · rw [upd_same, recvAt_snd hjs]
          · have := (hM3.own t ht).1
            rw [z, hpq] at this
            cases this
      · rintro H2 ⟨sm2, h2, hM2⟩
        rw [len_ixs, List.take_length] at hM2
        exact ⟨sm2, h2, by rw [all_snoc hn]; exact hM2⟩
    · rintro H' ⟨sm, h, hM⟩
      rw [List.length_map, List.take_length] at hM
      exact q H' D h (s1.trans sm) (s1.free hD) hM
end
end KA

set_option Elab.async false
set_option linter.all false
set_option maxRecDepth 100000
set_option maxHeartbeats 4000000
namespace KA
open PySem PySem.Spec PyProof.Rows L2 L2.Dx Kx
/-- a seed list -/
def SeedAt (H : Hp) (a : Addr) : Prop := ∃ x y z : Int, H a = some (.lst [.int x, .int y, .int z]) ∧ 0 ≤ x ∧ 0 ≤ y ∧ y.natAbs < 2 ^ 200
/-- an event none of whose parts is at Z -/
def EvZ (Z : List Addr) (H : Hp) (a : Addr) : Ev → Prop
  | .snd x rs => ∃ l, a ∉ Z ∧ l ∉ Z ∧ H a = some (.tup [.str "send", .str x, .ref l]) ∧ H l = some (.lst (rs.map V.str))
  | .opn x s n => ∃ m, a ∉ Z ∧ m ∉ Z ∧ H a = some (.tup [.str "open", .str x, .ref m]) ∧ H m = some (.tup [.str s, .int n])
theorem EvZ.at' {Z : List Addr} {H : Hp} {a : Addr} {e : Ev} (h : EvZ Z H a e) : EvAt H a e := by
  cases e with
  | snd x rs => exact h.elim fun l k => ⟨l, k.2.2⟩
  | opn x s n => exact h.elim fun l k => ⟨l, k.2.2⟩
theorem EvZ.but {Z : List Addr} {H H' : Hp} {a : Addr} {e : Ev} (h : EvZ Z H a e) (b : But Z H H') : EvZ Z H' a e := by
  cases e with
  | snd x rs => exact h.elim fun l ⟨k1, k2, k3, k4⟩ => ⟨l, k1, k2, b _ _ k1 k3, b _ _ k2 k4⟩
  | opn x s n => exact h.elim fun l ⟨k1, k2, k3, k4⟩ => ⟨l, k1, k2, b _ _ k1 k3, b _ _ k2 k4⟩
theorem EvZ.same {Z : List Addr} {H H' : Hp} {a : Addr} {e : Ev} (h : EvZ Z H a e) (s : Same H H') : EvZ Z H' a e := h.but (But.same s)
theorem EvZ.opn_put {Z : List Addr} {H : Hp} {a D : Addr} {x s : Str} {n : Int} {xs : List V} {o : HO} (h : EvZ Z H a (.opn x s n)) (hd : H D = some (.lst xs)) : EvZ Z (upd H D o) a (.opn x s n) := by
  obtain ⟨m, k1, k2, k3, k4⟩ := h
  exact ⟨m, k1, k2, (upd_ne (ne_of k3 hd (by intro z; cases z))).trans k3, (upd_ne (ne_of k4 hd (by intro z; cases z))).trans k4⟩
def CntAt (kvs : List (Key × V)) (S : Str → List Nat) : Prop := ∀ x : Str, valV kvs (.inr x) = if (S x).length = 0 then none else some (.int ((S x).length : Nat))
/-- where the four changing objects stand, that they are new, apart -/
structure Four (H0 : Hp) (sd F C W : Addr) : Prop where
  nF : H0 F = none
  nC : H0 C = none
  nW : H0 W = none
  fs : F ≠ sd
  cs : C ≠ sd
  ws : W ≠ sd
  fc : F ≠ C
  fw : F ≠ W
  cw : C ≠ W
abbrev zz (sd F C W : Addr) : List Addr := [sd, F, C, W]
structure LInv (H0 H : Hp) (sd F C W : Addr) (nodes : List Str) (es : List Ev) (as : List Addr) (pend : List Pend) (ws : List Addr) (kvs : List (Key × V)) : Prop where
  m : MInv nodes es pend
  f : H F = some (.lst (as.map V.ref))
  c : H C = some (.dK kvs)
  w : H W = some (.lst (ws.map V.ref))
  s : SeedAt H sd
  base : But [sd] H0 H
  ea : as.length = es.length
  ev : ∀ (i : Nat) (a : Addr) (e : Ev), as[i]? = some a → es[i]? = some e → EvZ (zz sd F C W) H a e
  wa : ws.length = pend.length
  pv : ∀ (i : Nat) (a : Addr) (p : Pend), ws[i]? = some a → pend[i]? = some p → EvZ (zz sd F C W) H a p.ev
  cnt : CntAt kvs (rsOf nodes es).sends
  kl : kvs.length ≤ es.length
  pl : pend.length ≤ 12 * es.length
section
variable {H0 H H' : Hp} {sd F C W : Addr} {nodes : List Str} {es : List Ev} {as : List Addr} {pend : List Pend} {ws : List Addr} {kvs : List (Key × V)}
theorem But.base (Q : Four H0 sd F C W) (b0 : But [sd] H0 H) (b : But (zz sd F C W) H H') : But [sd] H0 H' := fun a x ha e => by
  refine b a x (fun z => ?_) (b0 a x ha e)
  simp only [zz, List.mem_cons, List.not_mem_nil, or_false] at z ha
  rcases z with z | z | z | z
  · exact ha z
  · rw [z, Q.nF] at e; cases e
  · rw [z, Q.nC] at e; cases e
  · rw [z, Q.nW] at e; cases e
/-- the heap moves, the four as they were (the seed may differ) -/
theorem LInv.move (Q : Four H0 sd F C W) (I : LInv H0 H sd F C W nodes es as pend ws kvs) (b : But (zz sd F C W) H H') (hF : H' F = H F) (hC : H' C = H C) (hW : H' W = H W) (hs : SeedAt H' sd) : LInv H0 H' sd F C W nodes es as pend ws kvs :=
  ⟨I.m, hF.trans I.f, hC.trans I.c, hW.trans I.w, hs, But.base Q I.base b, I.ea, fun i a e h1 h2 => (I.ev i a e h1 h2).but b, I.wa, fun i a p h1 h2 => (I.pv i a p h1 h2).but b, I.cnt, I.kl, I.pl⟩
theorem LInv.new (Q : Four H0 sd F C W) (I : LInv H0 H sd F C W nodes es as pend ws kvs) {T : Addr} {o : HO} (h : H T = none) : LInv H0 (upd H T o) sd F C W nodes es as pend ws kvs :=
  I.move Q (fun a x _ e => (upd_ne (ne_of_none e h)).trans e) (upd_ne (ne_of_none I.f h)) (upd_ne (ne_of_none I.c h)) (upd_ne (ne_of_none I.w h)) (by
    obtain ⟨x, y, z, h1, h2⟩ := I.s
    exact ⟨x, y, z, (upd_ne (ne_of_none h1 h)).trans h1, h2⟩)
theorem LInv.seed (Q : Four H0 sd F C W) (I : LInv H0 H sd F C W nodes es as pend ws kvs) (hs : SeedAt H' sd) (h : ∀ b, b ≠ sd → H' b = H b) : LInv H0 H' sd F C W nodes es as pend ws kvs :=
  I.move Q (fun a x ha e => (h a fun z => ha (by rw [z]; simp)).trans e) (h _ Q.fs) (h _ Q.cs) (h _ Q.ws) hs
/-- a tracked object that is none of the four -/
theorem LInv.apart (Q : Four H0 sd F C W) (I : LInv H0 H sd F C W nodes es as pend ws kvs) {T : Addr} (h : H T = none) : T ∉ zz sd F C W := by
  simp only [zz, List.mem_cons, List.not_mem_nil, or_false]
  rintro (z | z | z | z)
  · obtain ⟨x, y, z', h1, h2⟩ := I.s
    rw [z, h1] at h; cases h
  · rw [z, I.f] at h; cases h
  · rw [z, I.c] at h; cases h
  · rw [z, I.w] at h; cases h
theorem cnt_send {x : Str} {rs : List Str} (h : CntAt kvs (rsOf nodes es).sends) : CntAt (putK kvs (.inr x) (.int (((rsOf nodes es).sends x).length + 1 : Nat))) (rsOf nodes (es ++ [.snd x rs])).sends := fun y => by
  rw [valV_put, rsOf_snoc]
  show _ = if (if y = x then (rsOf nodes es).sends x ++ [es.length] else (rsOf nodes es).sends y).length = 0 then none else some (V.int (((if y = x then (rsOf nodes es).sends x ++ [es.length] else (rsOf nodes es).sends y).length : Nat) : Int))
  by_cases c : y = x
  · subst c
    rw [if_pos rfl, if_pos rfl, if_neg (by simp)]
    simp
  · rw [if_neg (fun z => c (Sum.inr.inj z)), if_neg c]
    exact h y
/-- a send is counted, appended, its opens wait -/
theorem LInv.send {x : Str} {rs : List Str} {a : Addr} {ps : List Addr} (Q : Four H0 sd F C W) (I : LInv H0 H sd F C W nodes es as pend ws kvs) (hx : x ∈ nodes) (hr : recvB nodes x rs = true) (hnd : rs.Nodup) (hl : rs.length ≤ 12) (b : But (zz sd F C W) H H')
    (hF : H' F = some (.lst ((as ++ [a]).map V.ref))) (hC : H' C = some (.dK (putK kvs (.inr x) (.int (((rsOf nodes es).sends x).length + 1 : Nat))))) (hW : H' W = some (.lst ((ws ++ ps).map V.ref))) (hs : SeedAt H' sd)
    (ha : EvZ (zz sd F C W) H' a (.snd x rs)) (hp : ps.length = rs.length) (hpe : ∀ (i : Nat) (p : Addr) (r : Str), ps[i]? = some p → rs[i]? = some r → EvZ (zz sd F C W) H' p (.opn r x (((rsOf nodes es).sends x).length + 1 : Nat))) :
    LInv H0 H' sd F C W nodes (es ++ [.snd x rs]) (as ++ [a]) (pend ++ newPend nodes es x rs) (ws ++ ps) (putK kvs (.inr x) (.int (((rsOf nodes es).sends x).length + 1 : Nat))) := by
  have nl : (newPend nodes es x rs).length = rs.length := List.length_map ..
  refine ⟨I.m.send hx hr hnd, hF, hC, hW, hs, But.base Q I.base b, by simp [I.ea], fun i c e h1 h2 => ?_, by simp [I.wa, nl, hp], fun i c p h1 h2 => ?_, cnt_send I.cnt, ?_, ?_⟩
  · by_cases k : i < es.length
    · rw [List.getElem?_append_left (by rw [I.ea]; exact k)] at h1
      rw [List.getElem?_append_left k] at h2
      exact (I.ev i c e h1 h2).but b
    · rw [List.getElem?_append_right (by rw [I.ea]; omega), I.ea] at h1
      rw [List.getElem?_append_right (by omega)] at h2
      have : i - es.length = 0 := by
        have := (List.getElem?_eq_some_iff.mp h2).1
        simp at this
        omega
      rw [this] at h1 h2
      cases h1
      cases h2
      exact ha
  · by_cases k : i < pend.length
    · rw [List.getElem?_append_left (by rw [I.wa]; exact k)] at h1
      rw [List.getElem?_append_left k] at h2
      exact (I.pv i c p h1 h2).but b
    · rw [List.getElem?_append_right (by rw [I.wa]; omega), I.wa] at h1
      rw [List.getElem?_append_right (by omega)] at h2
      unfold newPend at h2
      rw [List.getElem?_map] at h2
      obtain ⟨r, hr1, rfl⟩ := Option.map_eq_some_iff.mp h2
      exact hpe _ c r h1 hr1
  · have := length_putK kvs (.inr x) (.int (((rsOf nodes es).sends x).length + 1 : Nat))
    have := I.kl
    rw [List.length_append]
    show _ ≤ es.length + 1
    omega
  · have := I.pl
    simp [nl]
    omega
theorem LInv.rev (Q : Four H0 sd F C W) (I : LInv H0 H sd F C W nodes es as pend ws kvs) : LInv H0 (upd H W (.lst (ws.reverse.map V.ref))) sd F C W nodes es as pend.reverse ws.reverse kvs := by
  have b : But (zz sd F C W) H (upd H W (.lst (ws.reverse.map V.ref))) := But.put (by simp [zz])
  refine ⟨I.m.rev, (upd_ne Q.fw).trans I.f, (upd_ne Q.cw).trans I.c, upd_same, ?_, But.base Q I.base b, I.ea, fun i a e h1 h2 => (I.ev i a e h1 h2).but b, by simp [I.wa], fun i a p h1 h2 => ?_, I.cnt, I.kl, by simpa using I.pl⟩
  · obtain ⟨x, y, z, h1, h2⟩ := I.s
    exact ⟨x, y, z, (upd_ne (Ne.symm Q.ws)).trans h1, h2⟩
  · have l1 := (List.getElem?_eq_some_iff.mp h1).1
    have l2 := (List.getElem?_eq_some_iff.mp h2).1
    rw [List.length_reverse] at l1 l2
    rw [List.getElem?_reverse l1] at h1
    rw [List.getElem?_reverse l2] at h2
    rw [I.wa] at h1
    exact (I.pv _ a p h1 h2).but b
theorem LInv.open (Q : Four H0 sd F C W) (I : LInv H0 H sd F C W nodes es as pend ws kvs) (h0 : pend ≠ []) : ∃ (p : Pend) (a : Addr) (ps : List Pend) (wr : List Addr), pend = ps ++ [p] ∧ ws = wr ++ [a] ∧
    LInv H0 (upd (upd H W (.lst (wr.map V.ref))) F (.lst ((as ++ [a]).map V.ref))) sd F C W nodes (es ++ [p.ev]) (as ++ [a]) ps wr kvs := by
  obtain ⟨ps, p, rfl⟩ : ∃ ps p, pend = ps ++ [p] := ⟨pend.dropLast, pend.getLast h0, (List.dropLast_concat_getLast h0).symm⟩
  have hw0 : ws ≠ [] := fun z => by
    have := I.wa
    rw [z] at this
    simp at this
  obtain ⟨wr, a, rfl⟩ : ∃ wr a, ws = wr ++ [a] := ⟨ws.dropLast, ws.getLast hw0, (List.dropLast_concat_getLast hw0).symm⟩
  have hl : wr.length = ps.length := by
    have := I.wa
    simpa using this
  refine ⟨p, a, ps, wr, rfl, rfl, ?_⟩
  have b : But (zz sd F C W) H (upd (upd H W (.lst (wr.map V.ref))) F (.lst ((as ++ [a]).map V.ref))) := (But.put (by simp [zz])).trans (But.put (by simp [zz]))
  have pa : EvZ (zz sd F C W) H a p.ev := I.pv wr.length a p (by simp) (by rw [hl]; simp)
  refine ⟨I.m.open, upd_same, (upd_ne (Ne.symm Q.fc)).trans ((upd_ne Q.cw).trans I.c), (upd_ne (Ne.symm Q.fw)).trans upd_same, ?_, But.base Q I.base b, by simp [I.ea], fun i c e h1 h2 => ?_, hl, fun i c q h1 h2 => ?_, ?_, ?_, ?_⟩
  · obtain ⟨x, y, z, h1, h2⟩ := I.s
    exact ⟨x, y, z, (upd_ne (Ne.symm Q.fs)).trans ((upd_ne (Ne.symm Q.ws)).trans h1), h2⟩
  · by_cases k : i < es.length
    · rw [List.getElem?_append_left (by rw [I.ea]; exact k)] at h1
      rw [List.getElem?_append_left k] at h2
      exact (I.ev i c e h1 h2).but b
    · rw [List.getElem?_append_right (by rw [I.ea]; omega), I.ea] at h1
      rw [List.getElem?_append_right (by omega)] at h2
      have : i - es.length = 0 := by
        have := (List.getElem?_eq_some_iff.mp h2).1
        simp at this
        omega
      rw [this] at h1 h2
      cases h1
      cases h2
      exact pa.but b
  · have l1 := (List.getElem?_eq_some_iff.mp h1).1
    have l2 := (List.getElem?_eq_some_iff.mp h2).1
    exact (I.pv i c q (by rw [List.getElem?_append_left l1]; exact h1) (by rw [List.getElem?_append_left l2]; exact h2)).but b
  · rw [rsOf_snoc]
    exact I.cnt
  · have := I.kl
    simp
    omega
  · have := I.pl
    simp at this ⊢
    omega
end
/-! ### waiting opens as data -/
abbrev pdata (p : Pend) : PyData := .tuple [.str "open", .str p.x, .tuple [.str p.s, .int p.n]]
theorem dp_pend {K : PySem.W.Frag} {H : Hp} {Z : List Addr} : ∀ {ws : List Addr} {pend : List Pend}, ws.length = pend.length → (∀ (i : Nat) (a : Addr) (p : Pend), ws[i]? = some a → pend[i]? = some p → EvZ Z H a p.ev) → DpAll K H (ws.map V.ref) (pend.map pdata)
  | [], [], _, _ => .nil
  | a :: ws, p :: pend, hl, h => by
    obtain ⟨m, _, _, h1, h2⟩ := h 0 a p rfl rfl
    refine .cons (.tup (tpI h1) (.cons (.str _) (.cons (.str _) (.cons (.tup (tpI h2) (.cons (.str _) (.cons (.int _) .nil))) .nil)))) (dp_pend (by simpa using hl) fun i b q k1 k2 => h (i + 1) b q k1 k2)
theorem lay_pend {nodes : List Str} (hn : NodesOk nodes) : ∀ {pend : List Pend}, (∀ p ∈ pend, p.x ∈ nodes ∧ p.s ∈ nodes) → PyData.canLayAll0 (pend.map pdata) = true
  | [], _ => rfl
  | p :: r, h => by
    have h1 := h p List.mem_cons_self
    show (((PyData.canLay0 (.str "open")) && (PyData.canLay0 (.str p.x) && ((PyData.canLay0 (.str p.s) && (true && true)) && true))) && PyData.canLayAll0 (r.map pdata)) = true
    rw [show PyData.canLay0 (.str "open") = true from by decide +kernel, name_strOk (hn.nm _ h1.1), name_strOk (hn.nm _ h1.2), lay_pend hn fun q hq => h q (List.mem_cons_of_mem _ hq)]
    rfl
theorem depth_pend : ∀ (pend : List Pend), PyData.depthAll (pend.map pdata) ≤ 2
  | [] => Nat.zero_le _
  | p :: r => by
    show max 2 (PyData.depthAll (r.map pdata)) ≤ 2
    have := depth_pend r
    omega
theorem shaped_pend {nodes : List Str} {pend : List Pend} (hn : NodesOk nodes) (h : ∀ p ∈ pend, p.x ∈ nodes ∧ p.s ∈ nodes) : SeqAt.shaped (.list (pend.map pdata)) = true := by
  unfold SeqAt.shaped
  rw [show (PyData.list (pend.map pdata)).canLay0 = PyData.canLayAll0 (pend.map pdata) from rfl, lay_pend hn h, show (PyData.list (pend.map pdata)).depth = PyData.depthAll (pend.map pdata) + 1 from rfl, Bool.true_and, decide_eq_true_eq]
  have := depth_pend pend
  omega
theorem pend_in {nodes : List Str} {es : List Ev} {pend : List Pend} (M : MInv nodes es pend) : ∀ p ∈ pend, p.x ∈ nodes ∧ p.s ∈ nodes := fun p hp => by
  obtain ⟨h1, h2, _⟩ := M.good p hp
  obtain ⟨k1, _, _, k4⟩ := sentAt_mem h1
  obtain ⟨_, _, rs, hj, hr⟩ := sends_ok M.ok k4
  rw [recvAt_snd hj] at h2
  exact ⟨(recvB_mem hr h2).1, k1⟩
end KA

set_option Elab.async false
set_option linter.all false
set_option maxRecDepth 100000
set_option maxHeartbeats 16000000
namespace KA
open PySem PySem.Spec PyProof.Rows L2 L2.Dx Kx
section
variable {P : Program} {w : World} {K : PySem.W.Frag} {mg : Str → Option Value} {base : Heap}
def sp__law_seed (K : PySem.W.Frag) : Sp := fun vs H Q _ => ∃ (S : Addr) (ns : List Int) (k : Nat), vs = [.ref S, .int (k : Nat)] ∧ SqL K H S (ns.map V.int) ∧ k ≤ 100 ∧ ∀ H' a, Same H H' → H a = none → SeedAt H' a → Q (.ref a) H'
theorem ok__law_seed (T : Txt K mg) : FnOk P w K mg base CX0 1 T.f__law_seed T.fd__law_seed ["script", "k"] (sp__law_seed K) := by
  refine T.F__law_seed.ok sc__law_seed (fun vs H Q E h => ?_) (fun cdv A outer s H vs Q E hr h => ?_)
  · obtain ⟨S, ns, k, rfl, _⟩ := h
    rfl
  · obtain ⟨S, ns, k, rfl, hS, hk, q⟩ := h
    refine ⟨_, (pss_cons (ps_set (i := 2) sc__law_seed.nd rfl (by first | exact .inl rfl | exact .inr rfl) (pe_ifExp (pt_cmpR op_lt (pv 1) (pe_callB call_len_seq (by rfl) T.m_len PySem.boot_len (pa_cons (pv 0) pa_nil)) (nomark _)) (pe_ix ix_list (pv 0) (pv 1) (fun _ _ => rfl)) pe_int))
    (pss_one (ps_ret (pe_lst (pa_cons (pe_callB (call_max2 rfl) (by rfl) T.m_max (by decide +kernel) (pa_cons pe_int (pa_cons (pe_op op_sub (pv 2) (pe_op op_pow pe_int pe_int)) pa_nil))) (pa_cons (pe_op op_add (pe_op op_mul (pe_op op_add (pe_op op_modN (pv 2) (pe_op op_add (pe_op op_pow pe_int pe_int) pe_int)) pe_int) pe_int) (pv 1)) (pa_cons pe_int pa_nil))))))), ?_⟩
    have go : ∀ c : Int, 0 ≤ (if c - 10 ^ (18 : Int).toNat > 0 then c - 10 ^ (18 : Int).toNat else 0) ∧ 0 ≤ (c.fmod (10 ^ (43 : Int).toNat + 57) + 1) * 1024 + (k : Nat) ∧ ((c.fmod (10 ^ (43 : Int).toNat + 57) + 1) * 1024 + (k : Nat)).natAbs < 2 ^ 200 := fun c => by
      have h1 : 0 ≤ c.fmod (10 ^ (43 : Int).toNat + 57) := by rw [Int.fmod_eq_emod_of_nonneg _ (by decide)]; exact Int.emod_nonneg _ (by decide)
      have h2 : c.fmod (10 ^ (43 : Int).toNat + 57) < 10 ^ (43 : Int).toNat + 57 := by rw [Int.fmod_eq_emod_of_nonneg _ (by decide)]; exact Int.emod_lt_of_pos _ (by decide)
      have h3 : (10 : Int) ^ (43 : Int).toNat + 57 < 2 ^ 150 := by decide
      generalize c.fmod (10 ^ (43 : Int).toNat + 57) = m at h1 h2 ⊢
      refine ⟨by split <;> omega, by omega, by omega⟩
    by_cases hkl : k < ns.length
    · refine ⟨_, rfl, _, rfl, S, _, rfl, .inl hS, (k : Nat), (ns.length : Nat), rfl, by rw [List.length_map], true, ?_, iteT ?_⟩
      · exact congrArg V.bl (decide_eq_true (by omega))
      refine ⟨_, rfl, _, rfl, S, _, _, .int (ns[k]), rfl, rfl, hS, atI_nat (by rw [List.getElem?_map, List.getElem?_eq_getElem hkl]; rfl), ?_⟩
      obtain ⟨g1, g2, g3⟩ := go (ns[k])
      refine ⟨_, rfl, 10, 18, rfl, rfl, ⟨by decide, by decide, by decide⟩, _, _, rfl, rfl, _, _, rfl, ?_⟩
      refine ⟨_, rfl, 10, 43, rfl, rfl, ⟨by decide, by decide, by decide⟩, _, 57, rfl, rfl, _, _, rfl, rfl, by show (10 ^ (43 : Int).toNat + 57 : Int) ≠ 0; decide, ?_⟩
      refine ⟨_, 1, rfl, rfl, _, 1024, rfl, rfl, .inr ⟨by decide, by decide⟩, _, rfl, _, _, rfl, rfl, by show 3 ≤ sizeLine; decide, fun p hp => ?_⟩
      exact q _ p (same_new hp) hp ⟨_, _, 0, upd_same, g1, g2, g3⟩
    · refine ⟨_, rfl, _, rfl, S, _, rfl, .inl hS, (k : Nat), (ns.length : Nat), rfl, by rw [List.length_map], false, ?_, iteF ?_⟩
      · exact congrArg V.bl (decide_eq_false (by omega))
      obtain ⟨g1, g2, g3⟩ := go 0
      refine ⟨.int 0, rfl, 10, 18, rfl, rfl, ⟨by decide, by decide, by decide⟩, _, _, rfl, rfl, _, _, rfl, ?_⟩
      refine ⟨.int 0, rfl, 10, 43, rfl, rfl, ⟨by decide, by decide, by decide⟩, _, 57, rfl, rfl, _, _, rfl, rfl, by show (10 ^ (43 : Int).toNat + 57 : Int) ≠ 0; decide, ?_⟩
      refine ⟨_, 1, rfl, rfl, _, 1024, rfl, rfl, .inr ⟨by decide, by decide⟩, _, rfl, _, _, rfl, rfl, by show 3 ≤ sizeLine; decide, fun p hp => ?_⟩
      exact q _ p (same_new hp) hp ⟨_, _, 0, upd_same, g1, g2, g3⟩
def sp__law_next : Sp := fun vs H Q _ => ∃ (a : Addr) (n : Int), vs = [.ref a, .int n] ∧ SeedAt H a ∧ 1 ≤ n ∧ n < 1073741824 ∧ ∀ H' r, SeedAt H' a → (∀ b, b ≠ a → H' b = H b) → 0 ≤ r → r < n → Q (.int r) H'
theorem ok__law_next (T : Txt K mg) : FnOk P w K mg base CX0 1 T.f__law_next T.fd__law_next ["seed", "size"] sp__law_next := by
  refine T.F__law_next.ok sc__law_next (fun vs H Q E h => ?_) (fun cdv A outer s H vs Q E hr h => ?_)
  · obtain ⟨a, n, rfl, _⟩ := h
    rfl
  · obtain ⟨a, n, rfl, ⟨x, y, z, ha, hx, hy, hy2⟩, hn1, hn2, q⟩ := h
    refine ⟨_, (pss_cons (ps_if (pt_cmpR op_gt (pe_ix ix_list (pv 0) pe_int (fun _ _ => rfl)) pe_int (nomark _))
      (pss_cons (ps_set (i := 2) sc__law_next.nd rfl (by first | exact .inl rfl | exact .inr rfl) (pe_op op_modN (pe_ix ix_list (pv 0) pe_int (fun _ _ => rfl)) (pv 1)))
      (pss_cons (ps_asg (pe_op op_fdivN (pe_ix ix_list (pv 0) pe_int (fun _ _ => rfl)) (pv 1)) (pg_sub (pv 0) pe_int set_list))
      (pss_one (ps_ret (pv 2)))))
      pss_nil)
    (pss_cons (ps_asg (pe_op op_add (pe_ix ix_list (pv 0) pe_int (fun _ _ => rfl)) pe_int) (pg_sub (pv 0) pe_int set_list))
    (pss_cons (ps_set (i := 3) sc__law_next.nd rfl (by first | exact .inl rfl | exact .inr rfl) (pe_op op_modN (pe_op op_add (pe_op op_mulW (pe_ix ix_list (pv 0) pe_int (fun _ _ => rfl)) (pe_ix ix_list (pv 0) pe_int (fun _ _ => rfl))) (pe_op op_mul pe_int (pe_ix ix_list (pv 0) pe_int (fun _ _ => rfl)))) (pe_op op_add (pe_op op_pow pe_int pe_int) pe_int)))
    (pss_cons (ps_set (i := 3) sc__law_next.nd rfl (by first | exact .inl rfl | exact .inr rfl) (pe_op op_modN (pe_op op_add (pe_op op_powW (pv 3) pe_int) pe_int) (pe_op op_add (pe_op op_pow pe_int pe_int) pe_int)))
    (pss_one (ps_ret (pe_op op_modN (pe_op op_fdivN (pv 3) pe_int) (pv 1)))))))), ?_⟩
    have g0 : SqL K H a [.int x, .int y, .int z] := .inl (.inl ha)
    refine ⟨.ref a, rfl, a, _, 0, .int x, rfl, rfl, g0, atI_nat (j := 0) rfl, x, 0, rfl, rfl, _, rfl, ite2 (fun e => ?_) (fun e => ?_)⟩
    · have e1 : 0 < x := of_decide_eq_true e
      refine ⟨.ref a, rfl, a, _, 0, .int x, rfl, rfl, g0, atI_nat (j := 0) rfl, .int n, rfl, x, n, rfl, rfl, by omega, ?_⟩
      refine ⟨.ref a, rfl, a, _, 0, .int x, rfl, rfl, g0, atI_nat (j := 0) rfl, .int n, rfl, x, n, rfl, rfl, ⟨by omega, by omega⟩, ?_⟩
      refine ⟨.ref a, rfl, a, _, 0, 0, rfl, rfl, ha, rfl, ?_⟩
      refine ⟨_, rfl, q _ _ ⟨x.fdiv n, y, z, upd_same, ?_, hy, hy2⟩ (fun b hb => upd_ne hb) ?_ ?_⟩
      · rw [Int.fdiv_eq_ediv_of_nonneg _ (by omega)]; exact Int.ediv_nonneg hx (by omega)
      · rw [Int.fmod_eq_emod_of_nonneg _ (by omega)]; exact Int.emod_nonneg _ (by omega)
      · rw [Int.fmod_eq_emod_of_nonneg _ (by omega)]; exact Int.emod_lt_of_pos _ (by omega)
    · refine ⟨.ref a, rfl, a, _, 2, .int z, rfl, rfl, g0, atI_nat (j := 2) rfl, z, 1, rfl, rfl, ?_⟩
      refine ⟨.ref a, rfl, a, _, 2, 2, rfl, rfl, ha, rfl, ?_⟩
      have ha1 : (upd H a (.lst [.int x, .int y, .int (z + 1)])) a = some (.lst [.int x, .int y, .int (z + 1)]) := upd_same
      have g1 : SqL K (upd H a (.lst [.int x, .int y, .int (z + 1)])) a [.int x, .int y, .int (z + 1)] := .inl (.inl ha1)
      refine ⟨.ref a, rfl, a, _, 1, .int y, rfl, rfl, g1, atI_nat (j := 1) rfl, .ref a, rfl, a, _, 1, .int y, rfl, rfl, g1, atI_nat (j := 1) rfl, y, y, rfl, rfl, wide_mul hy2 hy2 (by decide) (by decide) (by decide), ?_⟩
      refine ⟨.ref a, rfl, a, _, 2, .int (z + 1), rfl, rfl, g1, atI_nat (j := 2) rfl, 982451653, z + 1, rfl, rfl, .inl ⟨by decide, by decide⟩, ?_⟩
      refine ⟨y * y, 982451653 * (z + 1), rfl, rfl, ?_⟩
      refine ⟨10, 45, rfl, rfl, ⟨by decide, by decide, by decide⟩, 10 ^ (45 : Int).toNat, 9, rfl, rfl, ?_⟩
      refine ⟨_, _, rfl, rfl, by show (10 ^ (45 : Int).toNat + 9 : Int) ≠ 0; decide, ?_⟩
      have hst2 : ((y * y + 982451653 * (z + 1)).fmod (10 ^ (45 : Int).toNat + 9)).natAbs < 2 ^ 160 := by
        have h9 : (10 : Int) ^ (45 : Int).toNat + 9 < 2 ^ 160 := by decide
        have h1 : 0 ≤ (y * y + 982451653 * (z + 1)).fmod (10 ^ (45 : Int).toNat + 9) := by
          rw [Int.fmod_eq_emod_of_nonneg _ (by decide)]; exact Int.emod_nonneg _ (by decide)
        have h2 : (y * y + 982451653 * (z + 1)).fmod (10 ^ (45 : Int).toNat + 9) < 10 ^ (45 : Int).toNat + 9 := by
          rw [Int.fmod_eq_emod_of_nonneg _ (by decide)]; exact Int.emod_lt_of_pos _ (by decide)
        omega
      refine ⟨.int ((y * y + 982451653 * (z + 1)).fmod (10 ^ (45 : Int).toNat + 9)), rfl, _, 3, rfl, rfl, wide_pow (by decide) hst2 (by decide) (by decide), _, 776531419, rfl, rfl, ?_⟩
      refine ⟨10, 44, rfl, rfl, ⟨by decide, by decide, by decide⟩, 10 ^ (44 : Int).toNat, 31, rfl, rfl, ?_⟩
      refine ⟨_, _, rfl, rfl, by show (10 ^ (44 : Int).toNat + 31 : Int) ≠ 0; decide, ?_⟩
      refine ⟨_, rfl, _, 524287, rfl, rfl, ⟨by decide, by decide⟩, .int n, rfl, _, n, rfl, rfl, by omega, ?_⟩
      refine q _ _ ⟨x, y, z + 1, upd_same, hx, hy, hy2⟩ (fun b hb => upd_ne hb) ?_ ?_
      · rw [Int.fmod_eq_emod_of_nonneg _ (by omega)]; exact Int.emod_nonneg _ (by omega)
      · rw [Int.fmod_eq_emod_of_nonneg _ (by omega)]; exact Int.emod_lt_of_pos _ (by omega)
end
end KA

set_option Elab.async false
set_option linter.all false
set_option maxRecDepth 100000
set_option maxHeartbeats 4000000
namespace KA
open PySem PySem.Spec PyProof.Rows L2 L2.Dx Kx
/-- [one for one in nodes if one != x] -/
theorem lc_others {K : PySem.W.Frag} {σ : L2.St} {H : Hp} {N D : Addr} {nodes : List Str} {x : Str} {j c : Nat} {Qd : Hp → Prop} (hj : j < σ.length) (hcj : j ≠ c) (hc : σ[c]? = some (some (.str x))) (hN : H N = some (.lst (nodes.map V.str))) (hl : nodes.length ≤ 1000) (hD : H D = none)
    (q : ∀ H' : Hp, (∀ b, b ≠ D → H' b = H b) → H' D = some (.lst ((nodes.filter fun y => decide (y ≠ x)).map V.str)) → Qd H') :
    ∃ W : Nat → Nat → Hp → Prop, (∃ m, W 0 m (upd H D (.lst []))) ∧ ∀ i m H, W i m H →
      ((Itl K N).stop i H ∧ Qd H) ∨ ((Itl K N).go i H ∧ ∃ Nx : Hp → Prop, (∀ H', Nx H' → ∃ m', m' < m ∧ W (i + 1) m' H') ∧ ∀ y H', (Itl K N).yld i H y H' → gName j y (wipe σ [j]) H' fun σ2 H2 => wipe σ2 [j] = wipe σ [j] ∧ tTest (tOp rNe (tVar j) (tVar c)) σ2 H2 fun b H3 =>
        if b = true then tVar j σ2 H3 fun y H4 => ∃ acc, H4 D = some (.lst acc) ∧ acc.length < sizeLine ∧ Nx (upd H4 D (.lst (acc ++ [y]))) else Nx H3) := by
  have nND : N ≠ D := ne_of_none hN hD
  refine lc_list (xs := nodes.map V.str) (fun i H' => (∀ b, b ≠ D → H' b = H b) ∧ H' D = some (.lst (((nodes.take i).filter fun y => decide (y ≠ x)).map V.str))) ⟨fun b hb => upd_ne hb, upd_same⟩ (fun i H' _ ⟨h1, _⟩ => ltI ((h1 _ nND).trans hN)) ?_ ?_
  · rintro i v H' hx ⟨h1, h2⟩
    rw [List.getElem?_map] at hx
    obtain ⟨y, hy, rfl⟩ := Option.map_eq_some_iff.mp hx
    have s1 : ((wipe σ [j]).set j (some (V.str y)))[j]? = some (some (V.str y)) := by
      rw [List.getElem?_set_self]
      rw [wipe_length]
      exact hj
    have s2 : ((wipe σ [j]).set j (some (V.str y)))[c]? = some (some (V.str x)) := by
      rw [List.getElem?_set_ne hcj, wipe_out (by simpa using Ne.symm hcj)]
      exact hc
    refine ⟨by simp [wipe, List.set_set], _, s1, _, s2, rfl, _, rfl, ?_⟩
    by_cases e : y = x
    · rw [show (!decide (V.str y = V.str x)) = false by rw [e]; simp]
      refine iteF ⟨h1, ?_⟩
      rw [h2, take_snoc hy, List.filter_append]
      simp [e]
    · rw [show (!decide (V.str y = V.str x)) = true by simp [e]]
      refine iteT ⟨_, s1, _, h2, ?_, fun b hb => (upd_ne hb).trans (h1 b hb), ?_⟩
      · rw [List.length_map]
        exact small1000 (Nat.le_trans (List.length_filter_le _ _) (Nat.le_trans (List.length_take_le' _ _) hl))
      · rw [upd_same, take_snoc hy, List.filter_append]
        simp [e]
  · rintro H' ⟨h1, h2⟩
    rw [List.length_map, List.take_length] at h2
    exact q H' h1 h2
/-- the receivers drawn: all others, the first, the last two -/
def drawn (r : Nat) (l : List Str) : List Str := if r = 0 then l else if r = 1 then l.take 1 else l.drop (l.length - 2)
theorem drawn_sub (r : Nat) (l : List Str) : (drawn r l).Sublist l := by
  unfold drawn
  split
  · exact List.Sublist.refl l
  · split
    · exact List.take_sublist _ _
    · exact List.drop_sublist _ _
theorem drawn_ne {r : Nat} {l : List Str} (h : l ≠ []) : drawn r l ≠ [] := by
  have h0 : 0 < l.length := List.length_pos_iff.mpr h
  intro z
  have : (drawn r l).length = 0 := by rw [z]; rfl
  unfold drawn at this
  split at this
  · omega
  · split at this
    · rw [List.length_take] at this
      omega
    · rw [List.length_drop] at this
      omega
theorem others_ne {nodes : List Str} {x : Str} (hn : NodesOk nodes) : (nodes.filter fun y => decide (y ≠ x)) ≠ [] := by
  have hlo := hn.lo
  have nd := hn.nodup
  obtain ⟨a, b, r, rfl⟩ : ∃ a b r, nodes = a :: b :: r := by
    match nodes, hlo with
    | a :: b :: r, _ => exact ⟨a, b, r, rfl⟩
  have hab : a ≠ b := by
    intro e
    subst e
    simp at nd
  by_cases e : a = x
  · have : b ∈ ((a :: b :: r).filter fun y => decide (y ≠ x)) := by
      rw [List.mem_filter]
      exact ⟨by simp, by rw [decide_eq_true_eq]; rw [← e]; exact Ne.symm hab⟩
    exact List.ne_nil_of_mem this
  · have : a ∈ ((a :: b :: r).filter fun y => decide (y ≠ x)) := by
      rw [List.mem_filter]
      exact ⟨by simp, by rw [decide_eq_true_eq]; exact e⟩
    exact List.ne_nil_of_mem this
theorem cut_take1 (xs : List V) : cutV xs none (some 1) = xs.take 1 := by
  unfold cutV
  rw [HT.sIx_none, show HT.sIx xs.length xs.length (some 1) = min 1 xs.length from HT.sIx_nat xs.length xs.length 1]
  simp [List.take_take]
theorem cut_last2 (xs : List V) : cutV xs (some (-2)) none = xs.drop (xs.length - 2) := by
  unfold cutV
  rw [HT.sIx_none, show HT.sIx xs.length 0 (some (-2)) = xs.length - 2 by
    show (if (-2 : Int) < 0 then ((-2 : Int) + (xs.length : Int)).toNat else min (-2 : Int).toNat xs.length) = _
    rw [if_pos (by decide)]
    omega]
  refine List.take_of_length_le ?_
  rw [List.length_drop]
  omega
end KA

set_option Elab.async false
set_option linter.all false
set_option maxRecDepth 100000
set_option maxHeartbeats 4000000
namespace L2.Dx
open PySem PySem.Spec PyProof.Rows L2
/-- a list comprehension over lo, lo + 1, .. -/
theorem lc_rng {lo : Int} {n : Nat} {g : TG} {tt : TT} {te : TE} {vs : List Nat} {σ : St} {H1 : Hp} {D : Addr} {Qd : Hp → Prop} (Pv : Nat → Hp → Prop) (h0 : Pv 0 (upd H1 D (.lst [])))
    (hs : ∀ (i : Nat) H, i < n → Pv i H → g (.int (lo + i)) (wipe σ vs) H fun σ2 H2 => wipe σ2 vs = wipe σ vs ∧ tt σ2 H2 fun b H3 =>
      if b = true then te σ2 H3 fun y H4 => ∃ acc, H4 D = some (.lst acc) ∧ acc.length < sizeLine ∧ Pv (i + 1) (upd H4 D (.lst (acc ++ [y]))) else Pv (i + 1) H3) (hd : ∀ H, Pv n H → Qd H) :
    ∃ W : Nat → Nat → Hp → Prop, (∃ m, W 0 m (upd H1 D (.lst []))) ∧ ∀ i m H, W i m H →
      ((Itr lo n).stop i H ∧ Qd H) ∨ ((Itr lo n).go i H ∧ ∃ Nx : Hp → Prop, (∀ H', Nx H' → ∃ m', m' < m ∧ W (i + 1) m' H') ∧ ∀ v H', (Itr lo n).yld i H v H' → g v (wipe σ vs) H' fun σ2 H2 => wipe σ2 vs = wipe σ vs ∧ tt σ2 H2 fun b H3 =>
        if b = true then te σ2 H3 fun y H4 => ∃ acc, H4 D = some (.lst acc) ∧ acc.length < sizeLine ∧ Nx (upd H4 D (.lst (acc ++ [y]))) else Nx H3) := by
  refine ⟨fun i m H => m = n - i ∧ i ≤ n ∧ Pv i H, ⟨_, rfl, Nat.zero_le _, h0⟩, fun i m H ⟨em, hi, p⟩ => ?_⟩
  subst em
  rcases Nat.lt_or_ge i n with lt | ge
  · refine .inr ⟨lt, Pv (i + 1), fun H' p' => ⟨_, by omega, rfl, lt, p'⟩, fun v H' ⟨e, ev⟩ => ?_⟩
    subst e ev
    exact hs i _ lt p
  · have e : n = i := Nat.le_antisymm ge hi
    subst e
    exact .inl ⟨Nat.le_refl _, hd H p⟩
theorem seqIx_nat {i n : Nat} (h : i < n) : seqIndex? ((i : Nat) : Int) n = some i := by
  unfold seqIndex?
  simp only [show ¬ ((i : Nat) : Int) < 0 by omega, if_false]
  rw [if_pos (by simp; omega)]
  simp
theorem perm_erase {α : Type} : ∀ {l : List α} {i : Nat} {y : α}, l[i]? = some y → (y :: l.eraseIdx i).Perm l
  | a :: l, 0, y, h => by cases h; exact .refl _
  | a :: l, i + 1, y, h => (List.Perm.swap a y (l.eraseIdx i)).trans ((perm_erase (l := l) (i := i) h).cons a)
theorem sortedS_pw : ∀ {ys : List Str}, sortedS ys = true → ys.Nodup → ys.Pairwise fun a b => a.cps.toList < b.cps.toList
  | [], _, _ => .nil
  | x :: r, h, nd => by
    have go : ∀ (r : List Str) (x : Str), risingS x r = true → (x :: r).Nodup → (x :: r).Pairwise fun a b => a.cps.toList < b.cps.toList := by
      intro r
      induction r with
      | nil => exact fun x _ _ => List.pairwise_singleton ..
      | cons y t ih =>
        intro x h nd
        unfold risingS at h
        rw [Bool.and_eq_true, ltCps_eq] at h
        obtain ⟨h1, h2⟩ := h
        have ne : x ≠ y := fun z => by
          rw [z] at nd
          exact (List.nodup_cons.mp nd).1 List.mem_cons_self
        have lt : x.cps.toList < y.cps.toList := by
          have h1 : ¬ y.cps.toList < x.cps.toList := by simpa using h1
          rcases Nat.lt_or_ge 0 1 with _ | _
          · by_cases c : x.cps.toList < y.cps.toList
            · exact c
            · exfalso
              apply ne
              have := List.le_antisymm (List.not_lt.mp h1) (List.not_lt.mp c)
              obtain ⟨⟨a⟩⟩ := x
              obtain ⟨⟨b⟩⟩ := y
              simp only at this
              rw [this]
          · omega
        have p := ih y h2 (List.nodup_cons.mp nd).2
        refine .cons (fun z hz => ?_) p
        rcases List.mem_cons.mp hz with e | hz
        · rw [e]; exact lt
        · exact List.lt_trans lt ((List.pairwise_cons.mp p).1 z hz)
    exact go r x h nd
end L2.Dx
namespace KA
open PySem PySem.Spec PyProof.Rows L2 L2.Dx Kx
def pool : List Str := ["a", "b", "c", "d", "z", "ab", "send", "open", "run", "none", "node", "abcdefgh", "zzzzzzzz", "y"]
theorem pool_nodup : pool.Nodup := by decide +kernel
theorem pool_name : ∀ z ∈ pool, NameOk z := by
  have k : pool.all (fun z => decide (1 ≤ z.length) && decide (z.length ≤ 8) && z.cps.toList.all (fun c => decide (97 ≤ c ∧ c ≤ 122))) = true := by decide +kernel
  rw [List.all_eq_true] at k
  intro z hz
  have := k z hz
  simp only [Bool.and_eq_true, decide_eq_true_eq, List.all_eq_true] at this
  exact ⟨this.1.1, this.1.2, this.2⟩
theorem nodesOk_pool {ys gs ps : List Str} (h : (gs ++ ps).Perm pool) (hp : ys.Perm gs) (hs : sortedS ys = true) (h2 : 2 ≤ gs.length) (h12 : gs.length ≤ 12) : NodesOk ys ∧ ∀ z ∈ ys, z ∈ pool := by
  have nd : gs.Nodup := (List.nodup_append.mp (h.nodup_iff.mpr pool_nodup)).1
  have mem : ∀ z ∈ ys, z ∈ pool := fun z hz => h.subset (List.mem_append_left _ (hp.subset hz))
  exact ⟨⟨by rw [hp.length_eq]; exact h2, by rw [hp.length_eq]; exact h12, fun z hz => pool_name z (mem z hz), sortedS_pw hs (hp.nodup_iff.mpr nd)⟩, mem⟩
end KA
theorem L2.Dx.map_erase {α β : Type} (f : α → β) : ∀ (l : List α) (i : Nat), (l.map f).eraseIdx i = (l.eraseIdx i).map f
  | [], _ => rfl
  | _ :: _, 0 => rfl
  | a :: l, i + 1 => congrArg (f a :: ·) (L2.Dx.map_erase f l i)

set_option Elab.async false
set_option linter.all false
set_option maxRecDepth 100000
set_option maxHeartbeats 16000000
namespace KA
open PySem PySem.Spec PyProof.Rows L2 L2.Dx Kx
section
variable {P : Program} {w : World} {K : PySem.W.Frag} {mg : Str → Option Value} {base : Heap}
def sp__law_nodes : Sp := fun vs H Q _ => ∃ (sd : Addr) (most : Nat), vs = [.ref sd, .int (most : Nat)] ∧ SeedAt H sd ∧ 2 ≤ most ∧ most ≤ 12 ∧
  ∀ (H' : Hp) (R : Addr) (nodes : List Str), But [sd] H H' → SeedAt H' sd → H R = none → H' R = some (.lst (nodes.map V.str)) → NodesOk nodes → (∀ z ∈ nodes, z ∈ pool) → nodes.length ≤ most → R ≠ sd → Q (.ref R) H'
theorem ok__law_nodes (T : Txt K mg) : FnOk P w K mg base CX0 2 T.f__law_nodes T.fd__law_nodes ["seed", "most"] sp__law_nodes := by
  refine T.F__law_nodes.ok sc__law_nodes (fun vs H Q E h => ?_) (fun cdv A outer s H vs Q E hr h => ?_)
  · obtain ⟨sd, most, rfl, _⟩ := h
    rfl
  · obtain ⟨sd, most, rfl, hS, h2, h12, q⟩ := h
    refine ⟨_, (pss_cons (ps_set (i := 2) sc__law_nodes.nd rfl (by first | exact .inl rfl | exact .inr rfl) (pe_lst (pa_cons pe_str (pa_cons pe_str (pa_cons pe_str (pa_cons pe_str (pa_cons pe_str (pa_cons pe_str (pa_cons pe_str (pa_cons pe_str (pa_cons pe_str (pa_cons pe_str (pa_cons pe_str (pa_cons pe_str (pa_cons pe_str (pa_cons pe_str pa_nil))))))))))))))))
    (pss_one (ps_ret (pe_callB cr_sortedS (by rfl) T.m_sorted (by decide +kernel) (pa_cons (pe_lc (own := [("turn", 3)]) rfl sc__law_nodes.nd (pi_range1 (by rfl) T.m_range (pa_cons (pe_op op_add pe_int (pe_call (ok__law_next T) (hr.mono (by decide)) rfl T.M__law_next T.F__law_next.kp (b__law_next T) .nil pass0 (pa_cons (pv 0) (pa_cons (pe_op op_sub (pv 1) pe_int) pa_nil)))) pa_nil)) (blkOk_by (N := ["seed", "most", "pool", "turn"]) (sc := defScope s__law_nodes) (by decide +kernel)) (fun _ _ _ _ _ => (pg_name (i := 3) sc__law_nodes.nd rfl (by first | exact .inl rfl | exact .inr rfl))) (fun _ _ _ _ _ => pts_nil) (fun _ _ _ _ _ => (pe_bmK (K := K) rfl PySem.F.plainAttrs_list PySem.F.slot_list_pop PySem.F.type_list_pop mt_popAt (pv 2) (pa_cons (pe_call (ok__law_next T) (hr.mono (by decide)) (by rfl) T.M__law_next T.F__law_next.kp (b__law_next T) .nil pass0 (pa_cons (pv 0) (pa_cons (pe_callB (call_len_seqK (K := K) rfl) (by rfl) T.m_len PySem.boot_len (pa_cons (pv 2) pa_nil)) pa_nil))) pa_nil)))) pa_nil))))), ?_⟩
    refine ⟨by show 14 ≤ sizeLine; decide, fun A hA => ?_⟩
    have Asd : A ≠ sd := fun z => by
      obtain ⟨x, y, z', h1, _⟩ := hS
      rw [z, h1] at hA; cases hA
    have b1 : But [sd] H (upd H A (.lst (pool.map V.str))) := But.same (same_new hA)
    have S1 : SeedAt (upd H A (.lst (pool.map V.str))) sd := by
      obtain ⟨x, y, z, h1, h2⟩ := hS
      exact ⟨x, y, z, (upd_ne (Ne.symm Asd)).trans h1, h2⟩
    have A1 : (upd H A (.lst (pool.map V.str))) A = some (.lst (pool.map V.str)) := upd_same
    refine ⟨_, rfl, _, rfl, most, 1, rfl, rfl, sd, _, rfl, S1, by omega, by omega, fun H2 r hs2 hb2 hr0 hr1 => ⟨2, r, rfl, rfl, _, rfl, by omega, by omega, fun D hD => ?_⟩⟩
    obtain ⟨nr, rfl⟩ : ∃ nr : Nat, r = (nr : Int) := ⟨r.toNat, by omega⟩
    have A2 := (hb2 A Asd).trans A1
    have AD : A ≠ D := ne_of_none A2 hD
    have sD : D ≠ sd := fun z => by
      obtain ⟨x, y, z', h1, _⟩ := hs2
      rw [z, h1] at hD; cases hD
    have D0 : H D = none := by
      cases e : H D with
      | none => rfl
      | some o =>
        have e1 : H2 D = some o := (hb2 D sD).trans (b1 D o (by simpa using sD) e)
        rw [hD] at e1
        cases e1
    have b2 : But [sd] H H2 := fun a x ha e => (hb2 a (by simpa using ha)).trans (b1 a x ha e)
    clear hb2 b1 S1 A1
    refine lc_rng (fun i H' => SeedAt H' sd ∧ But [sd] H H' ∧ ∃ gs ps : List Str, (gs ++ ps).Perm pool ∧ gs.length = i ∧ H' D = some (.lst (gs.map V.str)) ∧ H' A = some (.lst (ps.map V.str))) ?_ ?_ ?_
    · refine ⟨?_, b2.trans (But.same (same_new hD)), [], pool, .refl _, rfl, upd_same, (upd_ne AD).trans A2⟩
      obtain ⟨x, y, z, h1, h2⟩ := hs2
      exact ⟨x, y, z, (upd_ne (Ne.symm sD)).trans h1, h2⟩
    · rintro i H3 hi ⟨S3, b3, gs, ps, hp, hgl, hD3, hA3⟩
      refine ⟨by simp [wipe, List.set_set], ?_⟩
      dsimp only [tYes]
      rw [if_pos rfl]
      have hpl : ps.length = 14 - i := by
        have := hp.length_eq
        rw [List.length_append, hgl] at this
        have e : pool.length = 14 := rfl
        omega
      refine ⟨.ref A, rfl, .inl ⟨rfl, _, .inl (.inl hA3)⟩, .ref sd, rfl, .ref A, rfl, A, _, rfl, .inl (ltI hA3), sd, _, rfl, S3, by rw [List.length_map]; omega, by rw [List.length_map]; omega, fun H4 r4 S4 hb4 h40 h41 => ?_⟩
      rw [List.length_map] at h41
      obtain ⟨n4, rfl⟩ : ∃ nr : Nat, r4 = (nr : Int) := ⟨r4.toNat, by omega⟩
      have hA4 := (hb4 A Asd).trans hA3
      have hD4 := (hb4 D sD).trans hD3
      have hlt : n4 < ps.length := by omega
      have hy : ps[n4]? = some ps[n4] := List.getElem?_eq_getElem hlt
      refine ⟨A, _, _, n4, .str ps[n4], rfl, rfl, hA4, by omega, by omega, by rw [List.length_map]; exact seqIx_nat hlt, by rw [List.getElem?_map, hy]; rfl, ?_⟩
      refine ⟨gs.map V.str, (upd_ne (Ne.symm AD)).trans hD4, by rw [List.length_map]; exact small1000 (by omega), ?_, ?_, gs ++ [ps[n4]], ps.eraseIdx n4, ?_, by simp [hgl], by rw [upd_same, List.map_append]; rfl, ?_⟩
      · obtain ⟨x, y, z, h1, h2⟩ := S4
        exact ⟨x, y, z, (upd_ne (Ne.symm sD)).trans ((upd_ne (Ne.symm Asd)).trans h1), h2⟩
      · intro a x ha e
        have e3 := b3 a x ha e
        have aA : a ≠ A := ne_of_none e hA
        have aD : a ≠ D := ne_of_none e D0
        exact (upd_ne aD).trans ((upd_ne aA).trans ((hb4 a (by simpa using ha)).trans e3))
      · refine .trans ?_ hp
        rw [List.append_assoc]
        exact (perm_erase hy).append_left gs
      · refine (upd_ne AD).trans ?_
        rw [upd_same, map_erase]
    · rintro H3 ⟨S3, b3, gs, ps, hp, hgl, hD3, hA3⟩
      refine ⟨D, gs, rfl, ltI hD3, by omega, fun ys p hys hso hp3 => ?_⟩
      have p0 : H p = none := by
        cases e : H p with
        | none => rfl
        | some o =>
          have psd : p ≠ sd := fun z => by
            obtain ⟨x, y, z', h1, _⟩ := S3
            rw [z, h1] at hp3; cases hp3
          have e1 := b3 p o (by simpa using psd) e
          rw [hp3] at e1
          cases e1
      have psd : p ≠ sd := fun z => by
        obtain ⟨x, y, z', h1, _⟩ := S3
        rw [z, h1] at hp3; cases hp3
      obtain ⟨ok, mem⟩ := nodesOk_pool hp hys hso (by omega) (by omega)
      refine q _ p ys (b3.trans (But.same (same_new hp3))) ?_ p0 upd_same ok mem (by rw [hys.length_eq]; omega) psd
      obtain ⟨x, y, z, h1, h2⟩ := S3
      exact ⟨x, y, z, (upd_ne (Ne.symm psd)).trans h1, h2⟩
end
end KA

set_option Elab.async false
set_option linter.all false
set_option maxRecDepth 100000
set_option maxHeartbeats 4000000
namespace KA
open PySem PySem.Spec PyProof.Rows L2 L2.Dx Kx
/-- a waiting entry none of whose parts is at Z -/
def PvZ (Z : List Addr) (H : Hp) (a : Addr) (x s : Str) (n : Int) : Prop := ∃ m, a ∉ Z ∧ m ∉ Z ∧ H a = some (.tup [.str x, .ref m]) ∧ H m = some (.tup [.str s, .int n])
theorem PvZ.but {Z : List Addr} {H H' : Hp} {a : Addr} {x s : Str} {n : Int} (h : PvZ Z H a x s n) (b : But Z H H') : PvZ Z H' a x s n := h.elim fun m ⟨k1, k2, k3, k4⟩ => ⟨m, k1, k2, b _ _ k1 k3, b _ _ k2 k4⟩
theorem PvZ.same {Z : List Addr} {H H' : Hp} {a : Addr} {x s : Str} {n : Int} (h : PvZ Z H a x s n) (b : Same H H') : PvZ Z H' a x s n := h.but (But.same b)
theorem PvZ.put {Z : List Addr} {H : Hp} {a D : Addr} {x s : Str} {n : Int} {xs : List V} {o : HO} (h : PvZ Z H a x s n) (hd : H D = some (.lst xs)) : PvZ Z (upd H D o) a x s n := by
  obtain ⟨m, k1, k2, k3, k4⟩ := h
  exact ⟨m, k1, k2, (upd_ne (ne_of k3 hd (by intro z; cases z))).trans k3, (upd_ne (ne_of k4 hd (by intro z; cases z))).trans k4⟩
theorem MInv.perm {nodes : List Str} {es : List Ev} {ps qs : List Pend} (M : MInv nodes es ps) (h : ps.Perm qs) : MInv nodes es qs :=
  ⟨M.ok, (h.map _).nodup_iff.mp M.nd, fun p hp => M.good p (h.symm.subset hp)⟩
theorem MInv.pop {nodes : List Str} {es : List Ev} {ps : List Pend} {p : Pend} {k : Nat} (M : MInv nodes es ps) (h : ps[k]? = some p) : MInv nodes (es ++ [p.ev]) (ps.eraseIdx k) :=
  (M.perm ((perm_erase h).symm.trans (List.perm_append_comm (l₁ := [p]) (l₂ := ps.eraseIdx k)))).open
/-- the waiting ones of a run that grows -/
structure LR (H0 H : Hp) (sd F C W : Addr) (nodes : List Str) (es : List Ev) (as : List Addr) (pend : List Pend) (ws : List Addr) (kvs : List (Key × V)) : Prop where
  m : MInv nodes es pend
  f : H F = some (.lst (as.map V.ref))
  c : H C = some (.dK kvs)
  w : H W = some (.lst (ws.map V.ref))
  s : SeedAt H sd
  base : But [sd] H0 H
  ea : as.length = es.length
  ev : ∀ (i : Nat) (a : Addr) (e : Ev), as[i]? = some a → es[i]? = some e → EvZ (zz sd F C W) H a e
  wa : ws.length = pend.length
  pv : ∀ (i : Nat) (a : Addr) (p : Pend), ws[i]? = some a → pend[i]? = some p → PvZ (zz sd F C W) H a p.x p.s p.n
  cnt : CntAt kvs (rsOf nodes es).sends
  kl : kvs.length ≤ es.length
  pl : pend.length ≤ 12 * es.length
section
variable {H0 H H' : Hp} {sd F C W : Addr} {nodes : List Str} {es : List Ev} {as : List Addr} {pend : List Pend} {ws : List Addr} {kvs : List (Key × V)}
/-- the heap moves, the four as they were (the seed may differ) -/
theorem LR.move (Q : Four H0 sd F C W) (I : LR H0 H sd F C W nodes es as pend ws kvs) (b : But (zz sd F C W) H H') (hF : H' F = H F) (hC : H' C = H C) (hW : H' W = H W) (hs : SeedAt H' sd) : LR H0 H' sd F C W nodes es as pend ws kvs :=
  ⟨I.m, hF.trans I.f, hC.trans I.c, hW.trans I.w, hs, But.base Q I.base b, I.ea, fun i a e h1 h2 => (I.ev i a e h1 h2).but b, I.wa, fun i a p h1 h2 => (I.pv i a p h1 h2).but b, I.cnt, I.kl, I.pl⟩
theorem LR.new (Q : Four H0 sd F C W) (I : LR H0 H sd F C W nodes es as pend ws kvs) {T : Addr} {o : HO} (h : H T = none) : LR H0 (upd H T o) sd F C W nodes es as pend ws kvs :=
  I.move Q (fun a x _ e => (upd_ne (ne_of_none e h)).trans e) (upd_ne (ne_of_none I.f h)) (upd_ne (ne_of_none I.c h)) (upd_ne (ne_of_none I.w h)) (by
    obtain ⟨x, y, z, h1, h2⟩ := I.s
    exact ⟨x, y, z, (upd_ne (ne_of_none h1 h)).trans h1, h2⟩)
theorem LR.seed (Q : Four H0 sd F C W) (I : LR H0 H sd F C W nodes es as pend ws kvs) (hs : SeedAt H' sd) (h : ∀ b, b ≠ sd → H' b = H b) : LR H0 H' sd F C W nodes es as pend ws kvs :=
  I.move Q (fun a x ha e => (h a fun z => ha (by rw [z]; simp)).trans e) (h _ Q.fs) (h _ Q.cs) (h _ Q.ws) hs
/-- a tracked object that is none of the four -/
theorem LR.apart (Q : Four H0 sd F C W) (I : LR H0 H sd F C W nodes es as pend ws kvs) {T : Addr} (h : H T = none) : T ∉ zz sd F C W := by
  simp only [zz, List.mem_cons, List.not_mem_nil, or_false]
  rintro (z | z | z | z)
  · obtain ⟨x, y, z', h1, h2⟩ := I.s
    rw [z, h1] at h; cases h
  · rw [z, I.f] at h; cases h
  · rw [z, I.c] at h; cases h
  · rw [z, I.w] at h; cases h
/-- a send is counted, appended, its opens wait -/
theorem LR.send {x : Str} {rs : List Str} {a : Addr} {ps : List Addr} (Q : Four H0 sd F C W) (I : LR H0 H sd F C W nodes es as pend ws kvs) (hx : x ∈ nodes) (hr : recvB nodes x rs = true) (hnd : rs.Nodup) (hl : rs.length ≤ 12) (b : But (zz sd F C W) H H')
    (hF : H' F = some (.lst ((as ++ [a]).map V.ref))) (hC : H' C = some (.dK (putK kvs (.inr x) (.int (((rsOf nodes es).sends x).length + 1 : Nat))))) (hW : H' W = some (.lst ((ws ++ ps).map V.ref))) (hs : SeedAt H' sd)
    (ha : EvZ (zz sd F C W) H' a (.snd x rs)) (hp : ps.length = rs.length) (hpe : ∀ (i : Nat) (p : Addr) (r : Str), ps[i]? = some p → rs[i]? = some r → PvZ (zz sd F C W) H' p r x (((rsOf nodes es).sends x).length + 1 : Nat)) :
    LR H0 H' sd F C W nodes (es ++ [.snd x rs]) (as ++ [a]) (pend ++ newPend nodes es x rs) (ws ++ ps) (putK kvs (.inr x) (.int (((rsOf nodes es).sends x).length + 1 : Nat))) := by
  have nl : (newPend nodes es x rs).length = rs.length := List.length_map ..
  refine ⟨I.m.send hx hr hnd, hF, hC, hW, hs, But.base Q I.base b, by simp [I.ea], fun i c e h1 h2 => ?_, by simp [I.wa, nl, hp], fun i c p h1 h2 => ?_, cnt_send I.cnt, ?_, ?_⟩
  · by_cases k : i < es.length
    · rw [List.getElem?_append_left (by rw [I.ea]; exact k)] at h1
      rw [List.getElem?_append_left k] at h2
      exact (I.ev i c e h1 h2).but b
    · rw [List.getElem?_append_right (by rw [I.ea]; omega), I.ea] at h1
      rw [List.getElem?_append_right (by omega)] at h2
      have : i - es.length = 0 := by
        have := (List.getElem?_eq_some_iff.mp h2).1
        simp at this
        omega
      rw [this] at h1 h2
      cases h1
      cases h2
      exact ha
  · by_cases k : i < pend.length
    · rw [List.getElem?_append_left (by rw [I.wa]; exact k)] at h1
      rw [List.getElem?_append_left k] at h2
      exact (I.pv i c p h1 h2).but b
    · rw [List.getElem?_append_right (by rw [I.wa]; omega), I.wa] at h1
      rw [List.getElem?_append_right (by omega)] at h2
      unfold newPend at h2
      rw [List.getElem?_map] at h2
      obtain ⟨r, hr1, rfl⟩ := Option.map_eq_some_iff.mp h2
      exact hpe _ c r h1 hr1
  · have := length_putK kvs (.inr x) (.int (((rsOf nodes es).sends x).length + 1 : Nat))
    have := I.kl
    rw [List.length_append]
    show _ ≤ es.length + 1
    omega
  · have := I.pl
    simp [nl]
    omega
theorem LR.pop {t : Addr} {k : Nat} {p : Pend} (Q : Four H0 sd F C W) (I : LR H0 H sd F C W nodes es as pend ws kvs) (hp : pend[k]? = some p) (b : But (zz sd F C W) H H')
    (hF : H' F = some (.lst ((as ++ [t]).map V.ref))) (hC : H' C = some (.dK kvs)) (hW : H' W = some (.lst ((ws.eraseIdx k).map V.ref))) (hs : SeedAt H' sd) (ht : EvZ (zz sd F C W) H' t p.ev) :
    LR H0 H' sd F C W nodes (es ++ [p.ev]) (as ++ [t]) (pend.eraseIdx k) (ws.eraseIdx k) kvs := by
  have hk := (List.getElem?_eq_some_iff.mp hp).1
  refine ⟨I.m.pop hp, hF, hC, hW, hs, But.base Q I.base b, by simp [I.ea], fun i c e h1 h2 => ?_, ?_, fun i c q h1 h2 => ?_, ?_, ?_, ?_⟩
  · by_cases k : i < es.length
    · rw [List.getElem?_append_left (by rw [I.ea]; exact k)] at h1
      rw [List.getElem?_append_left k] at h2
      exact (I.ev i c e h1 h2).but b
    · rw [List.getElem?_append_right (by rw [I.ea]; omega), I.ea] at h1
      rw [List.getElem?_append_right (by omega)] at h2
      have : i - es.length = 0 := by
        have := (List.getElem?_eq_some_iff.mp h2).1
        simp at this
        omega
      rw [this] at h1 h2
      cases h1
      cases h2
      exact ht
  · have := I.wa
    rw [List.length_eraseIdx, List.length_eraseIdx, this]
  · rw [List.getElem?_eraseIdx] at h1 h2
    by_cases c : i < k
    · rw [if_pos c] at h1 h2
      exact (I.pv _ _ _ h1 h2).but b
    · rw [if_neg c] at h1 h2
      exact (I.pv _ _ _ h1 h2).but b
  · rw [rsOf_snoc]
    exact I.cnt
  · have := I.kl
    rw [List.length_append]
    show _ ≤ es.length + 1
    omega
  · have := I.pl
    rw [List.length_eraseIdx, List.length_append]
    show _ ≤ 12 * (es.length + 1)
    split <;> omega
end
/-! ### waiting ones as data -/
abbrev wdata (p : Pend) : PyData := .tuple [.str p.x, .tuple [.str p.s, .int p.n]]
theorem dp_wait {K : PySem.W.Frag} {H : Hp} {Z : List Addr} : ∀ {ws : List Addr} {pend : List Pend}, ws.length = pend.length → (∀ (i : Nat) (a : Addr) (p : Pend), ws[i]? = some a → pend[i]? = some p → PvZ Z H a p.x p.s p.n) → DpAll K H (ws.map V.ref) (pend.map wdata)
  | [], [], _, _ => .nil
  | a :: ws, p :: pend, hl, h => by
    obtain ⟨m, _, _, h1, h2⟩ := h 0 a p rfl rfl
    refine .cons (.tup (tpI h1) (.cons (.str _) (.cons (.tup (tpI h2) (.cons (.str _) (.cons (.int _) .nil))) .nil))) (dp_wait (by simpa using hl) fun i b q k1 k2 => h (i + 1) b q k1 k2)
theorem lay_wait {nodes : List Str} (hn : NodesOk nodes) : ∀ {pend : List Pend}, (∀ p ∈ pend, p.x ∈ nodes ∧ p.s ∈ nodes) → PyData.canLayAll0 (pend.map wdata) = true
  | [], _ => rfl
  | p :: r, h => by
    have h1 := h p List.mem_cons_self
    show ((PyData.canLay0 (.str p.x) && ((PyData.canLay0 (.str p.s) && (true && true)) && true)) && PyData.canLayAll0 (r.map wdata)) = true
    rw [name_strOk (hn.nm _ h1.1), name_strOk (hn.nm _ h1.2), lay_wait hn fun q hq => h q (List.mem_cons_of_mem _ hq)]
    rfl
theorem depth_wait : ∀ (pend : List Pend), PyData.depthAll (pend.map wdata) ≤ 2
  | [] => Nat.zero_le _
  | p :: r => by
    show max 2 (PyData.depthAll (r.map wdata)) ≤ 2
    have := depth_wait r
    omega
theorem shaped_wait {nodes : List Str} {pend : List Pend} (hn : NodesOk nodes) (h : ∀ p ∈ pend, p.x ∈ nodes ∧ p.s ∈ nodes) : SeqAt.shaped (.list (pend.map wdata)) = true := by
  unfold SeqAt.shaped
  rw [show (PyData.list (pend.map wdata)).canLay0 = PyData.canLayAll0 (pend.map wdata) from rfl, lay_wait hn h, show (PyData.list (pend.map wdata)).depth = PyData.depthAll (pend.map wdata) + 1 from rfl, Bool.true_and, decide_eq_true_eq]
  have := depth_wait pend
  omega
theorem dp_names {K : PySem.W.Frag} {H : Hp} : ∀ {rs : List Str}, DpAll K H (rs.map V.str) (rs.map PyData.str)
  | [] => .nil
  | r :: t => .cons (.str _) dp_names
theorem depth_names : ∀ (rs : List Str), PyData.depthAll (rs.map PyData.str) ≤ 0
  | [] => Nat.zero_le _
  | p :: r => by
    show max 0 (PyData.depthAll (r.map PyData.str)) ≤ 0
    have := depth_names r
    omega
theorem shaped_names {rs : List Str} (h : ∀ r ∈ rs, NameOk r) : SeqAt.shaped (.list (rs.map PyData.str)) = true := by
  unfold SeqAt.shaped
  rw [show (PyData.list (rs.map PyData.str)).canLay0 = PyData.canLayAll0 (rs.map PyData.str) from rfl, names_canLay h, show (PyData.list (rs.map PyData.str)).depth = PyData.depthAll (rs.map PyData.str) + 1 from rfl, Bool.true_and, decide_eq_true_eq]
  have := depth_names rs
  omega
end KA

set_option Elab.async false
set_option linter.all false
set_option maxRecDepth 100000
set_option maxHeartbeats 16000000
namespace KA
open PySem PySem.Spec PyProof.Rows L2 L2.Dx Kx
section
variable {P : Program} {w : World} {K : PySem.W.Frag} {mg : Str → Option Value} {base : Heap}
def sp__law_run : Sp := fun vs H Q _ => ∃ (sd N : Addr) (nodes : List Str) (most : Nat), vs = [.ref sd, .ref N, .int (most : Nat)] ∧ SeedAt H sd ∧ N ≠ sd ∧ H N = some (.lst (nodes.map V.str)) ∧ NodesOk nodes ∧ most ≤ 500 ∧
  ∀ (H' : Hp) (R : Addr) (as : List Addr) (es : List Ev), But [sd] H H' → SeedAt H' sd → H R = none → RunAt H' R as es → es.length ≤ most → RunOk nodes es → R ≠ sd → Q (.ref R) H'
theorem ok__law_run (T : Txt K mg) : FnOk P w K mg base CX0 2 T.f__law_run T.fd__law_run ["seed", "nodes", "most"] sp__law_run := by
  refine T.F__law_run.ok sc__law_run (fun vs H Q E h => ?_) (fun cdv A outer s H vs Q E hr h => ?_)
  · obtain ⟨sd, N, nodes, most, rfl, _⟩ := h
    rfl
  · obtain ⟨sd, N, nodes, most, rfl, hS, hNs, hN, hn, hm, q⟩ := h
    refine ⟨_, (pss_cons (ps_asg (pe_tup (pa_cons (pe_lst pa_nil) (pa_cons pe_dnewK (pa_cons (pe_lst pa_nil) pa_nil)))) (pg_tup rfl (pgs_cons (pg_name (i := 3) sc__law_run.nd rfl (by first | exact .inl rfl | exact .inr rfl)) (pgs_cons (pg_name (i := 4) sc__law_run.nd rfl (by first | exact .inl rfl | exact .inr rfl)) (pgs_cons (pg_name (i := 5) sc__law_run.nd rfl (by first | exact .inl rfl | exact .inr rfl)) pgs_nil)))))
    (pss_cons (ps_set (i := 6) sc__law_run.nd rfl (by first | exact .inl rfl | exact .inr rfl) (pe_call (ok__law_next T) (hr.mono (by decide)) rfl T.M__law_next T.F__law_next.kp (b__law_next T) .nil pass0 (pa_cons (pv 0) (pa_cons pe_int pa_nil))))
    (pss_cons (ps_for PassesOwn.never rfl (pi_range1 (by rfl) T.m_range (pa_cons (pe_call (ok__law_next T) (hr.mono (by decide)) rfl T.M__law_next T.F__law_next.kp (b__law_next T) .nil pass0 (pa_cons (pv 0) (pa_cons (pe_op op_add (pv 2) pe_int) pa_nil))) pa_nil)) (pg_name (i := 7) sc__law_run.nd rfl (by first | exact .inl rfl | exact .inr rfl))
      (pss_one (ps_if (PW.pt (pw_and (pt_cmpR (op_neD hr.units) (pv 5) (pe_lst pa_nil) (nomark _)) (pw_and1 (pt_cmpR op_gt (pe_call (ok__law_next T) (hr.mono (by decide)) rfl T.M__law_next T.F__law_next.kp (b__law_next T) .nil pass0 (pa_cons (pv 0) (pa_cons (pe_op op_add pe_int (pv 6)) pa_nil))) pe_int (nomark _)))))
        (pss_cons (ps_asg (pe_bm PySem.F.plainAttrs_list PySem.F.slot_list_pop PySem.F.type_list_pop mt_popAt (pv 5) (pa_cons (pe_ix ix_list (pe_lst (pa_cons pe_int (pa_cons (pe_call (ok__law_next T) (hr.mono (by decide)) rfl T.M__law_next T.F__law_next.kp (b__law_next T) .nil pass0 (pa_cons (pv 0) (pa_cons (pe_callB call_len_seq (by rfl) T.m_len PySem.boot_len (pa_cons (pv 5) pa_nil)) pa_nil))) pa_nil))) (pe_call (ok__law_next T) (hr.mono (by decide)) rfl T.M__law_next T.F__law_next.kp (b__law_next T) .nil pass0 (pa_cons (pv 0) (pa_cons pe_int pa_nil))) (fun _ _ => rfl)) pa_nil)) (pg_tup rfl (pgs_cons (pg_name (i := 8) sc__law_run.nd rfl (by first | exact .inl rfl | exact .inr rfl)) (pgs_cons (pg_name (i := 9) sc__law_run.nd rfl (by first | exact .inl rfl | exact .inr rfl)) pgs_nil))))
        (pss_one (ps_expr (pe_bm PySem.F.plainAttrs_list PySem.F.slot_list_append PySem.F.type_list_append mt_append (pv 3) (pa_cons (pe_tup (pa_cons pe_str (pa_cons (pv 8) (pa_cons (pv 9) pa_nil)))) pa_nil)))))
        (pss_cons (ps_set (i := 8) sc__law_run.nd rfl (by first | exact .inl rfl | exact .inr rfl) (pe_ix ix_list (pv 1) (pe_call (ok__law_next T) (hr.mono (by decide)) rfl T.M__law_next T.F__law_next.kp (b__law_next T) .nil pass0 (pa_cons (pv 0) (pa_cons (pe_callB call_len_seq (by rfl) T.m_len PySem.boot_len (pa_cons (pv 1) pa_nil)) pa_nil))) (fun _ _ => rfl)))
        (pss_cons (ps_setLc (i := 10) (own := [("one", 13)]) rfl sc__law_run.nd rfl rfl (sw_true rfl rfl rfl (by decide +kernel)) (pi_list (pv 1)) (blkOk_by (N := ["seed", "nodes", "most", "found", "counts", "waiting", "style", "turn", "node", "message", "others", "some", "receivers", "one"]) (sc := defScope s__law_run) (by decide +kernel)) (fun _ _ _ _ _ => (pg_name (i := 13) sc__law_run.nd rfl (by first | exact .inl rfl | exact .inr rfl))) (fun _ _ _ _ _ => (pts_one (pt_cmpR op_ne (pv 13) (pv 8) (nomark _)))) (fun _ _ _ _ _ => (pv 13)))
        (pss_cons (ps_setLc (i := 11) (own := [("one", 13)]) rfl sc__law_run.nd rfl rfl (sw_true rfl rfl rfl (by decide +kernel)) (pi_list (pv 10)) (blkOk_by (N := ["seed", "nodes", "most", "found", "counts", "waiting", "style", "turn", "node", "message", "others", "some", "receivers", "one"]) (sc := defScope s__law_run) (by decide +kernel)) (fun _ _ _ _ _ => (pg_name (i := 13) sc__law_run.nd rfl (by first | exact .inl rfl | exact .inr rfl))) (fun _ _ _ _ _ => (pts_one (pt_cmpR op_eq (pe_call (ok__law_next T) (hr.mono (by decide)) (by rfl) T.M__law_next T.F__law_next.kp (b__law_next T) .nil pass0 (pa_cons (pv 0) (pa_cons pe_int pa_nil))) pe_int (nomark _)))) (fun _ _ _ _ _ => (pv 13)))
        (pss_cons (ps_set (i := 12) sc__law_run.nd rfl (by first | exact .inl rfl | exact .inr rfl) (pe_ix ix_list (pe_lst (pa_cons (pe_lst (pa_cons (pe_ix ix_list (pv 10) (pe_call (ok__law_next T) (hr.mono (by decide)) rfl T.M__law_next T.F__law_next.kp (b__law_next T) .nil pass0 (pa_cons (pv 0) (pa_cons (pe_callB call_len_seq (by rfl) T.m_len PySem.boot_len (pa_cons (pv 10) pa_nil)) pa_nil))) (fun _ _ => rfl)) pa_nil)) (pa_cons (pv 11) (pa_cons (pv 10) pa_nil)))) (pe_call (ok__law_next T) (hr.mono (by decide)) rfl T.M__law_next T.F__law_next.kp (b__law_next T) .nil pass0 (pa_cons (pv 0) (pa_cons pe_int pa_nil))) (fun _ _ => rfl)))
        (pss_cons (ps_set (i := 12) sc__law_run.nd rfl (by first | exact .inl rfl | exact .inr rfl) (pe_ifExp (pt_cmpR (op_neD hr.units) (pv 12) (pe_lst pa_nil) (nomark _)) (pv 12) (pe_slice sl_list (pv 10) po_none (po_some pe_int))))
        (pss_cons (ps_dput (hu_of hr) (pv 4) (pv 8) (pe_op op_add (pe_dget2 (hu_of hr) (pv 4) (pv 8) pe_int ⟨rfl, rfl, rfl, rfl⟩) pe_int) rfl)
        (pss_cons (ps_expr (pe_bm PySem.F.plainAttrs_list PySem.F.slot_list_append PySem.F.type_list_append mt_append (pv 3) (pa_cons (pe_tup (pa_cons pe_str (pa_cons (pv 8) (pa_cons (pe_callTy call_list_of (by rfl) T.m_list (by decide +kernel) (pa_cons (pv 12) pa_nil)) pa_nil)))) pa_nil)))
        (pss_one (ps_expr (pe_bm PySem.F.plainAttrs_list PySem.F.slot_list_extend PySem.F.type_list_extend mt_extend (pv 5) (pa_cons (pe_lc (own := [("one", 13)]) rfl sc__law_run.nd (pi_list (pv 12)) (blkOk_by (N := ["seed", "nodes", "most", "found", "counts", "waiting", "style", "turn", "node", "message", "others", "some", "receivers", "one"]) (sc := defScope s__law_run) (by decide +kernel)) (fun _ _ _ _ _ => (pg_name (i := 13) sc__law_run.nd rfl (by first | exact .inl rfl | exact .inr rfl))) (fun _ _ _ _ _ => pts_nil) (fun _ _ _ _ _ => (pe_tup (pa_cons (pv 13) (pa_cons (pe_tup (pa_cons (pv 8) (pa_cons (pe_dget (hu_of hr) (pv 4) (pv 8) (fun _ _ => rfl)) pa_nil))) pa_nil))))) pa_nil))))))))))))))
    (pss_one (ps_ret (pv 3)))))), ?_⟩
    have n12 := hn.hi
    have n2 := hn.lo
    -- found, counts, waiting
    refine ⟨Nat.zero_le _, fun F hF => fun C hC => ⟨Nat.zero_le _, fun W hW => ⟨by show 3 ≤ sizeLine; decide, fun Tp hT => ⟨Tp, _, rfl, tpI upd_same, rfl, _, _, rfl, _, _, rfl, _, _, rfl, rfl, ?_⟩⟩⟩⟩
    have nFC : F ≠ C := ne_of_none upd_same hC
    have nFW : F ≠ W := ne_of_none ((upd_ne nFC).trans upd_same) hW
    have nCW : C ≠ W := ne_of_none upd_same hW
    have s1 : Same H (upd H F (.lst [])) := same_new hF
    have s2 : Same H (upd (upd H F (.lst [])) C (.dK [])) := s1.trans (same_new hC)
    have s3 : Same H (upd (upd (upd H F (.lst [])) C (.dK [])) W (.lst [])) := s2.trans (same_new hW)
    have hsd : ∀ {a : Addr}, H a = none → a ≠ sd := fun {a} h z => by
      obtain ⟨x, y, z', h1, _⟩ := hS
      rw [z, h1] at h
      cases h
    have QQ : Four H sd F C W := ⟨hF, s1.free hC, s2.free hW, hsd hF, hsd (s1.free hC), hsd (s2.free hW), nFC, nFW, nCW⟩
    have hNk : ∀ {H' : Hp}, But [sd] H H' → H' N = some (.lst (nodes.map V.str)) := fun b => b _ _ (by simpa using hNs) hN
    have I0 : LR H (upd (upd (upd (upd H F (.lst [])) C (.dK [])) W (.lst [])) Tp (.tup [.ref F, .ref C, .ref W])) sd F C W nodes [] [] [] [] [] := by
      have t1 := same_new (o := .tup [.ref F, .ref C, .ref W]) hT
      refine ⟨⟨fun i hi => absurd hi (Nat.not_lt_zero _), List.nodup_nil, fun p hp => by cases hp⟩, ?_, ?_, ?_, ?_, But.same (s3.trans t1), rfl, fun i a e h1 => by simp at h1, rfl, fun i a p h1 => by simp at h1, fun x => rfl, Nat.le_refl _, Nat.le_refl _⟩
      · exact t1 _ _ ((upd_ne nFW).trans ((upd_ne nFC).trans upd_same))
      · exact t1 _ _ ((upd_ne nCW).trans upd_same)
      · exact t1 _ _ upd_same
      · obtain ⟨x, y, z, h1, h2⟩ := hS
        exact ⟨x, y, z, t1 _ _ (s3 _ _ h1), h2⟩
    generalize upd (upd (upd (upd H F (.lst [])) C (.dK [])) W (.lst [])) Tp (.tup [.ref F, .ref C, .ref W]) = H1 at I0 ⊢
    clear hT s1 s2 s3 hF hC hW
    -- style
    refine ⟨.ref sd, rfl, sd, 3, rfl, I0.s, by decide, by decide, fun H2 r6 hs2 hb2 h60 h61 => ?_⟩
    have I2 := I0.seed QQ hs2 hb2
    clear I0 hs2 hb2
    refine ⟨.ref sd, rfl, .int (most : Nat), rfl, most, 1, rfl, rfl, sd, _, rfl, I2.s, by omega, by omega, fun H3 r3 hs3 hb3 h30 h31 => ⟨r3, rfl, by omega, by omega, for_range (fun i σ H' => ∃ es as pend ws kvs y7 y8 y9 y10 y11 y12 y13, es.length ≤ i ∧ LR H H' sd F C W nodes es as pend ws kvs ∧ σ = [some (.ref sd), some (.ref N), some (.int (most : Nat)), some (.ref F), some (.ref C), some (.ref W), some (.int r6), y7, y8, y9, y10, y11, y12, y13]) ?_ ?_ ?_⟩⟩
    · exact ⟨[], [], [], [], [], none, none, none, none, none, none, none, Nat.le_refl _, I2.seed QQ hs3 hb3, rfl⟩
    · clear I2 hs3 hb3
      rintro i σ H4 hi ⟨es, as, pend, ws, kvs, y7, y8, y9, y10, y11, y12, y13, hle, I4, rfl⟩
      have hem : es.length < most := by omega
      have hal : (as.map V.ref).length = es.length := by rw [List.length_map, I4.ea]
      refine ⟨.ref W, rfl, Nat.zero_le _, fun E hE => ?_⟩
      have J := I4.new QQ (o := .lst []) hE
      have hE2 : (upd H4 E (.lst [])) E = some (.lst []) := upd_same
      generalize upd H4 E (.lst []) = H5 at J hE2 ⊢
      refine ⟨.list (pend.map wdata), .list [], .lst (ltI J.w) (dp_wait J.wa J.pv), .lst (ltI hE2) .nil, shaped_wait hn (pend_in J.m), rfl, _, rfl, ?_⟩
      have zsd : ∀ {a : Addr}, a ∉ zz sd F C W → a ≠ sd := fun {a} h z => h (by rw [z]; simp)
      by_cases c0 : pend = []
      case' pos =>
        rw [show PyData.eqv (.list (pend.map wdata)) (.list []) = true by rw [c0]; rfl]
        refine iteF (iteF ?_)
        have I6 := J
        clear J I4
      case' neg =>
        rw [show PyData.eqv (.list (pend.map wdata)) (.list []) = false by
            cases pend with
            | nil => exact absurd rfl c0
            | cons _ _ => rfl]
        refine iteT ⟨.ref sd, rfl, .int r6, rfl, 2, r6, rfl, rfl, sd, _, rfl, J.s, by omega, by omega, fun H6 r h0 hb h1 h2 => ⟨_, 0, rfl, rfl, _, rfl, ite2 (fun _ => ?op) (fun _ => ?sn)⟩⟩
        case' op =>
          have I6 := J.seed QQ h0 hb
          clear J I4 h0 hb
          have hpl := I6.pl
          have hwl : (ws.map V.ref).length = pend.length := by rw [List.length_map, I6.wa]
          have hp0 : 0 < pend.length := List.length_pos_iff.mpr c0
          refine ⟨.ref W, rfl, .inl ⟨rfl, _, .inl (.inl I6.w)⟩, .ref sd, rfl, .ref W, rfl, W, _, rfl, .inl (ltI I6.w), sd, _, rfl, I6.s, by omega, by omega, fun H7 r7 hs7 hb7 h70 h71 => ⟨by show 2 ≤ sizeLine; decide, fun L hL => ?_⟩⟩
          have I7 := I6.seed QQ hs7 hb7
          have LZ := I7.apart QQ hL
          have I8 := I7.new QQ (o := .lst [.int 0, .int r7]) hL
          have hL8 : (upd H7 L (.lst [.int 0, .int r7])) L = some (.lst [.int 0, .int r7]) := upd_same
          generalize upd H7 L (.lst [.int 0, .int r7]) = H8 at I8 hL8 ⊢
          clear I6 I7 hs7 hb7 hL
          refine ⟨.ref sd, rfl, sd, 2, rfl, I8.s, by decide, by decide, fun H9 r9 hs9 hb9 h90 h91 => ?_⟩
          have I9 := I8.seed QQ hs9 hb9
          have hL9 := (hb9 L (zsd LZ)).trans hL8
          clear I8 hs9 hb9 hL8
          obtain ⟨k, hk, hat⟩ : ∃ k : Nat, k < pend.length ∧ atI [V.int 0, V.int r7] r9 = some (.int (k : Nat)) := by
            have : r9 = 0 ∨ r9 = 1 := by omega
            rcases this with e | e
            · exact ⟨0, hp0, by rw [e]; rfl⟩
            · exact ⟨r7.toNat, by omega, by rw [e, show ((r7.toNat : Nat) : Int) = r7 by omega]; rfl⟩
          obtain ⟨p, hp⟩ : ∃ p, pend[k]? = some p := ⟨_, List.getElem?_eq_getElem hk⟩
          obtain ⟨a, ha⟩ : ∃ a, ws[k]? = some a := ⟨_, List.getElem?_eq_getElem (by rw [I9.wa]; exact hk)⟩
          refine ⟨L, _, r9, _, rfl, rfl, ltI hL9, hat, W, _, _, k, .ref a, rfl, rfl, I9.w, by omega, by omega, by rw [hwl]; exact seqIx_nat hk, by rw [List.getElem?_map, ha]; rfl, ?_⟩
          rw [map_erase]
          obtain ⟨m, z1, z2, z3, z4⟩ := I9.pv k a p ha hp
          have bW : But (zz sd F C W) H9 (upd H9 W (.lst ((ws.eraseIdx k).map V.ref))) := But.put (by simp [zz])
          have hF1 : (upd H9 W (.lst ((ws.eraseIdx k).map V.ref))) F = some (.lst (as.map V.ref)) := (upd_ne QQ.fw).trans I9.f
          have hC1 : (upd H9 W (.lst ((ws.eraseIdx k).map V.ref))) C = some (.dK kvs) := (upd_ne QQ.cw).trans I9.c
          have hW1 : (upd H9 W (.lst ((ws.eraseIdx k).map V.ref))) W = some (.lst ((ws.eraseIdx k).map V.ref)) := upd_same
          have hs1 : SeedAt (upd H9 W (.lst ((ws.eraseIdx k).map V.ref))) sd := by
            obtain ⟨x, y, z, h1, h2⟩ := I9.s
            exact ⟨x, y, z, (upd_ne (Ne.symm QQ.ws)).trans h1, h2⟩
          generalize upd H9 W (.lst ((ws.eraseIdx k).map V.ref)) = H10 at bW hF1 hC1 hW1 hs1 ⊢
          refine ⟨a, _, rfl, tpI (bW _ _ z1 z3), rfl, _, _, rfl, _, _, rfl, rfl, ?_⟩
          refine ⟨.ref F, rfl, .inl ⟨rfl, _, .inl (.inl hF1)⟩, .str p.x, rfl, .ref m, rfl, by show 3 ≤ sizeLine; decide, fun t ht => ?_⟩
          have tZ : t ∉ zz sd F C W := by
            simp only [zz, List.mem_cons, List.not_mem_nil, or_false]
            rintro (z | z | z | z)
            · obtain ⟨x, y, z', h1, h2⟩ := hs1
              rw [z, h1] at ht; cases ht
            · rw [z, hF1] at ht; cases ht
            · rw [z, hC1] at ht; cases ht
            · rw [z, hW1] at ht; cases ht
          have sT : Same H10 (upd H10 t (.tup [.str "open", .str p.x, .ref m])) := same_new ht
          refine ⟨F, _, _, rfl, rfl, sT _ _ hF1, small1000 (by rw [hal]; omega), ?_⟩
          have bF : But (zz sd F C W) (upd H10 t (.tup [.str "open", .str p.x, .ref m])) (upd (upd H10 t (.tup [.str "open", .str p.x, .ref m])) F (.lst (as.map V.ref ++ [.ref t]))) := But.put (by simp [zz])
          have I11 := I9.pop (t := t) QQ hp ((bW.trans (But.same sT)).trans bF) (by rw [upd_same, List.map_append]; rfl) ((upd_ne (Ne.symm QQ.fc)).trans (sT _ _ hC1)) ((upd_ne (Ne.symm QQ.fw)).trans (sT _ _ hW1)) (by
              obtain ⟨x, y, z, h1, h2⟩ := hs1
              exact ⟨x, y, z, (upd_ne (Ne.symm QQ.fs)).trans (sT _ _ h1), h2⟩) ⟨m, tZ, z2, bF _ _ tZ upd_same, bF _ _ z2 (sT _ _ (bW _ _ z2 z4))⟩
          exact ⟨_, _, _, _, _, _, _, _, _, _, _, _, by simp; omega, I11, rfl⟩
        case' sn =>
          have I6 := J.seed QQ h0 hb
          clear J I4
      all_goals
        have hN6 := hNk I6.base
        refine ⟨.ref N, rfl, .ref sd, rfl, .ref N, rfl, N, _, rfl, .inl (ltI hN6), sd, _, rfl, I6.s, by rw [List.length_map]; omega, by rw [List.length_map]; omega, fun H7 r hs7 hb7 hr0 hr1 => ?_⟩
        rw [List.length_map] at hr1
        have I7 := I6.seed QQ hs7 hb7
        clear I6 hs7 hb7 hN6
        have hN7 := hNk I7.base
        obtain ⟨nr, hnr⟩ : ∃ nr : Nat, r = (nr : Int) := ⟨r.toNat, by omega⟩
        subst hnr
        have hnl : nr < nodes.length := by omega
        obtain ⟨x, hx⟩ : ∃ x, nodes[nr]? = some x := ⟨_, List.getElem?_eq_getElem hnl⟩
        have hxn := List.mem_of_getElem? hx
        refine ⟨N, _, _, .str x, rfl, rfl, ltI hN7, atI_nat (by rw [List.getElem?_map, hx]; rfl), ?_⟩
        -- others
        refine ⟨.ref N, rfl, N, rfl, ⟨_, ltI hN7⟩, fun D hD => lc_others (x := x) (show 13 < 14 by decide) (by decide) rfl hN7 (by omega) hD fun H8 hb8 hD8 => ?_⟩
        have I8 : LR H H8 sd F C W nodes es as pend ws kvs := by
          refine I7.move QQ (fun a v ha e => (hb8 a (ne_of_none e hD)).trans e) (hb8 _ (ne_of_none I7.f hD)) (hb8 _ (ne_of_none I7.c hD)) (hb8 _ (ne_of_none I7.w hD)) ?_
          obtain ⟨a, b, c, h1, h2⟩ := I7.s
          exact ⟨a, b, c, (hb8 _ (ne_of_none h1 hD)).trans h1, h2⟩
        have DZ : D ∉ zz sd F C W := I7.apart QQ hD
        clear hb8 I7 hD
        generalize hos : (nodes.filter fun y => decide (y ≠ x)) = os at hD8
        have hosne : os ≠ [] := by rw [← hos]; exact others_ne hn
        have hossub : os.Sublist nodes := by rw [← hos]; exact List.filter_sublist
        have hosx : ∀ r ∈ os, r ≠ x := fun r hr => by
          rw [← hos, List.mem_filter] at hr
          simpa using hr.2
        have hosl : os.length ≤ 12 := Nat.le_trans hossub.length_le n12
        have hos0 : 0 < os.length := List.length_pos_iff.mpr hosne
        have Dsd := zsd DZ
        -- some
        refine ⟨.ref D, rfl, D, rfl, ⟨_, ltI hD8⟩, fun D1 hD1 => lc_list (xs := os.map V.str) (fun i H' => SeedAt H' sd ∧ (∀ b, b ≠ sd → b ≠ D1 → H' b = H8 b) ∧ ∃ sm : List Str, H' D1 = some (.lst (sm.map V.str)) ∧ sm.Sublist (os.take i)) ?_ ?_ ?_ ?_⟩
        · refine ⟨?_, fun b _ hb => upd_ne hb, [], upd_same, List.nil_sublist _⟩
          obtain ⟨a, b, c, h1, h2⟩ := I8.s
          exact ⟨a, b, c, (upd_ne (ne_of_none h1 hD1)).trans h1, h2⟩
        · exact fun i H' _ hI => ltI ((hI.2.1 D Dsd (ne_of_none hD8 hD1)).trans hD8)
        · rintro i v H' hv ⟨S, hb, sm, hsm, hsub⟩
          rw [List.getElem?_map] at hv
          obtain ⟨o, ho, rfl⟩ := Option.map_eq_some_iff.mp hv
          have D1sd : D1 ≠ sd := zsd (I8.apart QQ hD1)
          refine ⟨by simp [wipe, List.set_set], .ref sd, rfl, sd, 2, rfl, S, by decide, by decide, fun H9 r9 S9 hb9 _ _ => ⟨rfl, _, rfl, ite2 (fun _ => ?_) (fun _ => ?_)⟩⟩
          · refine ⟨.str o, rfl, sm.map V.str, (hb9 D1 D1sd).trans hsm, small1000 (by
              rw [List.length_map]
              have := hsub.length_le
              rw [List.length_take] at this
              omega), ?_, fun b h1 h2 => (upd_ne h2).trans ((hb9 b h1).trans (hb b h1 h2)), sm ++ [o], by rw [upd_same, List.map_append]; rfl, ?_⟩
            · obtain ⟨a, b, c, h1, h2⟩ := S9
              exact ⟨a, b, c, (upd_ne (Ne.symm D1sd)).trans h1, h2⟩
            · rw [take_snoc ho]
              exact hsub.append (List.Sublist.refl _)
          · refine ⟨S9, fun b h1 h2 => (hb9 b h1).trans (hb b h1 h2), sm, (hb9 D1 D1sd).trans hsm, ?_⟩
            rw [take_snoc ho]
            exact hsub.trans (List.sublist_append_left _ _)
        rintro H9 ⟨S9, hb9, sm, hsm, hsub⟩
        rw [List.length_map, List.take_length] at hsub
        have D1Z := I8.apart QQ hD1
        have I9 : LR H H9 sd F C W nodes es as pend ws kvs := by
          refine I8.move QQ (fun a v ha e => (hb9 a (fun z => ha (by rw [z]; simp)) (ne_of_none e hD1)).trans e) (hb9 _ QQ.fs (ne_of_none I8.f hD1)) (hb9 _ QQ.cs (ne_of_none I8.c hD1)) (hb9 _ QQ.ws (ne_of_none I8.w hD1)) S9
        have hD9 := (hb9 D Dsd (ne_of_none hD8 hD1)).trans hD8
        clear hb9 I8 hD8 hD1 S9
        -- receivers
        refine ⟨.ref D, rfl, .ref sd, rfl, .ref D, rfl, D, _, rfl, .inl (ltI hD9), sd, _, rfl, I9.s, by rw [List.length_map]; omega, by rw [List.length_map]; omega, fun H10 r10 hs10 hb10 h100 h101 => ?_⟩
        rw [List.length_map] at h101
        have I10 := I9.seed QQ hs10 hb10
        have hD10 := (hb10 D Dsd).trans hD9
        have hE10 := (hb10 D1 (zsd D1Z)).trans hsm
        clear I9 hs10 hb10 hD9 hsm
        obtain ⟨o, ho⟩ : ∃ o, os[r10.toNat]? = some o := ⟨_, List.getElem?_eq_getElem (by omega)⟩
        refine ⟨D, _, r10, .str o, rfl, rfl, ltI hD10, by rw [show r10 = ((r10.toNat : Nat) : Int) by omega]; exact atI_nat (by rw [List.getElem?_map, ho]; rfl), by show 1 ≤ sizeLine; decide, fun D2 hD2 => ?_⟩
        have I11 := I10.new QQ (o := .lst [.str o]) hD2
        have D2Z := I10.apart QQ hD2
        have hD11 : (upd H10 D2 (.lst [.str o])) D = some (.lst (os.map V.str)) := (upd_ne (ne_of_none hD10 hD2)).trans hD10
        have hE11 : (upd H10 D2 (.lst [.str o])) D1 = some (.lst (sm.map V.str)) := (upd_ne (ne_of_none hE10 hD2)).trans hE10
        have hG11 : (upd H10 D2 (.lst [.str o])) D2 = some (.lst [.str o]) := upd_same
        generalize upd H10 D2 (.lst [.str o]) = H11 at I11 hD11 hE11 hG11 ⊢
        clear I10 hD10 hE10 hD2
        refine ⟨.ref D1, rfl, .ref D, rfl, by show 3 ≤ sizeLine; decide, fun L hL => ?_⟩
        have I12 := I11.new QQ (o := .lst [.ref D2, .ref D1, .ref D]) hL
        have LZ := I11.apart QQ hL
        have hD12 : (upd H11 L (.lst [.ref D2, .ref D1, .ref D])) D = some (.lst (os.map V.str)) := (upd_ne (ne_of_none hD11 hL)).trans hD11
        have hE12 : (upd H11 L (.lst [.ref D2, .ref D1, .ref D])) D1 = some (.lst (sm.map V.str)) := (upd_ne (ne_of_none hE11 hL)).trans hE11
        have hG12 : (upd H11 L (.lst [.ref D2, .ref D1, .ref D])) D2 = some (.lst [.str o]) := (upd_ne (ne_of_none hG11 hL)).trans hG11
        have hL12 : (upd H11 L (.lst [.ref D2, .ref D1, .ref D])) L = some (.lst [.ref D2, .ref D1, .ref D]) := upd_same
        generalize upd H11 L (.lst [.ref D2, .ref D1, .ref D]) = H12 at I12 hD12 hE12 hG12 hL12 ⊢
        clear I11 hD11 hE11 hG11 hL
        refine ⟨.ref sd, rfl, sd, 3, rfl, I12.s, by decide, by decide, fun H13 r13 hs13 hb13 h130 h131 => ?_⟩
        have I13 := I12.seed QQ hs13 hb13
        have hL13 := (hb13 L (zsd LZ)).trans hL12
        have hD13 := (hb13 D (zsd DZ)).trans hD12
        obtain ⟨l, rs, hl13, lZ, rsub0, hat⟩ : ∃ (l : Addr) (rs : List Str), H13 l = some (.lst (rs.map V.str)) ∧ l ∉ zz sd F C W ∧ rs.Sublist os ∧ atI [V.ref D2, .ref D1, .ref D] r13 = some (.ref l) := by
          have : r13 = 0 ∨ r13 = 1 ∨ r13 = 2 := by omega
          rcases this with e | e | e
          · exact ⟨D2, [o], (hb13 D2 (zsd D2Z)).trans hG12, D2Z, List.singleton_sublist.mpr (List.mem_of_getElem? ho), by rw [e]; rfl⟩
          · exact ⟨D1, sm, (hb13 D1 (zsd D1Z)).trans hE12, D1Z, hsub, by rw [e]; rfl⟩
          · exact ⟨D, os, hD13, DZ, List.Sublist.refl _, by rw [e]; rfl⟩
        refine ⟨L, _, r13, .ref l, rfl, rfl, ltI hL13, hat, ?_⟩
        clear I12 hs13 hb13 hD12 hE12 hG12 hL12 hL13 hat hsub
        -- no empty list
        refine ⟨.ref l, rfl, Nat.zero_le _, fun E hE => ?_⟩
        have I14 := I13.new QQ (o := .lst []) hE
        have hl14 : (upd H13 E (.lst [])) l = some (.lst (rs.map V.str)) := (upd_ne (ne_of_none hl13 hE)).trans hl13
        have hD14 : (upd H13 E (.lst [])) D = some (.lst (os.map V.str)) := (upd_ne (ne_of_none hD13 hE)).trans hD13
        have hE14 : (upd H13 E (.lst [])) E = some (.lst []) := upd_same
        generalize upd H13 E (.lst []) = H14 at I14 hl14 hD14 hE14 ⊢
        clear I13 hl13 hD13 hE
        have hname : ∀ r ∈ os, NameOk r := fun r hr => hn.nm r (hossub.subset hr)
        refine ⟨.list (rs.map PyData.str), .list [], .lst (ltI hl14) dp_names, .lst (ltI hE14) .nil, shaped_names (fun r hr => hname r (rsub0.subset hr)), rfl, _, rfl, ?_⟩
        by_cases c1 : rs = []
        case' pos =>
          rw [show PyData.eqv (.list (rs.map PyData.str)) (.list []) = true by rw [c1]; rfl]
          refine iteF ⟨.ref D, rfl, 1, rfl, D, _, rfl, ltI hD14, fun D3 hD3 => ?_⟩
          clear lZ hl14 rsub0
          have I15 := I14.new QQ (o := .lst (cutV (os.map V.str) none (some 1))) hD3
          have lZ := I14.apart QQ hD3
          have hl8 : (upd H14 D3 (.lst (cutV (os.map V.str) none (some 1)))) D3 = some (.lst ((os.take 1).map V.str)) := by rw [upd_same, cut_take1, List.map_take]
          generalize upd H14 D3 (.lst (cutV (os.map V.str) none (some 1))) = H15 at I15 hl8 ⊢
          have rsub : (os.take 1).Sublist os := List.take_sublist _ _
          have rne : os.take 1 ≠ [] := by
            intro z
            have : (os.take 1).length = 0 := by rw [z]; rfl
            rw [List.length_take] at this
            omega
          clear c1
          generalize os.take 1 = rs1 at hl8 rsub rne
          obtain ⟨lq, eq1⟩ : ∃ lq, lq = D3 := ⟨_, rfl⟩
          obtain ⟨rq, eq2⟩ : ∃ rq, rq = rs1 := ⟨_, rfl⟩
          rw [← eq1] at hl8 lZ ⊢
          rw [← eq2] at hl8 rsub rne
          clear eq1 eq2
        case' neg =>
          rw [show PyData.eqv (.list (rs.map PyData.str)) (.list []) = false by
            cases rs with
            | nil => exact absurd rfl c1
            | cons _ _ => rfl]
          refine iteT ⟨.ref l, rfl, ?_⟩
          have I15 := I14
          have hl8 := hl14
          have rsub := rsub0
          have rne := c1
          clear hl14 rsub0 c1
          obtain ⟨lq, eq1⟩ : ∃ lq, lq = l := ⟨_, rfl⟩
          obtain ⟨rq, eq2⟩ : ∃ rq, rq = rs := ⟨_, rfl⟩
          rw [← eq1] at hl8 lZ ⊢
          rw [← eq2] at hl8 rsub rne
          clear eq1 eq2 hD14 hE14 I14
          obtain ⟨H15, eq3⟩ : ∃ Hx, Hx = H14 := ⟨_, rfl⟩
          rw [← eq3] at I15 hl8 ⊢
          clear eq3
        all_goals
          have rsx : ∀ r ∈ rq, r ≠ x := fun r hr => hosx r (rsub.subset hr)
          have hrb : recvB nodes x rq = true := recvB_sub hn (rsub.trans hossub) rne rsx
          have rnd : rq.Nodup := hn.nodup.sublist (rsub.trans hossub)
          have rl : rq.length ≤ 12 := Nat.le_trans rsub.length_le hosl
          -- counts
          have hcnt : (valV kvs (.inr x)).getD (.int 0) = .int (((rsOf nodes es).sends x).length : Nat) := by
            rw [I15.cnt x]
            by_cases c : ((rsOf nodes es).sends x).length = 0
            · rw [if_pos c, c]
              rfl
            · rw [if_neg c]
              rfl
          have hkl : kvs.length < sizeLine := small1000 (by have := I15.kl; omega)
          refine ⟨.ref C, rfl, C, rfl, .inl ⟨_, .inl I15.c⟩, .str x, rfl, _, DGet.k (k := Sum.inr x) I15.c, _, 1, hcnt, rfl, .ref C, rfl, .str x, rfl, C, _, rfl, DPut.k (k := Sum.inr x) I15.c hkl, ?_⟩
          have b9 : But (zz sd F C W) H15 (upd H15 C (.dK (putK kvs (Sum.inr x) (.int ((((rsOf nodes es).sends x).length : Nat) + 1))))) := But.put (by simp [zz])
          have F9 : (upd H15 C (.dK (putK kvs (Sum.inr x) (.int ((((rsOf nodes es).sends x).length : Nat) + 1))))) F = some (.lst (as.map V.ref)) := (upd_ne QQ.fc).trans I15.f
          have W9 : (upd H15 C (.dK (putK kvs (Sum.inr x) (.int ((((rsOf nodes es).sends x).length : Nat) + 1))))) W = some (.lst (ws.map V.ref)) := (upd_ne (Ne.symm QQ.cw)).trans I15.w
          have C9 : (upd H15 C (.dK (putK kvs (Sum.inr x) (.int ((((rsOf nodes es).sends x).length : Nat) + 1))))) C = some (.dK (putK kvs (Sum.inr x) (.int ((((rsOf nodes es).sends x).length : Nat) + 1)))) := upd_same
          have S9 : SeedAt (upd H15 C (.dK (putK kvs (Sum.inr x) (.int ((((rsOf nodes es).sends x).length : Nat) + 1))))) sd := by
            obtain ⟨a, b, c, h1, h2⟩ := I15.s
            exact ⟨a, b, c, (upd_ne (Ne.symm QQ.cs)).trans h1, h2⟩
          have ecn : (((rsOf nodes es).sends x).length : Nat) + (1 : Int) = ((((rsOf nodes es).sends x).length + 1 : Nat) : Int) := by omega
          generalize hkv : putK kvs (Sum.inr x) (.int ((((rsOf nodes es).sends x).length : Nat) + 1)) = kv1 at b9 F9 W9 C9 S9 ⊢
          rw [ecn] at hkv
          have hcv : valV kv1 (.inr x) = some (.int ((((rsOf nodes es).sends x).length + 1 : Nat) : Int)) := by rw [← hkv, valV_put, if_pos rfl]
          generalize upd H15 C (.dK kv1) = H9 at b9 F9 W9 C9 S9 ⊢
          have hl9 := b9 _ _ lZ hl8
          -- found
          refine ⟨.ref F, rfl, .inl ⟨rfl, _, .inl (.inl F9)⟩, .str x, rfl, .ref lq, rfl, lq, rq.map V.str, rfl, .inl (ltI hl9), fun l2 hl2 => ⟨by show 3 ≤ sizeLine; decide, fun t ht => ?_⟩⟩
          have nZ : ∀ {H2 : Hp} {a : Addr}, Same H9 H2 → H2 a = none → a ∉ zz sd F C W := fun {H2 a} sm ha => by
            simp only [zz, List.mem_cons, List.not_mem_nil, or_false]
            have hb := sm.free ha
            rintro (z | z | z | z)
            · obtain ⟨x, y, z', h1, h2⟩ := S9
              rw [z, h1] at hb; cases hb
            · rw [z, F9] at hb; cases hb
            · rw [z, C9] at hb; cases hb
            · rw [z, W9] at hb; cases hb
          have sL : Same H9 (upd H9 l2 (.lst (rq.map V.str))) := same_new hl2
          have l2Z := nZ (fun _ _ h => h) hl2
          have tZ := nZ sL ht
          have sT : Same H9 (upd (upd H9 l2 (.lst (rq.map V.str))) t (.tup [.str "send", .str x, .ref l2])) := sL.trans (same_new ht)
          have hl2' : (upd (upd H9 l2 (.lst (rq.map V.str))) t (.tup [.str "send", .str x, .ref l2])) l2 = some (.lst (rq.map V.str)) := same_new ht _ _ upd_same
          have ht' : (upd (upd H9 l2 (.lst (rq.map V.str))) t (.tup [.str "send", .str x, .ref l2])) t = some (.tup [.str "send", .str x, .ref l2]) := upd_same
          refine ⟨F, _, _, rfl, rfl, sT _ _ F9, small1000 (by rw [hal]; omega), ?_⟩
          generalize upd (upd H9 l2 (.lst (rq.map V.str))) t (.tup [.str "send", .str x, .ref l2]) = H10 at sT hl2' ht' ⊢
          have b11 : But (zz sd F C W) H10 (upd H10 F (.lst (as.map V.ref ++ [.ref t]))) := But.put (by simp [zz])
          have t11 := b11 _ _ tZ ht'
          have l11 := b11 _ _ l2Z hl2'
          have lq11 := b11 _ _ lZ (sT _ _ hl9)
          have F11 : (upd H10 F (.lst (as.map V.ref ++ [.ref t]))) F = some (.lst ((as ++ [t]).map V.ref)) := by rw [upd_same, List.map_append]; rfl
          have C11 : (upd H10 F (.lst (as.map V.ref ++ [.ref t]))) C = some (.dK kv1) := (upd_ne (Ne.symm QQ.fc)).trans (sT _ _ C9)
          have W11 : (upd H10 F (.lst (as.map V.ref ++ [.ref t]))) W = some (.lst (ws.map V.ref)) := (upd_ne (Ne.symm QQ.fw)).trans (sT _ _ W9)
          have S11 : SeedAt (upd H10 F (.lst (as.map V.ref ++ [.ref t]))) sd := by
            obtain ⟨a, b, c, h1, h2⟩ := S9
            exact ⟨a, b, c, (upd_ne (Ne.symm QQ.fs)).trans (sT _ _ h1), h2⟩
          have b10 := (b9.trans (But.same sT)).trans b11
          generalize upd H10 F (.lst (as.map V.ref ++ [.ref t])) = H11 at b10 t11 F11 C11 W11 S11 l11 lq11 ⊢
          clear b9 b11 sT hl2' ht' S9 C9 W9 F9 hl9 sL nZ hl2 ht
          -- waiting
          refine ⟨.ref W, rfl, .inl ⟨rfl, _, .inl (.inl W11)⟩, .ref lq, rfl, lq, rfl, ⟨_, ltI lq11⟩, fun D3 hD3 => lc_list (xs := rq.map V.str) (fun i H' => Same H11 H' ∧ ∃ ps : List Addr, H' D3 = some (.lst (ps.map V.ref)) ∧ ps.length = i ∧ ∀ (k : Nat) (p : Addr) (r : Str), ps[k]? = some p → rq[k]? = some r → PvZ (zz sd F C W) H' p r x ((((rsOf nodes es).sends x).length + 1 : Nat) : Int)) ?_ ?_ ?_ ?_⟩
          · exact ⟨same_new hD3, [], upd_same, rfl, fun k p r h1 => by simp at h1⟩
          · exact fun i H' _ hI => ltI (hI.1 _ _ lq11)
          · rintro i v H' hv ⟨sm, ps, hps, hpl, hpe⟩
            rw [List.getElem?_map] at hv
            obtain ⟨r, hr1, rfl⟩ := Option.map_eq_some_iff.mp hv
            refine ⟨by simp [wipe, List.set_set], ?_⟩
            dsimp only [tYes]
            rw [if_pos rfl]
            refine ⟨.str r, rfl, .str x, rfl, .ref C, rfl, .str x, rfl, C, .int ((((rsOf nodes es).sends x).length + 1 : Nat) : Int), rfl, ?_, by show 2 ≤ sizeLine; decide, fun p1 hp1 => ⟨by show 2 ≤ sizeLine; decide, fun p2 hp2 => ?_⟩⟩
            · rw [← hcv]
              exact DGet.k (k := Sum.inr x) (sm _ _ C11)
            have z1 : Same H' (upd H' p1 (.tup [.str x, .int ((((rsOf nodes es).sends x).length + 1 : Nat) : Int)])) := same_new hp1
            have z2 : Same (upd H' p1 (.tup [.str x, .int ((((rsOf nodes es).sends x).length + 1 : Nat) : Int)])) (upd (upd H' p1 (.tup [.str x, .int ((((rsOf nodes es).sends x).length + 1 : Nat) : Int)])) p2 (.tup [.str r, .ref p1])) := same_new hp2
            have nZ : ∀ {H2 : Hp} {a : Addr}, Same H11 H2 → H2 a = none → a ∉ zz sd F C W := fun {H2 a} sm ha => by
              simp only [zz, List.mem_cons, List.not_mem_nil, or_false]
              have hb := sm.free ha
              rintro (z | z | z | z)
              · obtain ⟨x, y, z', h1, h2⟩ := S11
                rw [z, h1] at hb; cases hb
              · rw [z, F11] at hb; cases hb
              · rw [z, C11] at hb; cases hb
              · rw [z, W11] at hb; cases hb
            have p1Z := nZ sm hp1
            have p2Z := nZ (sm.trans z1) hp2
            have hD4 := z2 _ _ (z1 _ _ hps)
            have hv1 := z2 _ _ (upd_same (H := H') (a := p1) (o := .tup [.str x, .int ((((rsOf nodes es).sends x).length + 1 : Nat) : Int)]))
            have hv2 := upd_same (H := upd H' p1 (.tup [.str x, .int ((((rsOf nodes es).sends x).length + 1 : Nat) : Int)])) (a := p2) (o := .tup [.str r, .ref p1])
            have sm2 := (sm.trans z1).trans z2
            refine ⟨ps.map V.ref, hD4, small1000 (by
              rw [List.length_map, hpl]
              have := (List.getElem?_eq_some_iff.mp hr1).1
              omega), same_put sm2 hD3, ps ++ [p2], by rw [upd_same, List.map_append]; rfl, by simp [hpl], fun k p r' h1 h2 => ?_⟩
            by_cases c : k < ps.length
            · rw [List.getElem?_append_left c] at h1
              exact ((hpe k p r' h1 h2).same (z1.trans z2)).put hD4
            · have hk : k = ps.length := by
                have := (List.getElem?_eq_some_iff.mp h1).1
                simp at this
                omega
              rw [hk, List.getElem?_append_right (Nat.le_refl _), Nat.sub_self] at h1
              cases h1
              rw [hk, hpl, hr1] at h2
              cases h2
              exact PvZ.put (a := p2) ⟨p1, p2Z, p1Z, hv2, hv1⟩ hD4
          · rintro H12 ⟨sm, ps, hps, hpl, hpe⟩
            rw [List.length_map] at hpl
            have hwl : (ws.map V.ref).length = pend.length := by rw [List.length_map, I15.wa]
            refine ⟨W, D3, _, _, rfl, rfl, sm _ _ W11, hps, ?_, ?_⟩
            · have h1 := I15.pl
              rw [hwl, List.length_map, hpl]
              exact Nat.le_trans (by omega : _ ≤ 100000) (by decide)
            have bW : But (zz sd F C W) H12 (upd H12 W (.lst (ws.map V.ref ++ ps.map V.ref))) := But.put (by simp [zz])
            have bb : But (zz sd F C W) H15 (upd H12 W (.lst (ws.map V.ref ++ ps.map V.ref))) := (b10.trans (But.same sm)).trans bW
            have I16 := I15.send (a := t) (ps := ps) QQ hxn hrb rnd rl bb ((upd_ne QQ.fw).trans (sm _ _ F11)) ((upd_ne QQ.cw).trans (sm _ _ (hkv ▸ C11))) (by rw [upd_same, List.map_append]) (by
                obtain ⟨a, b, c, h1, h2⟩ := S11
                exact ⟨a, b, c, (upd_ne (Ne.symm QQ.ws)).trans (sm _ _ h1), h2⟩) ⟨l2, tZ, l2Z, bW _ _ tZ (sm _ _ t11), bW _ _ l2Z (sm _ _ l11)⟩ hpl (fun k p r h1 h2 => (hpe k p r h1 h2).but bW)
            exact ⟨_, _, _, _, _, _, _, _, _, _, _, _, by simp; omega, I16, rfl⟩
    · rintro σ H4 ⟨es, as, pend, ws, kvs, y7, y8, y9, y10, y11, y12, y13, hle, I4, rfl⟩
      refine ⟨.ref F, rfl, ?_⟩
      exact q H4 F as es I4.base I4.s QQ.nF ⟨I4.f, I4.ea, fun i a e h1 h2 => (I4.ev i a e h1 h2).at'⟩ (by omega) I4.m.ok QQ.fs
end
end KA

set_option Elab.async false
set_option linter.all false
set_option maxRecDepth 100000
set_option maxHeartbeats 4000000
namespace KA
open PySem PySem.Spec PyProof.Rows L2 L2.Dx Kx
theorem upto_none {nodes : List Str} {es : List Ev} {k : Nat} (h : es[k]? = none) : Rs.upto nodes es (k + 1) = Rs.upto nodes es k := by
  show (match es[k]? with | some e => (Rs.upto nodes es k).next nodes k e | none => Rs.upto nodes es k) = _
  rw [h]
/-! ### sums over the sends -/
def Ev.isSnd : Ev → Bool
  | .snd _ _ => true
  | .opn _ _ _ => false
def sumS (nodes : List Str) (S : Str → List Nat) (f : Nat → Nat) : Nat := (nodes.map fun x => ((S x).map f).sum).sum
def sndSum (es : List Ev) (f : Nat → Nat) : Nat → Nat
  | 0 => 0
  | k + 1 => sndSum es f k + (match es[k]? with
    | some (.snd _ _) => f k
    | _ => 0)
theorem sum_upd {S : Str → List Nat} {x : Str} {k : Nat} {f : Nat → Nat} : ∀ {nodes : List Str}, nodes.Nodup → x ∈ nodes → (nodes.map fun y => ((if y = x then S x ++ [k] else S y).map f).sum).sum = (nodes.map fun y => ((S y).map f).sum).sum + f k
  | y :: r, nd, hx => by
    rw [List.nodup_cons] at nd
    simp only [List.map_cons, List.sum_cons]
    by_cases e : y = x
    · subst e
      have : (r.map fun z => ((if z = y then S y ++ [k] else S z).map f).sum) = r.map fun z => ((S z).map f).sum := List.map_congr_left fun z hz => by
        rw [if_neg fun (e : z = y) => nd.1 (by rw [← e]; exact hz)]
      rw [this, if_pos rfl]
      simp
      omega
    · rw [if_neg e, sum_upd nd.2 ((List.mem_cons.mp hx).resolve_left fun z => e z.symm)]
      omega
theorem sum_zero : ∀ (l : List Str), (l.map fun _ => 0).sum = 0
  | [] => rfl
  | a :: r => by
    show 0 + (r.map fun _ => 0).sum = 0
    rw [sum_zero r]
theorem sum_one : ∀ (l : List Msg), (l.map fun _ => 1).sum = l.length
  | [] => rfl
  | a :: r => by
    show 1 + (r.map fun _ => 1).sum = r.length + 1
    rw [sum_one r, Nat.add_comm]
theorem sumS_eq {nodes : List Str} {es : List Ev} {f : Nat → Nat} (nd : nodes.Nodup) : ∀ {k : Nat}, OkTo nodes es k → sumS nodes (Rs.upto nodes es k).sends f = sndSum es f k
  | 0, _ => by
    show (nodes.map fun _ => 0).sum = 0
    exact sum_zero nodes
  | k + 1, ok => by
    have ih := sumS_eq (nodes := nodes) (es := es) (f := f) nd (k := k) fun j hj => ok j (by omega)
    show _ = sndSum es f k + _
    cases hk : es[k]? with
    | none =>
      rw [upto_none hk, ih]
      rfl
    | some e =>
      rw [upto_succ hk, ← ih]
      cases e with
      | opn x s n => rfl
      | snd x rs =>
        have hx : x ∈ nodes := (ok k (by omega) _ hk).1
        exact sum_upd (S := (Rs.upto nodes es k).sends) (k := k) (f := f) nd hx
theorem all_sum {S : Str → List Nat} {f : Nat → Nat} : ∀ {nodes : List Str}, ((allMsgs nodes S).map fun t => f t.2.2).sum = sumS nodes S f
  | [] => rfl
  | x :: r => by
    have ih := @all_sum S f r
    have h1 : ∀ (l : List Nat) (k : Nat), ((numFrom k l).map fun p => f p.2).sum = (l.map f).sum := fun l => by
      induction l with
      | nil => intro k; rfl
      | cons a t iht =>
        intro k
        show f a + ((numFrom (k + 1) t).map fun p => f p.2).sum = _
        rw [iht (k + 1)]
        rfl
    unfold allMsgs sumS at ih ⊢
    rw [List.flatMap_cons, List.map_append, List.sum_append, ih]
    unfold msgsOf
    rw [List.map_map]
    show ((numFrom 1 (S x)).map fun p => f p.2).sum + _ = _
    rw [h1]
    rfl
theorem all_len {S : Str → List Nat} {nodes : List Str} : (allMsgs nodes S).length = sumS nodes S fun _ => 1 := by
  rw [← all_sum]
  exact (sum_one _).symm
/-! ### what is found at the end -/
theorem sends_pre {nodes : List Str} {es : List Ev} {x : Str} {i : Nat} : ∀ {m : Nat}, ∃ t, (Rs.upto nodes es (i + m)).sends x = (Rs.upto nodes es i).sends x ++ t
  | 0 => ⟨[], by simp⟩
  | m + 1 => by
    obtain ⟨t, ht⟩ := @sends_pre nodes es x i m
    cases hk : es[i + m]? with
    | none => exact ⟨t, by rw [show i + (m + 1) = i + m + 1 from rfl, upto_none hk]; exact ht⟩
    | some e =>
      rw [show i + (m + 1) = i + m + 1 from rfl, upto_succ hk]
      cases e with
      | opn y s n => exact ⟨t, ht⟩
      | snd y rs =>
        show ∃ t, (if x = y then (Rs.upto nodes es (i + m)).sends y ++ [i + m] else (Rs.upto nodes es (i + m)).sends x) = _
        by_cases c : x = y
        · subst c
          rw [if_pos rfl, ht]
          exact ⟨t ++ [i + m], by simp⟩
        · rw [if_neg c]
          exact ⟨t, ht⟩
theorem sent_last {nodes : List Str} {es : List Ev} {x : Str} {rs : List Str} {i : Nat} (ok : RunOk nodes es) (he : es[i]? = some (.snd x rs)) :
    sentAt (rsOf nodes es) nodes x ((((Rs.upto nodes es i).sends x).length + 1 : Nat) : Int) = some i := by
  have hi := (List.getElem?_eq_some_iff.mp he).1
  have hx : x ∈ nodes := (ok i hi _ he).1
  obtain ⟨t, ht⟩ := @sends_pre nodes es x (i + 1) (es.length - (i + 1))
  rw [show i + 1 + (es.length - (i + 1)) = es.length by omega, upto_succ he] at ht
  have ht : (rsOf nodes es).sends x = (if x = x then (Rs.upto nodes es i).sends x ++ [i] else (Rs.upto nodes es i).sends x) ++ t := ht
  rw [if_pos rfl] at ht
  unfold sentAt
  rw [if_pos ⟨hx, by omega⟩, ht, show (((((Rs.upto nodes es i).sends x).length + 1 : Nat) : Int) - 1).toNat = ((Rs.upto nodes es i).sends x).length by omega]
  simp
theorem opens_nd {nodes : List Str} {es : List Ev} {x : Str} : ∀ {k : Nat}, OkTo nodes es k → (((Rs.upto nodes es k).opens x).map (·.1)).Nodup
  | 0, _ => List.nodup_nil
  | k + 1, ok => by
    have ih := @opens_nd nodes es x k fun j hj => ok j (by omega)
    cases hk : es[k]? with
    | none => rw [upto_none hk]; exact ih
    | some e =>
      rw [upto_succ hk]
      cases e with
      | snd y rs => exact ih
      | opn y s n =>
        show ((if x = y then (Rs.upto nodes es k).opens y ++ [((sentAt (Rs.upto nodes es k) nodes s n).getD 0, k)] else (Rs.upto nodes es k).opens x).map (·.1)).Nodup
        by_cases c : x = y
        · subst c
          obtain ⟨j, h1, h2, h3⟩ := ok k (by omega) _ hk
          rw [if_pos rfl, h1, List.map_append, List.nodup_append]
          refine ⟨ih, by simp, fun a ha b hb e => ?_⟩
          obtain ⟨p, hp, rfl⟩ := List.mem_map.mp ha
          rw [List.all_eq_true] at h3
          have := h3 p hp
          simp at hb this
          exact this (e.trans hb)
        · rw [if_neg c]
          exact ih
theorem valV_ops_at {j i : Nat} : ∀ {l : List (Nat × Nat)}, (l.map (·.1)).Nodup → (j, i) ∈ l → valV (ops l) (.inl ((j : Nat) : Int)) = some (.int (i : Nat))
  | p :: r, nd, h => by
    rw [List.map_cons, List.nodup_cons] at nd
    show valV ((Sum.inl ((p.1 : Nat) : Int), V.int (p.2 : Nat)) :: ops r) _ = _
    rcases List.mem_cons.mp h with e | h
    · cases e
      exact valV_pos rfl
    · have : p.1 ≠ j := fun z => nd.1 (by rw [z]; exact List.mem_map.mpr ⟨_, h, rfl⟩)
      rw [valV_neg (fun z => this (Int.ofNat.inj (Sum.inl.inj z)))]
      exact valV_ops_at nd.2 h
theorem cnt_next {nodes : List Str} {es : List Ev} {kvs : List (Key × V)} {i : Nat} {x : Str} {rs : List Str} (he : es[i]? = some (.snd x rs)) (h : CntAt kvs (Rs.upto nodes es i).sends) :
    CntAt (putK kvs (.inr x) (.int (((Rs.upto nodes es i).sends x).length + 1 : Nat))) (Rs.upto nodes es (i + 1)).sends := fun y => by
  rw [valV_put, upto_succ he]
  show _ = if (if y = x then (Rs.upto nodes es i).sends x ++ [i] else (Rs.upto nodes es i).sends y).length = 0 then none else some (V.int (((if y = x then (Rs.upto nodes es i).sends x ++ [i] else (Rs.upto nodes es i).sends y).length : Nat) : Int))
  by_cases c : y = x
  · subst c
    rw [if_pos rfl, if_pos rfl, if_neg (by simp)]
    simp
  · rw [if_neg (fun z => c (Sum.inr.inj z)), if_neg c]
    exact h y
theorem cnt_get {S : Str → List Nat} {kvs : List (Key × V)} {x : Str} (h : CntAt kvs S) : (valV kvs (.inr x)).getD (.int 0) = .int ((S x).length : Nat) := by
  rw [h x]
  by_cases c : (S x).length = 0
  · rw [if_pos c, c]
    rfl
  · rw [if_neg c]
    rfl
/-! ### the nodes of the law -/
def nameB (z : Str) : Bool := decide (1 ≤ z.length) && decide (z.length ≤ 8) && z.cps.toList.all fun c => decide (97 ≤ c) && decide (c ≤ 122)
def ascB : List Str → Bool
  | a :: b :: r => decide (ltS a b) && ascB (b :: r)
  | _ => true
theorem ascB_pw : ∀ {ns : List Str}, ascB ns = true → ns.Pairwise ltS
  | [], _ => .nil
  | [a], _ => List.pairwise_singleton _ _
  | a :: b :: r, h => by
    have h : (decide (ltS a b) && ascB (b :: r)) = true := h
    rw [Bool.and_eq_true, decide_eq_true_eq] at h
    have ih := ascB_pw h.2
    refine .cons (fun y hy => ?_) ih
    rcases List.mem_cons.mp hy with rfl | hy
    · exact h.1
    · cases ih with
      | cons k _ => exact List.lt_trans h.1 (k y hy)
theorem nodesOk_by {ns : List Str} (h : (decide (2 ≤ ns.length) && decide (ns.length ≤ 12) && ns.all nameB && ascB ns) = true) : NodesOk ns := by
  simp only [Bool.and_eq_true, decide_eq_true_eq, List.all_eq_true] at h
  obtain ⟨⟨⟨h1, h2⟩, h3⟩, h4⟩ := h
  refine ⟨h1, h2, fun z hz => ?_, ascB_pw h4⟩
  have := h3 z hz
  unfold nameB at this
  simp only [Bool.and_eq_true, decide_eq_true_eq, List.all_eq_true] at this
  exact ⟨this.1.1, this.1.2, this.2⟩
abbrev nm (c : Nat) : Str := ("n" : Str) ++ ⟨#[c]⟩
def namesOf (x : Str) : List Str := x.cps.toList.map nm
theorem names_ok : ∀ r : Int, 0 ≤ r → r < 7 → NodesOk (namesOf (cutS ("abcdefghijkl" : Str) none (some (6 + r)))) := fun r h0 h1 => by
  have : r = 0 ∨ r = 1 ∨ r = 2 ∨ r = 3 ∨ r = 4 ∨ r = 5 ∨ r = 6 := by omega
  rcases this with rfl | rfl | rfl | rfl | rfl | rfl | rfl <;> exact nodesOk_by (by decide +kernel)
end KA

set_option Elab.async false
set_option linter.all false
set_option maxRecDepth 100000
set_option maxHeartbeats 4000000
namespace L2.Dx
open PySem PySem.Spec PyProof.Rows L2
/-- a list comprehension over a text's signs -/
theorem lc_its {x : Str} {g : TG} {tt : TT} {te : TE} {vs : List Nat} {σ : St} {H1 : Hp} {D : Addr} {Qd : Hp → Prop} (Pv : Nat → Hp → Prop) (h0 : Pv 0 (upd H1 D (.lst [])))
    (hs : ∀ i c H, x.cps[i]? = some c → Pv i H → g (.str ⟨#[c]⟩) (wipe σ vs) H fun σ2 H2 => wipe σ2 vs = wipe σ vs ∧ tt σ2 H2 fun b H3 =>
      if b = true then te σ2 H3 fun y H4 => ∃ acc, H4 D = some (.lst acc) ∧ acc.length < sizeLine ∧ Pv (i + 1) (upd H4 D (.lst (acc ++ [y]))) else Pv (i + 1) H3) (hd : ∀ H, Pv x.cps.size H → Qd H) :
    ∃ W : Nat → Nat → Hp → Prop, (∃ m, W 0 m (upd H1 D (.lst []))) ∧ ∀ i m H, W i m H →
      ((Its x).stop i H ∧ Qd H) ∨ ((Its x).go i H ∧ ∃ Nx : Hp → Prop, (∀ H', Nx H' → ∃ m', m' < m ∧ W (i + 1) m' H') ∧ ∀ v H', (Its x).yld i H v H' → g v (wipe σ vs) H' fun σ2 H2 => wipe σ2 vs = wipe σ vs ∧ tt σ2 H2 fun b H3 =>
        if b = true then te σ2 H3 fun y H4 => ∃ acc, H4 D = some (.lst acc) ∧ acc.length < sizeLine ∧ Nx (upd H4 D (.lst (acc ++ [y]))) else Nx H3) := by
  refine ⟨fun i m H => m = x.cps.size - i ∧ i ≤ x.cps.size ∧ Pv i H, ⟨_, rfl, Nat.zero_le _, h0⟩, fun i m H ⟨em, hi, p⟩ => ?_⟩
  subst em
  rcases Nat.lt_or_ge i x.cps.size with lt | ge
  · refine .inr ⟨lt, Pv (i + 1), fun H' p' => ⟨_, by omega, rfl, lt, p'⟩, fun v H' ⟨e, c, hc, ev⟩ => ?_⟩
    subst e ev
    exact hs i c _ hc p
  · have e : x.cps.size = i := Nat.le_antisymm ge hi
    subst e
    exact .inl ⟨Nat.le_refl _, hd H p⟩
/-- .. over a locked dict's tuple keys -/
theorem lc_keysT {d : Addr} {o : Obj} {kvs : List (List Key × V)} {g : TG} {tt : TT} {te : TE} {vs : List Nat} {σ : St} {H1 : Hp} {D : Addr} {Qd : Hp → Prop} (Pv : Nat → Hp → Prop) (h0 : Pv 0 (upd H1 D (.lst []))) (hl : ∀ i H, i ≤ kvs.length → Pv i H → H d = some (.frz o (.dT kvs)))
    (hs : ∀ i k v q H, kvs[i]? = some (k, v) → H q = some (.tup (k.map kV)) → Pv i H → g (.ref q) (wipe σ vs) H fun σ2 H2 => wipe σ2 vs = wipe σ vs ∧ tt σ2 H2 fun b H3 =>
      if b = true then te σ2 H3 fun y H4 => ∃ acc, H4 D = some (.lst acc) ∧ acc.length < sizeLine ∧ Pv (i + 1) (upd H4 D (.lst (acc ++ [y]))) else Pv (i + 1) H3) (hd : ∀ H, Pv kvs.length H → Qd H) :
    ∃ W : Nat → Nat → Hp → Prop, (∃ m, W 0 m (upd H1 D (.lst []))) ∧ ∀ i m H, W i m H →
      ((Itkt d o kvs).stop i H ∧ Qd H) ∨ ((Itkt d o kvs).go i H ∧ ∃ Nx : Hp → Prop, (∀ H', Nx H' → ∃ m', m' < m ∧ W (i + 1) m' H') ∧ ∀ v H', (Itkt d o kvs).yld i H v H' → g v (wipe σ vs) H' fun σ2 H2 => wipe σ2 vs = wipe σ vs ∧ tt σ2 H2 fun b H3 =>
        if b = true then te σ2 H3 fun y H4 => ∃ acc, H4 D = some (.lst acc) ∧ acc.length < sizeLine ∧ Nx (upd H4 D (.lst (acc ++ [y]))) else Nx H3) := by
  refine ⟨fun i m H => m = kvs.length - i ∧ i ≤ kvs.length ∧ Pv i H, ⟨_, rfl, Nat.zero_le _, h0⟩, fun i m H ⟨em, hi, p⟩ => ?_⟩
  subst em
  rcases Nat.lt_or_ge i kvs.length with lt | ge
  · refine .inr ⟨⟨hl i H hi p, lt⟩, Pv (i + 1), fun H' p' => ⟨_, by omega, rfl, lt, p'⟩, fun w H' ⟨e, k, v, q, hk, ew, hq⟩ => ?_⟩
    subst e ew
    exact hs i k v q _ hk hq p
  · have e : kvs.length = i := Nat.le_antisymm ge hi
    subst e
    exact .inl ⟨⟨hl _ H hi p, Nat.le_refl _⟩, hd H p⟩
end L2.Dx
namespace KA
open PySem PySem.Spec PyProof.Rows L2 L2.Dx Kx
def sndIx (es : List Ev) : Nat → List Nat
  | 0 => []
  | k + 1 => sndIx es k ++ (match es[k]? with
    | some (.snd _ _) => [k]
    | _ => [])
theorem sndIx_sum {es : List Ev} {f : Nat → Nat} : ∀ k, ((sndIx es k).map f).sum = sndSum es f k
  | 0 => rfl
  | k + 1 => by
    show ((sndIx es k ++ _).map f).sum = sndSum es f k + _
    rw [List.map_append, List.sum_append, sndIx_sum k]
    cases es[k]? with
    | none => rfl
    | some e => cases e <;> simp
theorem sndIx_len {es : List Ev} : ∀ k, (sndIx es k).length = sndSum es (fun _ => 1) k
  | 0 => rfl
  | k + 1 => by
    show (sndIx es k ++ _).length = sndSum es (fun _ => 1) k + _
    rw [List.length_append, sndIx_len k]
    cases es[k]? with
    | none => rfl
    | some e => cases e <;> rfl
theorem sndIx_le {es : List Ev} : ∀ k, (sndIx es k).length ≤ k
  | 0 => Nat.le_refl _
  | k + 1 => by
    have := @sndIx_le es k
    show (sndIx es k ++ _).length ≤ k + 1
    rw [List.length_append]
    have h2 : ((match es[k]? with
      | some (.snd _ _) => [k]
      | _ => [] : List Nat)).length ≤ 1 := by
      cases es[k]? with
      | none => simp
      | some e => cases e <;> simp
    omega
theorem sndIx_mem {es : List Ev} {j : Nat} : ∀ {k}, j ∈ sndIx es k → ∃ x rs, es[j]? = some (.snd x rs)
  | 0, h => nomatch h
  | k + 1, h => by
    have h : j ∈ sndIx es k ++ _ := h
    rcases List.mem_append.mp h with h | h
    · exact sndIx_mem h
    · cases hk : es[k]? with
      | none => rw [hk] at h; cases h
      | some e =>
        rw [hk] at h
        cases e with
        | opn x s n => cases h
        | snd x rs =>
          cases List.mem_singleton.mp h
          exact ⟨x, rs, hk⟩
theorem key_inj {nodes : List Str} {S : Str → List Nat} {t u : Msg} (ht : t ∈ allMsgs nodes S) (hu : u ∈ allMsgs nodes S) (e : keyOf t = keyOf u) : t = u := by
  obtain ⟨_, a1, a2, a3⟩ := all_mem ht
  obtain ⟨_, b1, b2, b3⟩ := all_mem hu
  have e1 : t.1 = u.1 := Sum.inr.inj (List.cons.inj e).1
  have e2 : t.2.1 = u.2.1 := Int.ofNat.inj (Sum.inl.inj (List.cons.inj (List.cons.inj e).2).1)
  rw [e1, e2, b3] at a3
  have e3 := Option.some.inj a3
  obtain ⟨x, k, j⟩ := t
  obtain ⟨y, l, m⟩ := u
  simp only at e1 e2 e3
  rw [e1, e2, e3]
theorem valT_in {h : Msg → V} {t : Msg} : ∀ {L : List Msg}, t ∈ L → (∀ u ∈ L, keyOf t = keyOf u → t = u) → valV (L.map fun t => (keyOf t, h t)) (keyOf t) = some (h t)
  | u :: r, ht, inj => by
    rw [List.map_cons]
    by_cases e : keyOf u = keyOf t
    · rw [valV_pos e, inj u List.mem_cons_self e.symm]
    · rw [valV_neg e]
      exact valT_in ((List.mem_cons.mp ht).resolve_left fun z => e (by rw [z])) fun v hv => inj v (List.mem_cons_of_mem _ hv)
theorem cast_sum {α : Type} {f : α → Nat} : ∀ (l : List α), (l.map fun t => ((f t : Nat) : Int)).sum = (((l.map f).sum : Nat) : Int)
  | [] => rfl
  | a :: r => by
    rw [List.map_cons, List.sum_cons, cast_sum r, List.map_cons, List.sum_cons]
    omega
theorem sq_move {K : PySem.W.Frag} {H H' : Hp} {a : Addr} {xs : List V} (h : SqL K H a xs) (t : ∀ o, H a = some o → H' a = some o) : SqL K H' a xs := by
  rcases h with (h | ⟨o, h⟩) | h
  · exact .inl (.inl (t _ h))
  · exact .inl (.inr ⟨o, t _ h⟩)
  · exact .inr h
end KA

set_option Elab.async false
set_option linter.all false
set_option maxRecDepth 100000
set_option maxHeartbeats 4000000
namespace L2.Dx
open PySem PySem.Spec PyProof.Rows L2
/-! what a value reads as, no dict of it the modules' own -/
mutual
inductive RdX (h : Heap) : Value → PyData → Prop
  | none : RdX h .none .none
  | bool (b) : RdX h (.bool b) (.bool b)
  | int (i t) : RdX h (.int i t) (.int i)
  | str (x t) : RdX h (.str x t) (.str x)
  | list {a o vs n xs} : h.get? a = some o → o.cls = .type "list" → o.data = .seq vs n → RdXs h vs.toList xs → RdX h (.ref a) (.list xs)
  | tuple {a o vs n xs} : h.get? a = some o → o.cls = .type "tuple" → o.data = .seq vs n → RdXs h vs.toList xs → RdX h (.ref a) (.tuple xs)
  | dict {a o es n kvs} : h.get? a = some o → o.cls = .type "dict" → o.data = .dict es n → (a == sysModules) = false → RdXs h (es.toList.map (·.key)) (kvs.map (·.1)) → RdXs h (es.toList.map (·.val)) (kvs.map (·.2)) → RdX h (.ref a) (.dict kvs)
inductive RdXs (h : Heap) : List Value → List PyData → Prop
  | nil : RdXs h [] []
  | cons {v vs d ds} : RdX h v d → RdXs h vs ds → RdXs h (v :: vs) (d :: ds)
end
mutual
theorem RdX.reads {h : Heap} : ∀ {v : Value} {d : PyData}, RdX h v d → ∃ as, Reads h v d as
  | _, _, .none => ⟨_, .none⟩
  | _, _, .bool b => ⟨_, .bool b⟩
  | _, _, .int i t => ⟨_, .int i t⟩
  | _, _, .str x t => ⟨_, .str x t⟩
  | _, _, .list h1 h2 h3 h4 => (RdXs.reads h4).elim fun _ k => ⟨_, .list h1 h2 h3 k⟩
  | _, _, .tuple h1 h2 h3 h4 => (RdXs.reads h4).elim fun _ k => ⟨_, .tuple h1 h2 h3 k⟩
  | _, _, .dict h1 h2 h3 _ h4 h5 => (RdXs.reads h4).elim fun _ k => (RdXs.reads h5).elim fun _ l => ⟨_, .dict h1 h2 h3 k l⟩
theorem RdXs.reads {h : Heap} : ∀ {vs : List Value} {ds : List PyData}, RdXs h vs ds → ∃ as, ReadsAll h vs ds as
  | _, _, .nil => ⟨_, .nil⟩
  | _, _, .cons r rs => (RdX.reads r).elim fun _ k => (RdXs.reads rs).elim fun _ l => ⟨_, .cons k l⟩
end
section
variable {prog : Program} {w : World} {h₀ : Heap}
mutual
theorem reprX : ∀ {v : Value} {d : PyData}, RdX h₀ v d → d.showable = true → d.shown.length ≤ sizeLine → ∃ bs, ReadAtMost h₀ d.depth bs ∧ ReprK prog w bs h₀ d.depth v d.shown
  | _, _, .none, _, _ => ⟨[], (fun _ z => nomatch z), by simp only [PyData.shown]; exact .of_is ReprIs.none _ _ _⟩
  | _, _, .bool b, _, _ => ⟨[], (fun _ z => nomatch z), by simp only [PyData.shown]; exact .of_is (ReprIs.bool b) _ _ _⟩
  | _, _, .int i t, hs, _ => ⟨[], (fun _ z => nomatch z), by simp only [PyData.shown]; exact .of_is (ReprIs.int t (by simpa [PyData.showable] using hs)) _ _ _⟩
  | _, _, .str x t, _, hz => ⟨[], (fun _ z => nomatch z), by simp only [PyData.shown]; exact .of_is (ReprIs.str x t (by simpa only [PyData.shown] using hz)) _ _ _⟩
  | _, _, .list (a := a) (vs := vs) (xs := xs) h1 h2 h3 h4, hs, hz => by
    have fit : (listText (PyData.shownAll xs)).length ≤ sizeLine := by simpa only [PyData.shown] using hz
    obtain ⟨bs, hb, hk⟩ := reprXs h4 (by simpa [PyData.showable] using hs) fun t ht => Nat.le_trans (listText_mem_le ht) fit
    obtain ⟨_, r⟩ := (RdX.list h1 h2 h3 h4).reads
    have out : a ∉ bs := not_mem_of_deeper r (by simp only [PyData.depth]; omega) hb
    refine ⟨a :: bs, ReadAtMost.cons r (by simp only [PyData.depth]; omega) hb, ?_⟩
    simp only [PyData.depth, PyData.shown]
    obtain ⟨l⟩ := vs
    cases l with
    | nil =>
      cases (show RdXs h₀ [] xs from h4)
      simp only [PyData.shownAll, listText_nil]
      exact ReprK.listEmpty h1 h2 h3
    | cons x l => exact ReprK.list h1 h2 h3 out (by simpa using hk.length_eq) fun i y e => hk.item i y (by simpa using e)
  | _, _, .tuple (a := a) (xs := xs) h1 h2 h3 h4, hs, hz => by
    have fit : (tupleText (PyData.shownAll xs)).length ≤ sizeLine := by simpa only [PyData.shown] using hz
    obtain ⟨bs, hb, hk⟩ := reprXs h4 (by simpa [PyData.showable] using hs) fun t ht => Nat.le_trans (tupleText_mem_le ht) fit
    obtain ⟨_, r⟩ := (RdX.tuple h1 h2 h3 h4).reads
    have out : a ∉ bs := not_mem_of_deeper r (by simp only [PyData.depth]; omega) hb
    refine ⟨a :: bs, ReadAtMost.cons r (by simp only [PyData.depth]; omega) hb, ?_⟩
    simp only [PyData.depth, PyData.shown]
    exact ReprK.tuple h1 h2 h3 out hk
  | _, _, .dict (a := a) (es := es) (kvs := kvs) h1 h2 h3 hsys h4 h5, hs, hz => by
    have fit : (dictText (PyData.shownKv kvs)).length ≤ sizeLine := by simpa only [PyData.shown] using hz
    obtain ⟨s1, s2⟩ := PyData.showableKv_split kvs (by simpa [PyData.showable] using hs)
    obtain ⟨b1, hb1, k1⟩ := reprXs h4 s1 fun t ht => (PyData.shownKv_key_le kvs t ht).elim fun p z => Nat.le_trans z.2 (Nat.le_trans (dictText_mem_le z.1) fit)
    obtain ⟨b2, hb2, k2⟩ := reprXs h5 s2 fun t ht => (PyData.shownKv_val_le kvs t ht).elim fun p z => Nat.le_trans z.2 (Nat.le_trans (dictText_mem_le z.1) fit)
    obtain ⟨_, r⟩ := (RdX.dict h1 h2 h3 hsys h4 h5).reads
    have hb : ReadAtMost h₀ (PyData.depthKv kvs) (b1 ++ b2) := (hb1.mono (PyData.depthAll_keys_le kvs)).append (hb2.mono (PyData.depthAll_vals_le kvs))
    have out : a ∉ b1 ++ b2 := not_mem_of_deeper r (by simp only [PyData.depth]; omega) hb
    refine ⟨a :: (b1 ++ b2), ReadAtMost.cons r (by simp only [PyData.depth]; omega) hb, ?_⟩
    simp only [PyData.depth, PyData.shown, PyData.shownKv_eq]
    exact ReprK.dict h1 h2 h3 hsys out (ReprEntriesK.of_two es.toList _ _ (k1.more_le (fun b z => List.mem_append_left _ z) (PyData.depthAll_keys_le kvs)) (k2.more_le (fun b z => List.mem_append_right _ z) (PyData.depthAll_vals_le kvs)))
theorem reprXs : ∀ {vs : List Value} {ds : List PyData}, RdXs h₀ vs ds → PyData.showableAll ds = true → (∀ t ∈ PyData.shownAll ds, t.length ≤ sizeLine) → ∃ bs, ReadAtMost h₀ (PyData.depthAll ds) bs ∧ ReprAllK prog w bs h₀ (PyData.depthAll ds) vs (PyData.shownAll ds)
  | _, _, .nil, _, _ => ⟨[], (fun _ z => nomatch z), by simp only [PyData.shownAll]; exact .nil⟩
  | _, _, .cons (d := d) (ds := ds) r rs, hs, hz => by
    obtain ⟨s1, s2⟩ : d.showable = true ∧ PyData.showableAll ds = true := by simpa [PyData.showableAll] using hs
    obtain ⟨b1, hb1, k1⟩ := reprX r s1 (hz _ (by simp only [PyData.shownAll]; exact List.mem_cons_self ..))
    obtain ⟨b2, hb2, k2⟩ := reprXs rs s2 fun t ht => hz t (by simp only [PyData.shownAll]; exact List.mem_cons_of_mem _ ht)
    refine ⟨b1 ++ b2, fun b hm => ?_, ?_⟩
    · simp only [PyData.depthAll]
      rcases List.mem_append.mp hm with hm | hm
      · exact (hb1 b hm).elim fun d' ⟨as', r', z⟩ => ⟨d', as', r', Nat.le_trans z (Nat.le_max_left _ _)⟩
      · exact (hb2 b hm).elim fun d' ⟨as', r', z⟩ => ⟨d', as', r', Nat.le_trans z (Nat.le_max_right _ _)⟩
    · simp only [PyData.depthAll, PyData.shownAll]
      exact .cons ((k1.more fun b z => List.mem_append_left _ z).level_le (Nat.le_max_left _ _)) (k2.more_le (fun b z => List.mem_append_right _ z) (Nat.le_max_right _ _))
end
theorem showsX {a : Addr} {d : PyData} (r : RdX h₀ (.ref a) d) (hs : d.showable = true) (hsz : d.shown.length ≤ sizeLine) : ∃ T idr, ShowsBy prog w h₀ a d T idr := by
  obtain ⟨_, rr⟩ := r.reads
  cases r with
  | @list _ o vs n xs h1 h2 h3 h4 =>
    have fit : (listText (PyData.shownAll xs)).length ≤ sizeLine := by simpa only [PyData.shown] using hsz
    obtain ⟨bs, hb, hk⟩ := reprXs (prog := prog) (w := w) h4 (by simpa [PyData.showable] using hs) fun t ht => Nat.le_trans (listText_mem_le ht) fit
    have out : a ∉ bs := not_mem_of_deeper rr (by simp only [PyData.depth]; omega) hb
    refine ⟨"list", "list.__repr__", F.slot_list_repr.toG, F.slot_list_str, F.slot_list_format, fun s hk0 => ⟨o, hk0 _ _ h1, h2⟩, fun A E s Q hg hu hk0 hQ => ?_⟩
    simp only [PyData.depth] at hu
    simp only [PyData.shown] at hQ
    obtain ⟨l⟩ := vs
    cases l with
    | nil =>
      cases (show RdXs h₀ [] xs from h4)
      simp only [PyData.shownAll, listText_nil] at hQ
      exact call_list_repr_empty ⟨o, hk0 _ _ h1, h2⟩ (hk0 _ _ h1) h3 (hQ s.heap _ _ fun _ _ e => e)
    | cons x l => exact call_list_reprK h1 h2 h3 out (by simpa using hk.length_eq) (fun i y e => hk.item i y (by simpa using e)) hg (fun b _ => Clear.nil b) hu hk0 hQ fit
  | @tuple _ o vs n xs h1 h2 h3 h4 =>
    have fit : (tupleText (PyData.shownAll xs)).length ≤ sizeLine := by simpa only [PyData.shown] using hsz
    obtain ⟨bs, hb, hk⟩ := reprXs (prog := prog) (w := w) h4 (by simpa [PyData.showable] using hs) fun t ht => Nat.le_trans (tupleText_mem_le ht) fit
    have out : a ∉ bs := not_mem_of_deeper rr (by simp only [PyData.depth]; omega) hb
    refine ⟨"tuple", "tuple.__repr__", F.slot_tuple_repr, F.slot_tuple_str, F.slot_tuple_format, fun s hk0 => ⟨o, hk0 _ _ h1, h2⟩, fun A E s Q hg hu hk0 hQ => ?_⟩
    simp only [PyData.depth] at hu
    simp only [PyData.shown] at hQ
    exact call_tuple_reprK h1 h2 h3 out hk hg (fun b _ => Clear.nil b) hu hk0 hQ fit
  | @dict _ o es n kvs h1 h2 h3 hsys h4 h5 =>
    have fit : (dictText (PyData.shownKv kvs)).length ≤ sizeLine := by simpa only [PyData.shown] using hsz
    obtain ⟨s1, s2⟩ := PyData.showableKv_split kvs (by simpa [PyData.showable] using hs)
    obtain ⟨b1, hb1, k1⟩ := reprXs (prog := prog) (w := w) h4 s1 fun t ht => (PyData.shownKv_key_le kvs t ht).elim fun p z => Nat.le_trans z.2 (Nat.le_trans (dictText_mem_le z.1) fit)
    obtain ⟨b2, hb2, k2⟩ := reprXs (prog := prog) (w := w) h5 s2 fun t ht => (PyData.shownKv_val_le kvs t ht).elim fun p z => Nat.le_trans z.2 (Nat.le_trans (dictText_mem_le z.1) fit)
    have hb : ReadAtMost h₀ (PyData.depthKv kvs) (b1 ++ b2) := (hb1.mono (PyData.depthAll_keys_le kvs)).append (hb2.mono (PyData.depthAll_vals_le kvs))
    have out : a ∉ b1 ++ b2 := not_mem_of_deeper rr (by simp only [PyData.depth]; omega) hb
    refine ⟨"dict", "dict.__repr__", F.slot_dict_repr, F.slot_dict_str, F.slot_dict_format, fun s hk0 => ⟨o, hk0 _ _ h1, h2⟩, fun A E s Q hg hu hk0 hQ => ?_⟩
    simp only [PyData.depth] at hu
    simp only [PyData.shown, PyData.shownKv_eq] at hQ
    exact call_dict_reprK h1 h2 h3 hsys out (ReprEntriesK.of_two es.toList _ _ (k1.more_le (fun b z => List.mem_append_left _ z) (PyData.depthAll_keys_le kvs)) (k2.more_le (fun b z => List.mem_append_right _ z) (PyData.depthAll_vals_le kvs))) hg (fun b _ => Clear.nil b) hu hk0 hQ (by rw [← PyData.shownKv_eq]; exact fit)
theorem call_reprX {A : Around} {E : Value → Shared → Prop} {s : Shared} {Q : Value → Shared → Prop} {a : Addr} {d : PyData} (r : RdX s.heap (.ref a) d) (hs : d.showable = true) (hg : A.guards = some []) (hu : A.units + (d.depth + 1) < cLine)
    (hQ : ∀ h' u tk, (∀ b o, s.heap.get? b = some o → h'.get? b = some o) → Q (.str d.shown u) { s with heap := h', toks := tk }) (hsz : d.shown.length ≤ sizeLine) : wpAny (model prog w) A (call (.builtin "repr") [.ref a]) Q E s := by
  obtain ⟨T, idr, S⟩ := showsX (prog := prog) (w := w) r hs hsz
  exact call_repr_slot (by omega) (S.typeIs s fun _ _ e => e) S.slotRepr (S.call A.in1 E s _ hg (by show A.units + 1 + d.depth < cLine; omega) (fun _ _ e => e) fun h' u tk hk => ⟨_, _, rfl, hQ h' u tk hk⟩)
end
end L2.Dx

set_option Elab.async false
set_option linter.all false
set_option maxRecDepth 100000
set_option maxHeartbeats 4000000
namespace L2.Dx
open PySem PySem.Spec PyProof.Rows L2
/-- FnOk of a def that may be asked for a repr: no repr is being made around it -/
structure FnG (P : Program) (w : World) (K : PySem.W.Frag) (mg : Str → Option Value) (base : Heap) (CX : CXT) (k : Nat) (f : Addr) (fd : FuncData) (ps : List Str) (sp : Sp) : Prop where
  len : ∀ vs H Q E, sp vs H Q E → vs.length = ps.length
  run : ∀ (A : Around) (outer : List Env) (s : Shared) (H : Hp) (args : Args) (us : List Value) (vs : List V) (Q : VK) (E : XK), Room k A → A.guards = some [] → Env0 P w K mg base A outer s H → BindsTo s fd args (ps.zip us) → Vals vs us → sp vs H Q E →
    codeAny (model P w) A (.call (.ref f) args) (CR CX outer P w H s Q E) s
section
variable {P : Program} {w : World} {K : PySem.W.Frag} {mg : Str → Option Value} {base : Heap} {CX : CXT} {k : Nat} {f : Addr} {fd : FuncData} {ps : List Str} {sp : Sp}
theorem FnG.of (F : FnOk P w K mg base CX k f fd ps sp) : FnG P w K mg base CX k f fd ps sp := ⟨F.len, fun A outer s H args us vs Q E hr _ => F.run A outer s H args us vs Q E hr⟩
theorem fn_ofG {name qual : Str} {params : Arguments} {body : List Stmt} {scope : Scope} {dV kV doc pm cdv ct oc : Value} {an od : Option Addr} {osl : Array (Option Value)} {N : List Str}
    (lk : K.lookup f = some ⟨oc, od, .func (PySem.W.fnOf name qual params body scope dV kV doc pm an cdv ct), osl⟩) (hcd : PySem.W.codeIn K cdv qual = true) (S : FnScope N ps scope) (len : ∀ vs H Q E, sp vs H Q E → vs.length = ps.length)
    (hbody : ∀ (A : Around) (outer : List Env) (s : Shared) (H : Hp) (vs : List V) (Q : VK) (E : XK), Room k (A.deeper (envOfC qual scope s.heap.objs.size f cdv)) → (A.deeper (envOfC qual scope s.heap.objs.size f cdv)).guards = some [] → sp vs H Q E →
      ∃ t, PSs (cxOf CX P w K mg base N qual scope f cdv A outer s H E) body t ∧ t { nx := fun _ H' => Q .non H', rt := Q } (start N vs) H) :
    FnG P w K mg base CX (k + 1) f (PySem.W.fnOf name qual params body scope dV kV doc pm an cdv ct) ps sp := by
  refine ⟨len, fun A outer s H args us vs Q E hr hgd e0 hb r hsp => ?_⟩
  have kx : K.In s.heap := e0.mod.kin.keeps fun b o e => (e0.bs b o e).1
  have nl : s.heap.NoLimit := e0.mod.nolimit.keeps fun b o e => (e0.bs b o e).1
  have kinds : ∀ y ∈ ps.zip us, scope.names.lookup y.1 = some .local ∨ (scope.names.lookup y.1 = some .cell ∧ ((cellsFrom (s.heap.objs.size + 1) scope.names []).lookup y.1).isSome = true) := by
    rintro ⟨n, v⟩ hy
    exact (S.par n (List.of_mem_zip hy).1).elim .inl fun z => .inr ⟨z, PySem.W.cellsFrom_some _ _ _ (.inl z)⟩
  refine codeAny_call_function hr.depth (kx _ _ lk) rfl S.co S.gen rfl (PySem.W.codeRec_of kx hcd) (hb _ _ _ _ (wpAny_newFunctionEnv_cells S.kind kinds fun env he s1 x => ?_))
  subst he
  refine ⟨nl.keeps x.toInCall.keep, codeAny_func ?_⟩
  obtain ⟨t, ht, hq⟩ := hbody A outer s H vs Q E (hr.deeper _) hgd hsp
  have I : Inv (cxOf CX P w K mg base N qual scope f cdv A outer s H E) [] (start N vs) H s1 := inv_start S hr.hd e0 (len _ _ _ _ hsp) r x
  refine wpAny_mono (ht.run [] s1 (start N vs) H _ I hq) (fun fl s' hs => ?_) fun _ _ z => z
  have out : ∀ {σ' : St} {H' : Hp} {v : V} {u : Value}, Inv (cxOf CX P w K mg base N qual scope f cdv A outer s H E) [] σ' H' s' → RelV v u → Q v H' → CE outer P w H s Q u s' := fun {σ' H' v u} J rv q => ⟨v, H', J.os, J.bare, J.base, J.hok, rv, q⟩
  cases fl with
  | ret u => exact hs.elim fun v ⟨σ', H', J, rv, q⟩ => out J rv q
  | next => exact hs.elim fun σ' ⟨H', J, q⟩ => out (v := V.non) (u := Value.none) J rfl q
  | brk => exact hs.elim fun _ ⟨_, _, q⟩ => q.elim
  | cont => exact hs.elim fun _ ⟨_, _, q⟩ => q.elim
end
section
variable {P : Program} {w : World} {K : PySem.W.Frag} {mg : Str → Option Value} {base : Heap}
theorem Fun.okG {x qual : Str} {st : Stmt} {f : Addr} {fd : FuncData} {N ps : List Str} {k : Nat} {sp : Sp} (F : Fun K x qual st f fd) (S : FnScope N ps (defScope st)) (len : ∀ vs H Q E, sp vs H Q E → vs.length = ps.length)
    (hbody : ∀ (cdv : Value) (A : Around) (outer : List Env) (s : Shared) (H : Hp) (vs : List V) (Q : VK) (E : XK), Room k (A.deeper (envOfC qual (defScope st) s.heap.objs.size f cdv)) → (A.deeper (envOfC qual (defScope st) s.heap.objs.size f cdv)).guards = some [] → sp vs H Q E →
      ∃ t, PSs (cxOf CX0 P w K mg base N qual (defScope st) f cdv A outer s H E).nox (defBody st) t ∧ t { nx := fun _ H' => Q .non H', rt := Q } (start N vs) H) : FnG P w K mg base CX0 (k + 1) f fd ps sp := by
  obtain ⟨oc, od, kV, doc, pm, an, cdv, ct, osl, rfl, lk, hcd⟩ := F.ex
  refine fn_ofG lk hcd S len fun A outer s H vs Q E hr hgd hsp => ?_
  obtain ⟨t, h, q⟩ := hbody cdv A outer s H vs Q E hr hgd hsp
  exact ⟨t, h.nox, q⟩
end
section
variable {X : Cx} {CX : CXT} {k : Nat} {f : Addr} {fd : FuncData} {ps : List Str} {ds : List Value} {dvs : List V} {sp : Sp} {E : XK} {x : Str} {p pos : Pos} {e : Expr} {es : List Expr} {t : TA}
theorem run_fnG {pins : List (Addr × Obj)} {σ : St} {H : Hp} {s : Shared} {Q : VK} {us : List Value} {vs : List V} (F : FnG X.prog X.w X.K X.mg X.base CX k f fd ps sp) (hgd : X.A.guards = some []) (hr : Room k X.A) (hb : Binds X.K fd ps ds) (hd : Vals dvs ds) (hx : Passes CX X E)
    (I : Inv X pins σ H s) (r : Vals vs us) (h : sp (vs ++ dvs) H Q E) : wpAny (model X.prog X.w) X.A (call (.ref f) us) (EP X pins σ Q) X.xe s := by
  have r2 : Vals (vs ++ dvs) (us ++ ds) := r.append hd
  have hl : (us ++ ds).length = ps.length := r2.length ▸ F.len _ _ _ _ h
  refine wpAny_call (codeAny_mono (F.run X.A X.stack s H ⟨us, []⟩ (us ++ ds) (vs ++ dvs) Q E hr hgd I.env0 (hb s us I.kIn hl) r2 h) fun r s' hq => ?_)
  rcases r with e | fl
  · exact hx pins σ H s e s' I hq
  · cases fl with
    | ret u => exact I.after hq
    | next => exact False.elim hq
    | brk => exact False.elim hq
    | cont => exact False.elim hq
theorem pe_callG (F : FnG X.prog X.w X.K X.mg X.base CX k f fd ps sp) (hgd : X.A.guards = some []) (hr : Room k X.A) (hg : Gl X x) (hm : X.mg x = some (.ref f)) (hk : PySem.W.keepIn X.K (.ref f) = true) (hb : Binds X.K fd ps ds) (hd : Vals dvs ds) (hx : Passes CX X E)
    (ha : PA X (e :: es) t) (hdb : (x == ("__debug__" : Str)) = false := by decide) (he : starEach (e :: es) X.env = (false, eval e X.env) :: starEach es X.env := by rfl) (hpl : (backTo pos (starEach es X.env)).any (·.1) = false := by rfl) :
    PE X (.Call (.Name x p) (e :: es) [] pos) (tCall sp dvs E t) :=
  ⟨fun pins s σ H Q I h => wpAny_Call_Name_kw (ld_glob I hg hm (PySem.W.callWith_K (h₀ := X.base) I.ok.mod.kin hk (thn (ha.run pos pins s σ H _ I h) fun us s1 ⟨vs, H1, I1, r, q⟩ => ⟨I1.kIn, run_fnG F hgd hr hb hd hx I1 r q⟩) he hpl) hdb)⟩
end
end L2.Dx

set_option Elab.async false
set_option linter.all false
set_option maxRecDepth 100000
set_option maxHeartbeats 4000000
namespace L2.Dx
open PySem PySem.Spec PyProof.Rows L2
/-- the law's call, from an abstract heap in which nothing but the script may be tracked -/
theorem lawG_core {P : Program} {w : World} {K : PySem.W.Frag} {mg mb : Str → Option Value} {CX : CXT} {k : Nat} {fa a : Addr} {fd : FuncData} {x : Str} {sp : Sp} {s₁ : Shared} {vs : List Value} {ns : List Int}
    (KX : K.In s₁.heap) (hns : s₁.heap.Ns mainGlobals mg) (hb : s₁.heap.Ns builtinsNs mb) (hbb : ∀ x : Str, x ≠ "__name__" → mb x = bootBuiltins x) (hlim : s₁.heap.NoLimit) (hg : s₁.gens = #[])
    (ha : s₁.heap.get? a = some { cls := .type "list", data := .seq vs.toArray }) (hr : Room k callerA)
    (F : ∀ base : Heap, K.In base → base.Ns mainGlobals mg → FnG P w K mg base CX k fa fd [x] sp) (hbind : ∀ (s : Shared) (u : Value), BindsTo s fd ⟨[u], []⟩ [(x, u)])
    (hsp : ∀ H : Hp, Only H → SqL K H a (ns.map V.int) → sp [.ref a] H (fun v _ => v = .bl true) fun _ _ _ => False) (hCX : ∀ H e s', CX [] H s₁ (fun _ _ _ => False) e s' → False)
    (H : Hp) (hO : Only H) (hS : SqL K H a (ns.map V.int)) (hok : HOk P w H s₁.heap) (hA : ∀ b, H b ≠ none → b = a) (hK : H a ≠ none → K.lookup a = none) :
    codeAny (model P w) callerA (.call (.ref fa) ⟨[.ref a], []⟩) (fun r s' => r = .ok (.ret (.bool true)) ∧ OldK s₁.heap s'.heap ∧ s'.os = s₁.os ∧ AllBare s'.gens) s₁ := by
  have free : ∀ {b : Addr} {o : Obj}, (∀ u, H b = some u → s₁.heap.get? b = some o → False) → s₁.heap.get? b = some o → H b = none := fun {b o} h e => by
    cases q : H b with
    | none => rfl
    | some u => exact (h u q e).elim
  have only : ∀ {b : Addr} {u : HO}, H b = some u → b = a := fun {b u} q => hA b (by rw [q]; simp)
  have dictFree : ∀ {b : Addr} {o : Obj} {es : Array DictEntry} {ep : Nat}, s₁.heap.get? b = some o → o.data = .dict es ep → H b = none := fun {b o es ep} e d => free (fun u q e => by
    rw [only q, ha] at e
    cases e
    cases (show Data.seq vs.toArray _ = Data.dict es ep from d)) e
  have nsK : ∀ {b : Addr} {m : Str → Option Value}, s₁.heap.Ns b m → (hidT s₁.heap H).Ns b m := fun ⟨o, es, ep, e, d, r⟩ => ⟨o, es, ep, hidT_get e (dictFree e d), d, r⟩
  have hKb : K.In (hidT s₁.heap H) := fun b o e => hidT_get (KX b o e) (free (fun u q _ => by
    have eb := only q
    subst eb
    rw [hK (by rw [q]; simp)] at e
    cases e) (KX b o e))
  have hM : Mod K mg (hidT s₁.heap H) := ⟨hKb, nsK hns, ⟨mb, nsK hb, hbb⟩, hlim.elim fun mc z => ⟨mc, nsK z.1, z.2⟩⟩
  have e0 : Env0 P w K mg (hidT s₁.heap H) callerA [] s₁ H := ⟨rfl, hM, fun b o e => of_hidT e, Nat.le_of_eq (hidT_size _ _), trivial, fun b hb => absurd (show b ∈ ([] : List Addr) from hb) (by simp), hok, .of_eq hg⟩
  refine codeAny_mono ((F _ hKb (nsK hns)).run callerA [] s₁ H ⟨[.ref a], []⟩ [.ref a] [.ref a] _ _ hr rfl e0 (hbind s₁ (.ref a)) (.cons rfl .nil) (hsp H hO hS)) fun r s' h => ?_
  rcases r with e | fl
  · exact (hCX H e s' h).elim
  cases fl with
  | next => exact False.elim h
  | brk => exact False.elim h
  | cont => exact False.elim h
  | ret u =>
    obtain ⟨v, H', os, bare, un, hok', r', q⟩ := h
    obtain rfl : v = .bl true := q
    obtain rfl : u = Value.bool true := r'
    refine ⟨rfl, OldK.of_keep fun b o e => ?_, os, bare⟩
    cases q : H b with
    | none => exact un.keep b o e q (fun z => absurd (show b ∈ ([] : List Addr) from z) (by simp)) (by simp)
    | some u =>
      rcases hO b with z | ⟨ob, xs, z⟩
      · rw [q] at z; cases z
      · have e1 := (hok b _ z).1
        rw [e] at e1
        cases e1
        exact (hok' b _ (un.frzs b _ _ z)).1
theorem law_callG {P : Program} {w : World} {K : PySem.W.Frag} {mg mb : Str → Option Value} {CX : CXT} {k : Nat} {fa a : Addr} {fd : FuncData} {x : Str} {sp : Sp} {s₁ : Shared} {vs : List Value} {ns : List Int}
    (KX : K.In s₁.heap) (hns : s₁.heap.Ns mainGlobals mg) (hb : s₁.heap.Ns builtinsNs mb) (hbb : ∀ x : Str, x ≠ "__name__" → mb x = bootBuiltins x) (hlim : s₁.heap.NoLimit) (hg : s₁.gens = #[])
    (ha : s₁.heap.get? a = some { cls := .type "list", data := .seq vs.toArray }) (hi : IntsAre vs ns) (hl : ns.length ≤ sizeLine) (hr : Room k callerA)
    (F : ∀ base : Heap, K.In base → base.Ns mainGlobals mg → FnG P w K mg base CX k fa fd [x] sp) (hbind : ∀ (s : Shared) (u : Value), BindsTo s fd ⟨[u], []⟩ [(x, u)])
    (hsp : ∀ H : Hp, Only H → SqL K H a (ns.map V.int) → sp [.ref a] H (fun v _ => v = .bl true) fun _ _ _ => False) (hCX : ∀ H e s', CX [] H s₁ (fun _ _ _ => False) e s' → False) :
    codeAny (model P w) callerA (.call (.ref fa) ⟨[.ref a], []⟩) (fun r s' => r = .ok (.ret (.bool true)) ∧ OldK s₁.heap s'.heap ∧ s'.os = s₁.os ∧ AllBare s'.gens) s₁ := by
  have rv := vals_ints hi
  have lv := hi.length
  have core := lawG_core (ns := ns) KX hns hb hbb hlim hg ha hr F hbind hsp hCX
  cases hk : K.lookup a with
  | some o =>
    have e := KX a o hk
    rw [ha] at e
    cases e
    exact core (fun _ => none) (fun _ => .inl rfl) (.inr ⟨_, vs.toArray, _, hk, rfl, rfl, rfl, by rw [List.size_toArray, lv]; exact hl, by simpa using rv⟩) (fun b u z => nomatch (show (none : Option HO) = some u from z)) (fun b z => absurd rfl z) fun z => absurd rfl z
  | none =>
    generalize hH : (fun b => if b = a then some (HO.frz { cls := .type "list", data := .seq vs.toArray } (.lst (ns.map V.int))) else none : Hp) = H
    have h1 : H a = some (HO.frz { cls := .type "list", data := .seq vs.toArray } (.lst (ns.map V.int))) := by rw [← hH]; exact if_pos rfl
    have h2 : ∀ b, b ≠ a → H b = none := fun b z => by rw [← hH]; exact if_neg z
    refine core H (fun b => ?_) (.inl (.inr ⟨_, h1⟩)) (fun b u z => ?_) (fun b z => ?_) fun _ => hk
    · by_cases e : b = a
      · exact .inr ⟨_, _, by rw [e]; exact h1⟩
      · exact .inl (h2 b e)
    · by_cases e : b = a
      · subst e
        rw [h1] at z
        cases z
        exact ⟨ha, by rw [List.length_map]; exact hl, vs, _, rv, ha⟩
      · rw [h2 b e] at z
        cases z
    · exact Classical.byContradiction fun e => z (h2 b e)
theorem walk_ofG {l : PySem.W.OpenLaw} {n k : Nat} {q : Program} {loose : List Str} {XP : (Str → Option Value) → Heap → Prop} {YP : World → Heap → Prop} {d : DefRec} {K : Params → PySem.W.Frag} {CX : World → CXT} {sp : World → Sp} {x : Str}
    (hn : l.most = some n) (hn2 : n ≤ sizeLine) (hdf : d.params.defaults = []) (hr : Room k callerA) (hY : ∀ (w : World) (h : Heap), YP w h → (K w.params).In h)
    (F : ∀ (w : World) (mg : Str → Option Value) (fa : Addr) (h : Heap), (K w.params).In h → h.Ns mainGlobals mg → mg d.name = some (.ref fa) →
      ∃ fd : FuncData, (∀ (s : Shared) (u : Value), BindsTo s fd ⟨[u], []⟩ [(x, u)]) ∧ ∀ base : Heap, (K w.params).In base → base.Ns mainGlobals mg → FnG l.prog w (K w.params) mg base (CX w) k fa fd [x] (sp w))
    (hsp : ∀ (w : World) (H : Hp) (a : Addr) (ns : List Int), ns.length ≤ n → Only H → SqL (K w.params) H a (ns.map V.int) → sp w [.ref a] H (fun v _ => v = .bl true) fun _ _ _ => False)
    (hCX : ∀ (w : World) (H : Hp) (s : Shared) (e : Value) (s' : Shared), CX w [] H s (fun _ _ _ => False) e s' → False) : PySem.W.WalkO q loose XP YP l.row.toRowW d [] (fun f vs => PySem.call f vs) :=
  Att.attach_call hn hdf fun w s₀ s₁ mg mb fa o pm cd doc a vs ns G Y ho hd hcd hmg hobj hints hlen hg => by
    obtain ⟨fd, hb, hF⟩ := F w mg fa _ (hY w _ Y) G.T.g hmg
    exact law_callG (hY w _ Y) G.T.g G.T.b G.T.builtins G.T.nolimit hg hobj hints (Nat.le_trans hlen hn2) hr hF hb (fun H hO hS => hsp w H a ns hlen hO hS) fun H e s' => hCX w H s₁ e s'
end L2.Dx

set_option Elab.async false
set_option linter.all false
set_option maxRecDepth 100000
set_option maxHeartbeats 4000000
namespace L2.Dx
open PySem PySem.Spec PyProof.Rows L2
/-- a key as data -/
def kD : Key → PyData
  | .inl i => .int i
  | .inr x => .str x
/-! nested data, with dicts whose keys are tuples of ints and texts -/
mutual
inductive Dpx (K : PySem.W.Frag) (H : Hp) : V → PyData → Prop
  | non : Dpx K H .non .none
  | bl (b : Bool) : Dpx K H (.bl b) (.bool b)
  | int (i : Int) : Dpx K H (.int i) (.int i)
  | str (x : Str) : Dpx K H (.str x) (.str x)
  | lst {a : Addr} {xs : List V} {ds : List PyData} : SqL K H a xs → DpxAll K H xs ds → Dpx K H (.ref a) (.list ds)
  | tup {a : Addr} {xs : List V} {ds : List PyData} : SqT K H a xs → DpxAll K H xs ds → Dpx K H (.ref a) (.tuple ds)
  | dt {a : Addr} {kvs : List (List Key × V)} {ds : List (PyData × PyData)} : Rd H a (.dT kvs) → ds.map (·.1) = kvs.map (fun p => PyData.tuple (p.1.map kD)) → DpxAll K H (kvs.map (·.2)) (ds.map (·.2)) → Dpx K H (.ref a) (.dict ds)
inductive DpxAll (K : PySem.W.Frag) (H : Hp) : List V → List PyData → Prop
  | nil : DpxAll K H [] []
  | cons {v : V} {vs : List V} {d : PyData} {ds : List PyData} : Dpx K H v d → DpxAll K H vs ds → DpxAll K H (v :: vs) (d :: ds)
end
section
variable {X : Cx} {pins : List (Addr × Obj)} {σ : St} {H : Hp} {s : Shared}
theorem rdxs_keys (h : Heap) : ∀ {ks : List Key} {us : List Value}, Vals (ks.map kV) us → RdXs h us (ks.map kD)
  | [], us, r => by cases r; exact .nil
  | .inl i :: ks, us, r => by
    cases r with
    | cons r rs =>
      obtain ⟨t, rfl⟩ := r
      exact .cons (.int i t) (rdxs_keys h rs)
  | .inr x :: ks, us, r => by
    cases r with
    | cons r rs =>
      obtain ⟨t, rfl⟩ := r
      exact .cons (.str x t) (rdxs_keys h rs)
mutual
theorem Dpx.rd (I : Inv X pins σ H s) : ∀ {v : V} {d : PyData} {u : Value}, Dpx X.K H v d → RelV v u → RdX s.heap u d
  | _, _, _, .non, r => by cases r; exact .none
  | _, _, _, .bl b, r => by cases r; exact .bool b
  | _, _, _, .int i, r => by obtain ⟨t, rfl⟩ := r; exact .int i t
  | _, _, _, .str x, r => by obtain ⟨t, rfl⟩ := r; exact .str x t
  | _, _, _, .lst hs ha, r => by
    cases r
    obtain ⟨its, rv, ⟨o, n, ho, hc, _, hd⟩, _⟩ := I.list hs
    exact .list ho hc hd (DpxAll.rd I ha rv)
  | _, _, _, .tup hs ha, r => by
    cases r
    obtain ⟨its, rv, ⟨o, ho, hc, n, hd⟩, _⟩ := I.tuple hs
    exact .tuple ho hc hd (DpxAll.rd I ha rv)
  | _, _, _, .dt (kvs := kvs) (ds := ds) hs hk hv, r => by
    cases r
    obtain ⟨_, y, xs, kt, o, es, ep, h1, h2, h3, h4, _, _⟩ := dt_rd I.hok hs
    have vals : ∀ {l : List (List Key × V)} {m : List (List Key × Addr × Value)}, KT H l m → Vals (l.map (·.2)) (m.map (·.2.2)) ∧ RdXs s.heap (m.map fun x => Value.ref x.2.1) (l.map fun p => PyData.tuple (p.1.map kD)) := by
      intro l m q
      induction q with
      | nil => exact ⟨.nil, .nil⟩
      | @cons p q ps qs hq t ih =>
        obtain ⟨e1, e2, e3⟩ := hq
        obtain ⟨_, its, rv, o', g1, g2, n, g3⟩ := (show ObjOk X.prog X.w H s.heap q.2.1 (.tup (p.1.map kV)) from I.hok _ _ e2)
        exact ⟨.cons e3 ih.1, .cons (.tuple g1 g2 g3 (rdxs_keys _ rv)) ih.2⟩
    obtain ⟨v1, v2⟩ := vals kt
    refine .dict h1 h2.1 h3 y ?_ ?_
    · rw [h4, List.map_map, hk]
      exact v2
    · rw [h4, List.map_map]
      exact DpxAll.rd I hv v1
theorem DpxAll.rd (I : Inv X pins σ H s) : ∀ {vs : List V} {ds : List PyData} {us : List Value}, DpxAll X.K H vs ds → Vals vs us → RdXs s.heap us ds
  | _, _, _, .nil, r => by cases r; exact .nil
  | _, _, _, .cons h1 h2, r => by
    cases r with
    | cons r1 r2 => exact .cons (Dpx.rd I h1 r1) (DpxAll.rd I h2 r2)
end
structure ShownOk (d : PyData) : Prop where
  sh : d.showable = true
  dp : d.depth ≤ 50
  fit : d.shown.length ≤ sizeLine
def rRepr (K : PySem.W.Frag) : List V → Hp → VK → Prop := fun vs H Q => ∃ (a : Addr) (d : PyData), vs = [.ref a] ∧ Dpx K H (.ref a) d ∧ ShownOk d ∧ Q (.str d.shown) H
theorem call_reprG (hgd : X.A.guards = some []) (hu : X.A.units + 64 < cLine) : CallR X (.builtin "repr") (rRepr X.K) := by
  intro pins s σ H xs us Q I r h
  obtain ⟨a, d, rfl, hd, ok, q⟩ := h
  rw [Vals.ref1 r]
  have := ok.dp
  exact call_reprX (Dpx.rd I hd rfl) ok.sh hgd (by omega) (fun h' u tk hk => ⟨.str d.shown, H, I.kept hk, ⟨u, rfl⟩, q⟩) ok.fit
end
end L2.Dx

set_option Elab.async false
set_option linter.all false
set_option maxRecDepth 100000
set_option maxHeartbeats 8000000
/-! set(xs), xs a list of texts; sorted of it -/
namespace L2.Dx
open PySem PySem.Spec PyProof.Rows PySem.Froz L2
section
variable {P : Program} {w : World} {A : Around} {E : Value → Shared → Prop} {s : Shared}
/-- at a the set of the texts l, as `set` makes it -/
def SSt (P : Program) (w : World) (h : Heap) (a : Addr) (l : List Str) : Prop :=
  ∃ D : SD, h.get? a = some (sObj "set" D) ∧ TxOk P w D l ∧ Ris D.2.2.place.toList ∧ (w.params.followText "set-order" = true ∨ D.2.2.led = true) ∧ l.Nodup
theorem tail_ris {ep : Nat} {es1 : Array (Int × Value)} {t2 : SetTable} {b : Bool} (hr : Ris t2.place.toList) (hl : w.params.followText "set-order" = true ∨ t2.led = true) :
    Ris (tailTx ep es1 t2 b).2.2.place.toList ∧ (w.params.followText "set-order" = true ∨ (tailTx ep es1 t2 b).2.2.led = true) := by
  unfold tailTx
  split
  · exact ⟨relayAll_ris _ _ _, hl.imp id fun z => by rw [relayAll_led]; exact z⟩
  · exact ⟨hr, hl⟩
theorem add_ris {D : SD} {h : Int} {v : Value} (hr : Ris D.2.2.place.toList) (hl : w.params.followText "set-order" = true ∨ D.2.2.led = true) :
    Ris (addTx h v D).2.2.place.toList ∧ (w.params.followText "set-order" = true ∨ (addTx h v D).2.2.led = true) := by
  unfold addTx
  refine tail_ris ?_ ?_
  · split
    · exact layNew_ris _ _ _ _ hr
    · exact layNew_ris _ _ _ _ hr
  · refine hl.imp id fun z => ?_
    split
    · show (layNew D.2.2 D.1 h v).2.1.led = true
      rw [layNew_led]; exact z
    · rw [layNew_led]; exact z
def addU (l : List Str) (k : Str) : List Str := if k ∈ l then l else k :: l
theorem ss_add {a : Addr} {l : List Str} {k : Str} {u : Tok} {Q : Bool → Shared → Prop} (R : SSt P w s.heap a l) (hb : l.length + 1 < scanBound)
    (h : ∀ (b : Bool) (h' : Heap), Heap.SameBut a s.heap h' → SSt P w h' a (addU l k) → Q b { s with heap := h' }) : wpAny (model P w) A (setAddHashed a (.str k u) (hashStr w k)) Q E s := by
  obtain ⟨D, ho, F, hr, hl, nd⟩ := R
  by_cases hk : k ∈ l
  · obtain ⟨es, ep, t⟩ := D
    have hd : (sObj "set" (es, ep, t)).data = .set es ep t := rfl
    have hf : t.fits es.size = true := F.fit
    have hel : ElemsOf (strKind P w) es.toList := F.el
    have hsz : es.size = l.length := F.sz
    have hb0 : es.size < scanBound := by omega
    have hkey : (strKind P w).is k (.str k u) = true := is_str k u
    obtain ⟨j, hj⟩ : ∃ j, List.findIdx? (fun e => (strKind P w).is k e.2) es.toList = some j := by
      cases q : List.findIdx? (fun e => (strKind P w).is k e.2) es.toList with
      | some j => exact ⟨j, rfl⟩
      | none =>
        obtain ⟨e, he, hp⟩ := (F.mem k).mp hk
        have := List.findIdx?_eq_none_iff.mp q e he
        rw [hp] at this
        cases this
    unfold setAddHashed setAddHashedIn
    refine wpAny_holding (wpAny_bind (wpAny_setState_of ho hd hf ?_))
    dsimp only
    rw [byScan_of rfl hb0 hel]
    simp only [↓reduceIte]
    unfold setAddByScan
    refine wpAny_bind ?_
    refine wpAny_bind (wpAny_rule ?_)
    refine wpAny_bind (wpAny_setScan_of (knd := strKind P w) (k := k) hkey ho hd hf hel ?_)
    rw [hj]
    dsimp only
    refine wpAny_pure (wpAny_pure ?_)
    have e : s = { s with heap := s.heap } := by cases s; rfl
    rw [e]
    exact h _ _ (Heap.SameBut.refl a s.heap) (by unfold addU; rw [if_pos hk]; exact ⟨_, ho, F, hr, hl, nd⟩)
  · refine add_x ho F hk hb (h _ _ ?_ ?_)
    · exact Heap.SameBut.update _ _ _
    · unfold addU
      rw [if_neg hk]
      obtain ⟨r1, r2⟩ := add_ris (w := w) (h := hashStr w k) (v := .str k u) hr hl
      exact ⟨_, get_upd _ ho rfl, add_ok u F, r1, r2, List.nodup_cons.mpr ⟨hk, nd⟩⟩
theorem SSt.at {h h' : Heap} {a : Addr} {l : List Str} (R : SSt P w h a l) (k : ∀ o, h.get? a = some o → h'.get? a = some o) : SSt P w h' a l := by
  obtain ⟨D, ho, r⟩ := R
  exact ⟨D, k _ ho, r⟩
/-- what is met, last first -/
def metS (ss : List Str) (i : Nat) : List Str := (ss.take i).foldl addU []
theorem metS_succ {ss : List Str} {i : Nat} {k : Str} (h : ss[i]? = some k) : metS ss (i + 1) = addU (metS ss i) k := by
  unfold metS
  have hl : i < ss.length := (List.getElem?_eq_some_iff.mp h).1
  rw [List.take_succ, h]
  simp
theorem addU_len (l : List Str) (k : Str) : (addU l k).length ≤ l.length + 1 := by
  unfold addU
  split <;> simp
theorem metS_len (ss : List Str) : ∀ i, i ≤ ss.length → (metS ss i).length ≤ i
  | 0, _ => by simp [metS]
  | i + 1, h => by
    have hk : ss[i]? = some (ss[i]'(by omega)) := List.getElem?_eq_getElem (by omega)
    rw [metS_succ hk]
    have := metS_len ss i (by omega)
    have := addU_len (metS ss i) (ss[i]'(by omega))
    omega
theorem mem_addU {l : List Str} {k x : Str} : x ∈ addU l k ↔ x = k ∨ x ∈ l := by
  unfold addU
  split
  · rename_i h
    exact ⟨.inr, fun z => z.elim (fun e => e ▸ h) id⟩
  · exact List.mem_cons
theorem mem_fold {x : Str} : ∀ (ss l : List Str), x ∈ ss.foldl addU l ↔ x ∈ ss ∨ x ∈ l
  | [], l => by simp
  | k :: ss, l => by
    rw [List.foldl_cons, mem_fold ss, mem_addU, List.mem_cons]
    constructor
    · rintro (h | h | h)
      · exact .inl (.inr h)
      · exact .inl (.inl h)
      · exact .inr h
    · rintro ((h | h) | h)
      · exact .inr (.inl h)
      · exact .inl h
      · exact .inr (.inr h)
theorem mem_met {ss : List Str} {x : Str} : x ∈ metS ss ss.length ↔ x ∈ ss := by
  unfold metS
  rw [List.take_length, mem_fold]
  simp
variable {R : Result → Shared → Prop} {I : Addr} {fp wr : List Addr} {G : Array GenState → Array GenState → Prop} {n : Nat} {Pv : Nat → Value → Prop} {St : Nat → Shared → Prop}
theorem set_loopS (W : WalksS P w A.in1 I fp wr G n Pv St) (S : Addr) (hSf : S ∉ fp)
    (ss : List Str) (hn : ss.length = n) (hval : ∀ i v, Pv i v → ∃ k t, ss[i]? = some k ∧ v = .str k t) (hb : n + 1 < scanBound) :
    ∀ (k i : Nat) (s : Shared), n - i = k → i ≤ n → St i s → SSt P w s.heap S (metS ss i) →
      (∀ s', Moved (S :: wr) G s s' → SSt P w s'.heap S (metS ss n) → R (.ok (.ret .none)) s') →
      codeAny (model P w) A (.builtin "set.update.loop" ⟨[.ref S, .ref I], []⟩) R s := by
  have hSw : S ∉ wr := fun h => hSf (W.sub _ h)
  have hsub : ∀ b ∈ wr, b ∈ S :: wr := fun b hb => List.mem_cons_of_mem _ hb
  intro k
  induction k with
  | zero =>
    intro i s hk hi hst hS hR
    have hin : i = n := by omega
    subst hin
    refine codeAny_builtin F.entry_set_update_loop ?_
    rw [Around.under_plainId F.plain_set_update_loop _]
    show wpAny _ A.in1 (pyNext (.ref I) >>= _) _ _ s
    refine wpAny_bind (W.done s _ _ hst fun s' hm => ?_)
    show wpAny _ A.in1 (ret Value.none) _ _ s'
    exact wpAny_pure (hR s' (hm.mono hsub) (hS.at fun o e => hm.heap S _ hSw e))
  | succ k ih =>
    intro i s hk hi hst hS hR
    have hlt : i < n := by omega
    refine codeAny_builtin F.entry_set_update_loop ?_
    rw [Around.under_plainId F.plain_set_update_loop _]
    show wpAny _ A.in1 (pyNext (.ref I) >>= _) _ _ s
    refine wpAny_bind (W.item i s _ _ hlt hst fun v s' hP hst' hm => ?_)
    obtain ⟨x, t, hx, rfl⟩ := hval i v hP
    have hS' : SSt P w s'.heap S (metS ss i) := hS.at fun o e => hm.heap S _ hSw e
    show wpAny _ A.in1 (holding [Value.str x t] (setAdd S (.str x t)) >>= _) _ _ s'
    refine wpAny_bind (wpAny_holding ?_)
    unfold setAdd
    refine wpAny_holding ?_
    refine wpAny_bind ((strKind P w).pyHash (k := x) (is_str x t) ?_)
    have hroom : (metS ss i).length + 1 < scanBound := by have := metS_len ss i (by omega); omega
    refine ss_add (s := { s' with toks := s'.toks + 1 }) hS' hroom fun b h' hsb hS2 => ?_
    have hSi : SSt P w h' S (metS ss (i + 1)) := by rw [metS_succ hx]; exact hS2
    refine wpAny_pure ⟨plainId_quiet F.plain_set_update_loop _, ih (i + 1) _ (by omega) hlt (W.frame _ s' _ _ hst' (Nat.le_succ _) fun b hb o e => ?_) hSi fun s'' hm'' hS'' => ?_⟩
    · rw [hsb.2 b (fun h : b = S => hSf (by rw [← h]; exact hb))]; exact e
    · refine hR s'' (Moved.trans W.gtrans ((hm.mono hsub).then_heap (Nat.le_succ _) fun b o hb e => ?_) hm'') hS''
      rw [hsb.2 b (fun h : b = S => hb (by rw [h]; exact List.mem_cons_self))]; exact e
theorem code_set_led1 (a : Value) {Q₁ : Value → Shared → Prop}
    (h : Q₁ (.ref s.heap.objs.size) { s with heap := s.heap.push { cls := .type "set", dict := none, data := .set #[] 0 (.fresh 0 0 (!w.params.followText "set-order")) } }) :
    codeAny (model P w) A (.call (.builtin "set.__new__") ⟨[.type "set", a], []⟩) (wants Q₁ E) s := by
  refine codeAny_of_tree ?_
  show wpAny _ A.in1 (do checkBuiltinCall "set.__new__" ⟨[.type "set", a], []⟩; again (.builtin "set.__new__" ⟨[.type "set", a], []⟩)) _ _ s
  refine wpAny_bind (wpAny_of_eq (F.newCall_set_1 a) (wpAny_pure ⟨plainId_quiet F.plain_set_new _, codeAny_builtin F.entry_set_new ?_⟩))
  rw [Around.under_plainId F.plain_set_new _]
  unfold Builtin.«set.__new__» Builtin.Frozenset.newClass
  have hsub := sub_set_self
  obtain ⟨hp, g, d, tk, os⟩ := s
  dsimp only
  wp_walk
  refine wpAny_askSetting (wpAny_pure ?_)
  dsimp only
  simp only [newObj]
  refine wpAny_bind (wpAny_alloc (wpAny_pure ?_))
  exact wpAny_pure h
theorem ss_fresh {h : Heap} : SSt P w (h.push { cls := .type "set", dict := none, data := .set #[] 0 (.fresh 0 0 (!w.params.followText "set-order")) }) h.objs.size [] :=
  ⟨(#[], 0, _), Heap.get?_push_size _ rfl, TxOk.nil (by rfl), List.Pairwise.nil, by
    show _ ∨ (!w.params.followText "set-order") = true
    cases w.params.followText "set-order"
    · exact .inr rfl
    · exact .inl rfl, .nil⟩
theorem strs_get : ∀ {vs : List Value} {ss : List Str}, StrsAre vs ss → ∀ (i : Nat) (v : Value), vs[i]? = some v → ∃ k t, ss[i]? = some k ∧ v = .str k t
  | _, _, .nil, i, v, e => by simp at e
  | _, _, .cons x t r, 0, v, e => by simp at e; exact ⟨x, t, rfl, e.symm⟩
  | _, _, .cons x t r, i + 1, v, e => by
    obtain ⟨k, u, h1, h2⟩ := strs_get r i v (by simpa using e)
    exact ⟨k, u, by simpa using h1, h2⟩
set_option maxRecDepth 100000 in
set_option maxHeartbeats 3200000 in
theorem call_set_strs {l : Addr} {items : Array Value} {ss : List Str} {Q : Value → Shared → Prop}
    (hh : A.handled = none) (hl : s.heap.IsList l items) (hi : StrsAre items.toList ss) (hb : items.size + 1 < scanBound)
    (h : ∀ (h' : Heap) (tk : Nat), SSt P w h' s.heap.objs.size (metS ss ss.length) →
      (∀ b o, b < s.heap.objs.size → s.heap.get? b = some o → h'.get? b = some o) → Q (.ref s.heap.objs.size) { s with heap := h', toks := tk }) :
    wpAny (model P w) A (call (.type "set") [.ref l]) Q E s := by
  have hlen : ss.length = items.size := by rw [← Array.length_toList]; exact hi.length.symm
  obtain ⟨c, tl, hmro⟩ := F.called_set.mro
  have hmade := F.called_set.made
  have hsub := F.called_set.sub
  refine wpAny_call (codeAny_of_tree ?_)
  show wpAny _ _ (callAny (.type "set") _) _ _ _
  refine wpAny_pure ⟨Code.quiet_builtin _ (by decide +kernel), codeAny_builtin F.entry_type_call ?_⟩
  rw [Around.under_plain (weight_type_call_type "set" [.ref l] []) rfl]
  have h1 := F.called_set.notType
  have h2 := F.called_set.canCreate
  have hct := F.typeCall_set_1 (.ref l)
  repeat (any_goals (first | assumption | wp_step))
  refine codeAny_mono (code_set_led1 (.ref l) (E := E) (Q₁ := fun obj s₁ => obj = .ref s.heap.objs.size ∧ s₁ = { s with heap := s.heap.push { cls := .type "set", dict := none, data := .set #[] 0 (.fresh 0 0 (!w.params.followText "set-order")) } }) ⟨rfl, rfl⟩) fun r s₁ hr => ?_
  cases r with
  | error e => exact hr
  | ok fl =>
    cases fl with
    | ret obj =>
      obtain ⟨rfl, rfl⟩ := hr
      have hS0 : SSt P w (s.heap.push { cls := .type "set", dict := none, data := .set #[] 0 (.fresh 0 0 (!w.params.followText "set-order")) }) s.heap.objs.size [] := ss_fresh
      generalize (!w.params.followText "set-order") = led at hS0 ⊢
      have hS : (s.heap.push { cls := .type "set", dict := none, data := .set #[] 0 (.fresh 0 0 led) }).get? s.heap.objs.size = some { cls := .type "set", dict := none, data := .set #[] 0 (.fresh 0 0 led) } := Heap.get?_push_size _ rfl
      have hT : Shared.TypeIs { s with heap := s.heap.push { cls := .type "set", dict := none, data := .set #[] 0 (.fresh 0 0 led) } } (.ref s.heap.objs.size) "set" := ⟨_, hS, rfl⟩
      have hli := F.called_set.init.lookup
      have hbi := F.called_set.init.bind (.ref s.heap.objs.size)
      repeat (any_goals (first | assumption | wp_step))
      refine codeAny_mono (codeAny_call_builtin (R := wants (fun r s₂ => r = .none ∧ ∃ h' tk, s₂ = { s with heap := h', toks := tk } ∧
          SSt P w h' s.heap.objs.size (metS ss ss.length) ∧ (∀ b o, b < s.heap.objs.size → s.heap.get? b = some o → h'.get? b = some o)) E) F.called_set.init.plain F.entry_set_init (check_set_init_1 hT ?_)) fun r₂ s₂ hr₂ => ?_
      · obtain ⟨ol, hol, hcl, nl, hdl⟩ := hl
        obtain ⟨ocls, odict, odata, oslots⟩ := ol
        simp only at hcl hdl
        subst hcl; subst hdl
        have hol' : (s.heap.push { cls := .type "set", dict := none, data := .set #[] 0 (.fresh 0 0 led) }).get? l = some { cls := .type "list", dict := odict, data := .seq items nl, slots := oslots } := Heap.get?_push_of_some _ hol
        have hsls := F.sub_list_set
        have hslf := F.sub_list_frozenset
        have hne : (Value.type "list" == Value.type "dict") = false := by decide
        have hl1 : (s.heap.push { cls := .type "set", dict := none, data := .set #[] 0 (.fresh 0 0 led) }).IsList l items := ⟨_, hol', rfl, nl, rfl⟩
        unfold Builtin.«set.__init__» noKeywords Builtin.Frozenset.updateFrom
        generalize hPI : pyIter = PI
        wp_walk
        subst hPI
        refine wpAny_pyIter_list hl1 ?_
        refine wpAny_bind (wpAny_runValue ?_)
        have hlS : l < s.heap.objs.size := Heap.lt_size hol
        have hh3 : A.in1.in1.in1.handled = none := by simp [hh]
        have hneI : l ≠ (s.heap.push { cls := .type "set", dict := none, data := .set #[] 0 (.fresh 0 0 led) }).objs.size := by
          rw [Heap.size_push]; exact Nat.ne_of_lt (Nat.lt_succ_of_lt hlS)
        have hSf : s.heap.objs.size ∉ [(s.heap.push { cls := .type "set", dict := none, data := .set #[] 0 (.fresh 0 0 led) }).objs.size, l] := by
          rw [Heap.size_push]; simp only [List.mem_cons, List.mem_singleton, List.not_mem_nil, or_false, not_or]
          exact ⟨Nat.ne_of_lt (Nat.lt_succ_self _), Nat.ne_of_gt hlS⟩
        have hval : ∀ (i : Nat) (v : Value), items[i]? = some v → ∃ k t, ss[i]? = some k ∧ v = .str k t := fun i v hv =>
          strs_get hi i v (by rw [Array.getElem?_toList]; exact hv)
        refine set_loopS ((Walks.list hh3 _ l hneI items).toS) s.heap.objs.size
          hSf ss hlen hval hb (items.size - 0) 0 _ (by omega) (Nat.zero_le _)
          ⟨⟨_, Heap.get?_push_size _ rfl, rfl, rfl⟩, (hl1.push _)⟩ ?hS0 ?hR
        case hS0 => exact hS0.at fun o e => Heap.get?_push_of_some _ e
        case hR =>
          intro s' hm hS'
          obtain ⟨h', g', d', tk', os'⟩ := s'
          have eg : g' = s.gens := hm.gens
          have ed : d' = s.drawn := hm.drawn
          have eo : os' = s.os := hm.os
          subst eg; subst ed; subst eo
          show wpAny _ _ _ _ _ _
          refine wpAny_pure ?_
          show wpAny _ _ (ret Value.none) _ _ _
          refine wpAny_pure ⟨rfl, h', tk', rfl, by rw [hlen]; exact hS', fun b o hb e => ?_⟩
          have hb1 : b ≠ s.heap.objs.size := Nat.ne_of_lt hb
          have hb2 : b ≠ (s.heap.push { cls := .type "set", dict := none, data := .set #[] 0 (.fresh 0 0 led) }).objs.size := by
            rw [Heap.size_push]; exact Nat.ne_of_lt (Nat.lt_succ_of_lt hb)
          exact hm.heap b o (by simp only [List.mem_cons, List.mem_singleton, List.not_mem_nil, or_false, not_or]; exact ⟨hb1, hb2⟩) (Heap.get?_push_of_some _ (Heap.get?_push_of_some _ e))
      · cases r₂ with
        | error e => exact hr₂
        | ok fl₂ =>
          cases fl₂ with
          | ret r =>
            obtain ⟨rfl, h', tk, rfl, hS', hk'⟩ := hr₂
            repeat (any_goals (first | assumption | wp_step))
            exact h _ _ hS' hk'
          | _ => exact hr₂.elim
    | _ => exact hr.elim
end
section
variable {X : Cx}
/-- the set of the texts l at a -/
def SetO' (P : Program) (w : World) (a : Addr) (l : List Str) : HO := .ext fun h => SSt P w h a l
def rSetS (P : Program) (w : World) : List V → Hp → VK → Prop := fun vs H Q => ∃ (p : Addr) (ss : List Str), vs = [.ref p] ∧ H p = some (.lst (ss.map V.str)) ∧ ss.length ≤ 1000 ∧
  ∀ a, H a = none → Q (.ref a) (upd H a (SetO' P w a (metS ss ss.length)))
theorem cr_setS (hc : X.calm = true) : CallR X (.type "set") (rSetS X.prog X.w) := by
  intro pins s σ H vs us Q I r h
  obtain ⟨p, ss, rfl, hp, hl, q⟩ := h
  obtain ⟨u, rfl, rx⟩ := vals1 r
  cases rx
  obtain ⟨its, rv, pl, hz⟩ := I.list (.of hp)
  have hn : its.length = ss.length := by have := rv.length; rw [List.length_map] at this; exact this.symm
  refine call_set_strs (I.ok.hd hc) pl.isList rv.strs (by rw [List.size_toArray, hn]; unfold scanBound; omega) fun h' tk R k => ?_
  have hk : ∀ b o, s.heap.get? b = some o → h'.get? b = some o := fun b o e => k b o (Heap.lt_size e) e
  refine ⟨.ref s.heap.objs.size, _, I.laid (a := s.heap.objs.size) (o := SetO' X.prog X.w s.heap.objs.size (metS ss ss.length)) (t' := tk) hk (Nat.le_refl _) ⟨R, ?_, fun h1 h2 p k => p.at k⟩, rfl, q _ (I.hok.fresh (Nat.le_refl _))⟩
  obtain ⟨D, ho, _⟩ := R
  exact ⟨_, ho⟩
/-- sorted of such a set, fewer than 64 members -/
def rSortedSet' (P : Program) (w : World) : List V → Hp → VK → Prop := fun vs H Q => ∃ (a : Addr) (l : List Str), vs = [V.ref a] ∧ H a = some (SetO' P w a l) ∧ l.length < 64 ∧
  ∀ (ys : List Str) (p : Addr), ys.Perm l → sortedS ys = true → H p = none → Q (.ref p) (upd H p (.lst (ys.map V.str)))
theorem strs_list {P : Program} {w : World} : ∀ (vs : List Value), (∀ v ∈ vs, ∃ k, (strKind P w).is k v = true) → ∃ ss, StrsAre vs ss ∧ ∀ k, k ∈ ss ↔ ∃ v ∈ vs, (strKind P w).is k v = true
  | [], _ => ⟨[], .nil, fun k => by simp⟩
  | v :: vs, h => by
    obtain ⟨k, hk⟩ := h v List.mem_cons_self
    obtain ⟨t, rfl⟩ := Value.isStrOf_shape (x := k) (v := v) hk
    obtain ⟨ss, h1, h2⟩ := strs_list vs fun u hu => h u (List.mem_cons_of_mem _ hu)
    refine ⟨k :: ss, .cons k t h1, fun x => ?_⟩
    rw [List.mem_cons, h2]
    constructor
    · rintro (rfl | ⟨u, hu, z⟩)
      · exact ⟨_, List.mem_cons_self, hk⟩
      · exact ⟨u, List.mem_cons_of_mem _ hu, z⟩
    · rintro ⟨u, hu, z⟩
      rcases List.mem_cons.mp hu with e | hu
      · subst e
        exact .inl ((strKind P w).inj _ _ _ z hk)
      · exact .inr ⟨u, hu, z⟩
theorem perm_sub : ∀ {l ss : List Str}, l.Nodup → (∀ k ∈ l, k ∈ ss) → ss.length ≤ l.length → l.Perm ss
  | [], ss, _, _, h => by
    cases ss with
    | nil => exact .nil
    | cons _ _ => simp at h
  | k :: l, ss, nd, hs, h => by
    obtain ⟨n1, n2⟩ := List.nodup_cons.mp nd
    have hk := hs k List.mem_cons_self
    have p := List.perm_cons_erase hk
    refine (List.Perm.cons k (perm_sub n2 (fun x hx => (List.mem_erase_of_ne (fun z => n1 (by rw [← z]; exact hx))).mpr (hs x (List.mem_cons_of_mem _ hx))) ?_)).trans p.symm
    have := p.length_eq
    simp at this h ⊢
    omega
theorem cr_sortedSet' (hc : X.calm = true) : CallR X (.builtin "sorted") (rSortedSet' X.prog X.w) := by
  intro pins s σ H vs us Q I r h
  obtain ⟨a, l, rfl, ha, h64, q⟩ := h
  obtain ⟨D, ho, F, hr, hl, nd⟩ := (I.hok a _ ha).1
  rw [Vals.ref1 r]
  have hsz : D.1.size = l.length := F.sz
  refine Calls.call_function_entry PyProof.Rows.kind_sorted PyProof.Rows.plain_sorted PyProof.Rows.entry_sorted (PyProof.Rows.args_sorted1 _) ?_
  unfold Builtin.«sorted»
  refine wpAny_bind (m := checkCount "sorted" 1 1 _) (wpAny_pure ?_)
  refine wpAny_bind (collect_set (A := X.A.in1) (I.ok.hd hc) ⟨_, ho, rfl, rfl⟩ F.fit (by rw [hsz]; unfold scanBound; omega) hr hl fun s1 vs k1 hz g1 o1 pm => ?_)
  have hvl : vs.length = l.length := by rw [pm.length_eq, List.length_map, Array.length_toList]; exact hsz
  obtain ⟨ss, hS, hm⟩ := strs_list (P := X.prog) (w := X.w) vs fun v hv => by
    obtain ⟨e, he, q⟩ := List.mem_map.mp (pm.mem_iff.mp hv)
    rw [← q]
    exact ⟨_, (F.el e he).1.choose_spec.1⟩
  have hsl : ss.length = l.length := by rw [← hS.length]; exact hvl
  have hperm : ss.Perm l := by
    have sub : ∀ k, k ∈ l ↔ k ∈ ss := fun k => by
      rw [hm, F.mem]
      constructor
      · rintro ⟨e, he, z⟩
        exact ⟨e.2, pm.mem_iff.mpr (List.mem_map.mpr ⟨e, he, rfl⟩), z⟩
      · rintro ⟨v, hv, z⟩
        obtain ⟨e, he, q⟩ := List.mem_map.mp (pm.mem_iff.mp hv)
        exact ⟨e, he, by rw [q]; exact z⟩
    exact (perm_sub nd (fun k hk => (sub k).mp hk) (by omega)).symm
  refine wpAny_bind (wpAny_newList ?_ (by rw [hvl, sizeLine_eq]; omega))
  have hoL : (s1.heap.push (seqObj "list" vs.toArray 0)).get? s1.heap.objs.size = some (seqObj "list" vs.toArray 0) := Heap.get?_push_size _ rfl
  refine wpAny_bind (wpAny_holding (wpAny_call_entry PyProof.Rows.slot_list_sort ⟨_, hoL, rfl⟩ PyProof.Rows.entry_list_sort
    (list_sort_treeK strKind_oneLt hoL hS.keysOf (fun v₁ v₂ rest e => keyKind_strs (by rw [← e]; exact hS)) (by rw [hvl]; exact h64) fun st' hp hs => ⟨_, rfl, ?_⟩) (PyProof.Rows.args_list_sort _)))
  obtain ⟨ys, g1', g2, g3⟩ := sorted_out_str hS hp hs
  obtain ⟨e', he'⟩ := PyProof.Rows.sortedHeap_at (vs := vs) (out := (arrOf st').map (·.2)) hoL
  have hlen : (ys.map V.str).length ≤ sizeLine := by
    rw [List.length_map, g2.length_eq, hsl]
    exact Nat.le_trans (Nat.le_of_lt h64) (by decide)
  have kk : ∀ b u, s.heap.get? b = some u → (PyProof.Rows.sortedHeap (s1.heap.push (seqObj "list" vs.toArray 0)) s1.heap.objs.size vs ((arrOf st').map (·.2))).get? b = some u := fun b u e => by
    have q := k1 b u e
    have hlt := Heap.lt_size q
    rw [PyProof.Rows.sortedHeap_old (Nat.ne_of_lt hlt) (by rw [size_push']; exact Nat.lt_succ_of_lt hlt)]
    exact Heap.get?_push_of_some _ q
  have hn : H s1.heap.objs.size = none := I.hok.fresh hz
  refine wpAny_pure ?_
  have J : Inv X pins σ (upd H s1.heap.objs.size (.lst (ys.map V.str))) { s with heap := (PyProof.Rows.sortedHeap (s1.heap.push (seqObj "list" vs.toArray 0)) s1.heap.objs.size vs ((arrOf st').map (·.2))), gens := s1.gens, drawn := s1.drawn, toks := s1.toks } :=
    I.call (ch := []) (Un.laid kk hz hn) (I.hok.laid kk hz ⟨hlen, ((arrOf st').map (·.2)).toList, e', vals_of_strs g1', by rw [Array.toArray_toList]; exact he'⟩) (by rw [g1]; exact I.bare) (fun _ z => nomatch z)
  have q' := q ys s1.heap.objs.size (g2.trans hperm) g3 hn
  cases s1
  cases s
  cases o1
  cases g1
  exact ⟨_, rfl, .ref _, _, J, rfl, q'⟩
end
end L2.Dx

set_option Elab.async false
set_option linter.all false
set_option maxRecDepth 100000
set_option maxHeartbeats 4000000
/-! values as data: what stands at an address read as a tree; an environment of such trees; what an expression, a statement gives as a plain function of the environment -/
namespace L2.Vs
open PySem PySem.Spec PyProof.Rows L2 L2.Dx
/-- it stands at a, or, where p, it is locked there -/
def Rd' (H : Hp) (a : Addr) (o : HO) (p : Prop) : Prop := H a = some o ∨ (p ∧ ∃ ob, H a = some (.frz ob o))
theorem Rd'.rd {H : Hp} {a : Addr} {o : HO} {p : Prop} (h : Rd' H a o p) : Rd H a o := h.imp id fun z => z.2
mutual
inductive At (K : PySem.W.Frag) (H : Hp) : V → PyData → Prop
  | non : At K H .non .none
  | bl (b : Bool) : At K H (.bl b) (.bool b)
  | int (i : Int) : At K H (.int i) (.int i)
  | str (x : Str) : At K H (.str x) (.str x)
  | lst {a : Addr} {xs : List V} {ds : List PyData} : H a = some (.lst xs) → AtAll K H xs ds → At K H (.ref a) (.list ds)
  | tup {a : Addr} {xs : List V} {ds : List PyData} : H a = some (.tup xs) → AtAll K H xs ds → At K H (.ref a) (.tuple ds)
  | dk {a : Addr} {ks : List Key} {vs : List V} {ds : List PyData} : Rd' H a (.dK (ks.zip vs)) (ks ≠ []) → ks.length = vs.length → AtAll K H vs ds → At K H (.ref a) (.dict ((ks.map kD).zip ds))
  | dt {a : Addr} {ks : List (List Key)} {vs : List V} {ds : List PyData} : Rd' H a (.dT (ks.zip vs)) (ks ≠ []) → ks.length = vs.length → AtAll K H vs ds → At K H (.ref a) (.dict ((ks.map fun k => PyData.tuple (k.map kD)).zip ds))
inductive AtAll (K : PySem.W.Frag) (H : Hp) : List V → List PyData → Prop
  | nil : AtAll K H [] []
  | cons {v : V} {vs : List V} {d : PyData} {ds : List PyData} : At K H v d → AtAll K H vs ds → AtAll K H (v :: vs) (d :: ds)
end
theorem rd_same {H H' : Hp} {a : Addr} {o : HO} {p : Prop} (s : Same H H') (h : Rd' H a o p) : Rd' H' a o p := h.imp (s _ _) fun ⟨q, ob, e⟩ => ⟨q, ob, s _ _ e⟩
section
variable {K : PySem.W.Frag} {H H' : Hp}
mutual
theorem At.same (s : Same H H') : ∀ {v : V} {d : PyData}, At K H v d → At K H' v d
  | _, _, .non => .non
  | _, _, .bl b => .bl b
  | _, _, .int i => .int i
  | _, _, .str x => .str x
  | _, _, .lst h1 h2 => .lst (s _ _ h1) (AtAll.same s h2)
  | _, _, .tup h1 h2 => .tup (s _ _ h1) (AtAll.same s h2)
  | _, _, .dk h1 h2 h3 => .dk (rd_same s h1) h2 (AtAll.same s h3)
  | _, _, .dt h1 h2 h3 => .dt (rd_same s h1) h2 (AtAll.same s h3)
theorem AtAll.same (s : Same H H') : ∀ {vs : List V} {ds : List PyData}, AtAll K H vs ds → AtAll K H' vs ds
  | _, _, .nil => .nil
  | _, _, .cons h1 h2 => .cons (At.same s h1) (AtAll.same s h2)
end
theorem AtAll.length : ∀ {vs : List V} {ds : List PyData}, AtAll K H vs ds → vs.length = ds.length
  | _, _, .nil => rfl
  | _, _, .cons _ h => congrArg (· + 1) (AtAll.length h)
theorem AtAll.get : ∀ {vs : List V} {ds : List PyData} {i : Nat} {d : PyData}, AtAll K H vs ds → ds[i]? = some d → ∃ v, vs[i]? = some v ∧ At K H v d
  | _, _, _, _, .nil, e => by simp at e
  | _, _, 0, _, .cons h _, e => by simp at e; subst e; exact ⟨_, rfl, h⟩
  | _, _, i + 1, d, .cons _ t, e => by
    obtain ⟨v, h1, h2⟩ := AtAll.get (i := i) (d := d) t (by simpa using e)
    exact ⟨v, by simpa using h1, h2⟩
theorem AtAll.append : ∀ {vs ws : List V} {ds es : List PyData}, AtAll K H vs ds → AtAll K H ws es → AtAll K H (vs ++ ws) (ds ++ es)
  | _, _, _, _, .nil, s => s
  | _, _, _, _, .cons r t, s => .cons r (AtAll.append t s)
theorem AtAll.take : ∀ {vs : List V} {ds : List PyData} (n : Nat), AtAll K H vs ds → AtAll K H (vs.take n) (ds.take n)
  | _, _, 0, _ => .nil
  | _, _, _ + 1, .nil => .nil
  | _, _, n + 1, .cons r t => .cons r (AtAll.take n t)
theorem AtAll.drop : ∀ {vs : List V} {ds : List PyData} (n : Nat), AtAll K H vs ds → AtAll K H (vs.drop n) (ds.drop n)
  | _, _, 0, r => r
  | _, _, _ + 1, .nil => .nil
  | _, _, n + 1, .cons _ t => AtAll.drop n t
theorem AtAll.one {v : V} {d : PyData} (h : At K H v d) : AtAll K H [v] [d] := .cons h .nil
end
section
variable {X : Cx} {pins : List (Addr × Obj)} {σ : St} {H : Hp} {s : Shared}
theorem rdx_key (h : Heap) : ∀ {k : Key} {v : Value}, keyIs k v = true → RdX h v (kD k)
  | k, v, e => by
    rcases keyIs_shape e with ⟨i, t, rfl, rfl⟩ | ⟨x, t, rfl, rfl⟩
    · exact .int i t
    · exact .str x t
theorem rdx_pairs {prog : Program} {w : World} (h : Heap) : ∀ {es : List DictEntry} {kvs : List (Key × Value)}, Pairs (mixKind prog w) es kvs → RdXs h (es.map (·.key)) (kvs.map fun p => kD p.1) ∧ es.map (·.val) = kvs.map (·.2)
  | _, _, .nil => ⟨.nil, rfl⟩
  | _, _, .cons h1 h2 h3 => ⟨.cons (rdx_key h h1) (rdx_pairs h h3).1, by rw [List.map_cons, List.map_cons, h2, (rdx_pairs h h3).2]⟩
theorem kv_vals : ∀ {kvs : List (Key × V)} {vs : List (Key × Value)}, KV kvs vs → Vals (kvs.map (·.2)) (vs.map (·.2)) ∧ vs.map (·.1) = kvs.map (·.1)
  | _, _, .nil => ⟨.nil, rfl⟩
  | _, _, .cons r t => ⟨.cons r.2 (kv_vals t).1, by rw [List.map_cons, List.map_cons, r.1, (kv_vals t).2]⟩
theorem zip_fst {α β : Type} : ∀ {l : List α} {m : List β}, l.length = m.length → (l.zip m).map (·.1) = l
  | [], _, _ => by simp
  | a :: l, [], h => by simp at h
  | a :: l, b :: m, h => by simp [zip_fst (l := l) (m := m) (by simpa using h)]
theorem zip_snd {α β : Type} : ∀ {l : List α} {m : List β}, l.length = m.length → (l.zip m).map (·.2) = m
  | [], [], _ => rfl
  | [], b :: m, h => by simp at h
  | a :: l, [], h => by simp at h
  | a :: l, b :: m, h => by simp [zip_snd (l := l) (m := m) (by simpa using h)]
mutual
theorem At.rd (I : Inv X pins σ H s) : ∀ {v : V} {d : PyData} {u : Value}, At X.K H v d → RelV v u → RdX s.heap u d
  | _, _, _, .non, r => by cases r; exact .none
  | _, _, _, .bl b, r => by cases r; exact .bool b
  | _, _, _, .int i, r => by obtain ⟨t, rfl⟩ := r; exact .int i t
  | _, _, _, .str x, r => by obtain ⟨t, rfl⟩ := r; exact .str x t
  | _, _, _, .lst hs ha, r => by
    cases r
    obtain ⟨its, rv, ⟨o, n, ho, hc, _, hd⟩, _⟩ := I.list (.of hs)
    exact .list ho hc hd (AtAll.rd I ha rv)
  | _, _, _, .tup hs ha, r => by
    cases r
    obtain ⟨its, rv, ⟨o, ho, hc, n, hd⟩, _⟩ := I.tuple (.of hs)
    exact .tuple ho hc hd (AtAll.rd I ha rv)
  | _, _, _, .dk (ks := ks) (vs := ws) (ds := ds) hs hk hv, r => by
    cases r
    obtain ⟨_, y, vs, kv, o, es, ep, h1, h2, h3, _, h5, _⟩ := (show ObjOk X.prog X.w H s.heap _ (.dK (ks.zip ws)) from hs.rd.ok I.hok)
    obtain ⟨p1, p2⟩ := rdx_pairs s.heap h5
    obtain ⟨v1, v2⟩ := kv_vals kv
    have L := AtAll.length hv
    rw [zip_snd hk] at v1
    rw [zip_fst hk] at v2
    refine .dict h1 h2.1 h3 y ?_ ?_
    · rw [zip_fst (by rw [List.length_map, hk, L])]
      have z := congrArg (List.map kD) v2
      rw [← z]
      simpa [List.map_map, Function.comp_def] using p1
    · rw [p2, zip_snd (by rw [List.length_map, hk, L])]
      exact AtAll.rd I hv v1
  | _, _, _, .dt (ks := ks) (vs := ws) (ds := ds) hs hk hv, r => by
    cases r
    obtain ⟨_, y, xs, kt, o, es, ep, h1, h2, h3, h4, _, _⟩ := dt_rd I.hok hs.rd
    have vals : ∀ {l : List (List Key × V)} {m : List (List Key × Addr × Value)}, KT H l m → Vals (l.map (·.2)) (m.map (·.2.2)) ∧ RdXs s.heap (m.map fun x => Value.ref x.2.1) ((l.map (·.1)).map fun k => PyData.tuple (k.map kD)) := by
      intro l m q
      induction q with
      | nil => exact ⟨.nil, .nil⟩
      | @cons p q ps qs hq t ih =>
        obtain ⟨e1, e2, e3⟩ := hq
        obtain ⟨_, its, rv, o', g1, g2, n, g3⟩ := (show ObjOk X.prog X.w H s.heap q.2.1 (.tup (p.1.map kV)) from I.hok _ _ e2)
        exact ⟨.cons e3 ih.1, .cons (.tuple g1 g2 g3 (rdxs_keys _ rv)) ih.2⟩
    obtain ⟨v1, v2⟩ := vals kt
    have L := AtAll.length hv
    rw [zip_snd hk] at v1
    rw [zip_fst hk] at v2
    refine .dict h1 h2.1 h3 y ?_ ?_
    · rw [h4, List.map_map, zip_fst (by rw [List.length_map, hk, L])]
      exact v2
    · rw [h4, List.map_map, zip_snd (by rw [List.length_map, hk, L])]
      exact AtAll.rd I hv v1
theorem AtAll.rd (I : Inv X pins σ H s) : ∀ {vs : List V} {ds : List PyData} {us : List Value}, AtAll X.K H vs ds → Vals vs us → RdXs s.heap us ds
  | _, _, _, .nil, r => by cases r; exact .nil
  | _, _, _, .cons h1 h2, r => by
    cases r with
    | cons r1 r2 => exact .cons (At.rd I h1 r1) (AtAll.rd I h2 r2)
end
theorem At.reads (I : Inv X pins σ H s) {v : V} {d : PyData} {u : Value} (h : At X.K H v d) (r : RelV v u) : ∃ as, Reads s.heap u d as := (h.rd I r).reads
end
theorem AtAll.getV {K : PySem.W.Frag} {H : Hp} : ∀ {vs : List V} {ds : List PyData} {i : Nat} {v : V}, AtAll K H vs ds → vs[i]? = some v → ∃ d, ds[i]? = some d ∧ At K H v d
  | _, _, _, _, .nil, e => by simp at e
  | _, _, 0, _, .cons h _, e => by simp at e; subst e; exact ⟨_, rfl, h⟩
  | _, _, i + 1, v, .cons _ t, e => by
    obtain ⟨d, h1, h2⟩ := AtAll.getV (i := i) (v := v) t (by simpa using e)
    exact ⟨d, by simpa using h1, h2⟩
theorem sqT_same {K : PySem.W.Frag} {H H' : Hp} {a : Addr} {xs : List V} (e : Same H H') (h : SqT K H a xs) : SqT K H' a xs := by
  rcases h with (h | ⟨o, h⟩) | h
  · exact .inl (.inl (e _ _ h))
  · exact .inl (.inr ⟨o, e _ _ h⟩)
  · exact .inr h
def nt : HO → Bool
  | .tup _ => false
  | _ => true
/-! environments -/
inductive Sl where
  | un | dat (d : PyData) | lst (xs : List PyData) | dct (t : Bool) (kvs : List (PyData × PyData))
def Sl.cell : Sl → Bool
  | .lst _ => true | .dct _ _ => true | _ => false
abbrev Env := List Sl
abbrev Ads := Addr → Prop
/-- the heap without the cells in X -/
noncomputable def Hm (H : Hp) (X : Ads) : Hp := fun a => open Classical in if X a then none else H a
abbrev addX (X : Ads) (p : Addr) : Ads := fun a => a = p ∨ X a
abbrev orX (O A : Ads) : Ads := fun a => O a ∨ A a
theorem hm_in {H : Hp} {X : Ads} {a : Addr} (h : ¬ X a) : Hm H X a = H a := if_neg h
theorem hm_some {H : Hp} {X : Ads} {a : Addr} {o : HO} (h : Hm H X a = some o) : ¬ X a ∧ H a = some o := by
  unfold Hm at h
  split at h
  · cases h
  · rename_i n
    exact ⟨n, h⟩
theorem hm_sub (H : Hp) (X : Ads) : Same (Hm H X) H := fun _ _ h => (hm_some h).2
theorem hm_le {H : Hp} {X Y : Ads} (h : ∀ a, Y a → X a) : Same (Hm H X) (Hm H Y) := fun a o e => by
  obtain ⟨n, e⟩ := hm_some e
  rw [hm_in fun z => n (h a z)]
  exact e
theorem hm_same {H H' : Hp} {X : Ads} (s : Same H H') : Same (Hm H X) (Hm H' X) := fun a o h => by
  obtain ⟨n, e⟩ := hm_some h
  rw [hm_in n]
  exact s _ _ e
/-- a dict that is this def's own: t, its keys are tuples -/
def DctAt (K : PySem.W.Frag) (Ht : Hp) (o : HO) : Bool → List (PyData × PyData) → Prop
  | true, kvs => ∃ (ks : List (List Key)) (vs : List V) (ds : List PyData), o = .dT (ks.zip vs) ∧ ks.length = vs.length ∧ AtAll K Ht vs ds ∧ kvs = (ks.map fun k => PyData.tuple (k.map kD)).zip ds
  | false, kvs => ∃ (ks : List Key) (vs : List V) (ds : List PyData), o = .dK (ks.zip vs) ∧ ks.length = vs.length ∧ AtAll K Ht vs ds ∧ kvs = (ks.map kD).zip ds
theorem DctAt.same {K : PySem.W.Frag} {H H' : Hp} {o : HO} {t : Bool} {kvs : List (PyData × PyData)} (h : DctAt K H o t kvs) (s : Same H H') : DctAt K H' o t kvs := by
  cases t with
  | true => obtain ⟨ks, vs, ds, h1, h2, h3, h4⟩ := h; exact ⟨ks, vs, ds, h1, h2, h3.same s, h4⟩
  | false => obtain ⟨ks, vs, ds, h1, h2, h3, h4⟩ := h; exact ⟨ks, vs, ds, h1, h2, h3.same s, h4⟩
theorem DctAt.nt {K : PySem.W.Frag} {H : Hp} {o : HO} {t : Bool} {kvs : List (PyData × PyData)} (h : DctAt K H o t kvs) : nt o = true := by
  cases t with
  | true => obtain ⟨ks, vs, ds, rfl, _⟩ := h; rfl
  | false => obtain ⟨ks, vs, ds, rfl, _⟩ := h; rfl
theorem DctAt.ne {K : PySem.W.Frag} {H : Hp} {t : Bool} {kvs : List (PyData × PyData)} {vs : List V} (h : DctAt K H (.lst vs) t kvs) : False := by
  cases t with
  | true => obtain ⟨ks, vs, ds, h, _⟩ := h; cases h
  | false => obtain ⟨ks, vs, ds, h, _⟩ := h; cases h
def SlAt (K : PySem.W.Frag) (A : Ads) (H : Hp) (O : Ads) (v : Option V) : Sl → Prop
  | .un => True
  | .dat d => ∃ x, v = some x ∧ At K (Hm H (orX O A)) x d
  | .lst xs => ∃ a vs, v = some (.ref a) ∧ O a ∧ H a = some (.lst vs) ∧ AtAll K (Hm H (orX O A)) vs xs
  | .dct t kvs => ∃ a o, v = some (.ref a) ∧ O a ∧ H a = some o ∧ DctAt K (Hm H (orX O A)) o t kvs
def vAt (σ : St) (i : Nat) : Option V := (σ[i]?).join
/-- H0: the heap at the entry, A: cells of others that the arguments don't reach; O: this def's own cells -/
structure Rep (K : PySem.W.Frag) (H0 : Hp) (A : Ads) (H : Hp) (σ : St) (env : Env) (O : Ads) : Prop where
  len : env.length = σ.length
  sl : ∀ i s, env[i]? = some s → SlAt K A H O (vAt σ i) s
  dj : ∀ i j a s t, i ≠ j → env[i]? = some s → env[j]? = some t → s.cell = true → t.cell = true → vAt σ i = some (.ref a) → vAt σ j ≠ some (.ref a)
  ent : ∀ a o, H0 a = some o → ¬ O a ∧ H a = some o
  inA : ∀ a, A a → ∃ o, H0 a = some o ∧ nt o = true
  inO : ∀ a, O a → ∃ o, H a = some o ∧ nt o = true
theorem vAt_of {σ : St} {i : Nat} {x : V} (h : vAt σ i = some x) : σ[i]? = some (some x) := by
  unfold vAt at h
  cases e : σ[i]? with
  | none => rw [e] at h; cases h
  | some y => rw [e] at h; exact congrArg some h
theorem vAt_eq {σ : St} {i : Nat} {x : V} (h : σ[i]? = some (some x)) : vAt σ i = some x := by
  unfold vAt
  rw [h]
  rfl
section
variable {K : PySem.W.Frag} {H0 H H' : Hp} {σ : St} {env : Env} {A O : Ads}
theorem SlAt.mono {O' : Ads} {v : Option V} {s : Sl} (h : SlAt K A H O v s) (hd : Same (Hm H (orX O A)) (Hm H' (orX O' A))) (hc : ∀ a o, O a → H a = some o → O' a ∧ H' a = some o) : SlAt K A H' O' v s := by
  cases s with
  | un => trivial
  | dat d => exact h.elim fun x ⟨e, z⟩ => ⟨x, e, z.same hd⟩
  | lst xs => exact h.elim fun a ⟨vs, e, xa, ha, z⟩ => ⟨a, vs, e, (hc a _ xa ha).1, (hc a _ xa ha).2, z.same hd⟩
  | dct t kvs => exact h.elim fun a ⟨o, e, xa, ha, z⟩ => ⟨a, o, e, (hc a _ xa ha).1, (hc a _ xa ha).2, z.same hd⟩
theorem Rep.same (R : Rep K H0 A H σ env O) (s : Same H H') : Rep K H0 A H' σ env O :=
  ⟨R.len, fun i t e => (R.sl i t e).mono (hm_same s) fun a o xa ha => ⟨xa, s _ _ ha⟩, R.dj, fun a o e => ⟨(R.ent a o e).1, s _ _ (R.ent a o e).2⟩, R.inA, fun a h => (R.inO a h).elim fun o e => ⟨o, s _ _ e.1, e.2⟩⟩
theorem Rep.inX (R : Rep K H0 A H σ env O) (a : Addr) (h : orX O A a) : ∃ o, H a = some o ∧ nt o = true := h.elim (R.inO a) fun z => (R.inA a z).elim fun o e => ⟨o, (R.ent a o e.1).2, e.2⟩
theorem Rep.apart (R : Rep K H0 A H σ env O) {a : Addr} (h : O a) : ¬ A a := fun z => (R.inA a z).elim fun o e => (R.ent a o e.1).1 h
theorem hm_new {p : Addr} (s : Same H H') (hp : H p = none) : Same (Hm H (orX O A)) (Hm H' (orX (addX O p) A)) := fun a o h => by
  obtain ⟨n, e⟩ := hm_some h
  rw [hm_in (fun z => z.elim (fun z => z.elim (fun z => by rw [z, hp] at e; cases e) fun z => n (.inl z)) fun z => n (.inr z))]
  exact s _ _ e
theorem Rep.add (R : Rep K H0 A H σ env O) (s : Same H H') {p : Addr} (hp : H p = none) (hp' : ∃ o, H' p = some o ∧ nt o = true) : Rep K H0 A H' σ env (addX O p) :=
  ⟨R.len, fun i t e => (R.sl i t e).mono (hm_new s hp) fun a o xa ha => ⟨.inr xa, s _ _ ha⟩, R.dj, fun a o e => ⟨fun z => z.elim (fun z => by rw [z] at e; rw [(R.ent p o e).2] at hp; cases hp) (R.ent a o e).1, s _ _ (R.ent a o e).2⟩, R.inA,
    fun a h => h.elim (fun z => by rw [z]; exact hp') fun z => (R.inO a z).elim fun o e => ⟨o, s _ _ e.1, e.2⟩⟩
theorem Rep.entH (R : Rep K H0 A H σ env O) : Same H0 H := fun a o e => (R.ent a o e).2
/-- the same, with what stands now for the entry -/
theorem Rep.now (R : Rep K H0 A H σ env O) : Rep K (Hm H O) A H σ env O :=
  ⟨R.len, R.sl, R.dj, fun a o e => hm_some e, fun a h => (R.inA a h).elim fun o e => ⟨o, by rw [hm_in (R.ent a o e.1).1]; exact (R.ent a o e.1).2, e.2⟩, R.inO⟩
theorem Rep.back {H1 : Hp} {O1 : Ads} {σ1 : St} {env1 : Env} (R : Rep K H0 A H1 σ1 env1 O1) (R' : Rep K (Hm H1 O1) A H σ env O) : Rep K H0 A H σ env O :=
  ⟨R'.len, R'.sl, R'.dj, fun a o e => R'.ent a o (by rw [hm_in (R.ent a o e).1]; exact (R.ent a o e).2), R.inA, R'.inO⟩
theorem Rep.still {H1 : Hp} {O1 : Ads} (R' : Rep K (Hm H1 O1) A H σ env O) : Same (Hm H1 (orX O1 A)) (Hm H (orX O A)) := fun a o e => by
  obtain ⟨n, e⟩ := hm_some e
  obtain ⟨n2, e2⟩ := R'.ent a o (by rw [hm_in fun z => n (.inl z)]; exact e)
  rw [hm_in (fun z => z.elim n2 fun z => n (.inr z))]
  exact e2
theorem Rep.dat (R : Rep K H0 A H σ env O) {i : Nat} {d : PyData} (e : env[i]? = some (.dat d)) : ∃ x, σ[i]? = some (some x) ∧ At K (Hm H (orX O A)) x d := by
  obtain ⟨x, h1, h2⟩ := R.sl i _ e
  exact ⟨x, vAt_of h1, h2⟩
theorem Rep.lst (R : Rep K H0 A H σ env O) {i : Nat} {xs : List PyData} (e : env[i]? = some (.lst xs)) : ∃ a vs, σ[i]? = some (some (.ref a)) ∧ O a ∧ H a = some (.lst vs) ∧ AtAll K (Hm H (orX O A)) vs xs := by
  obtain ⟨a, vs, h1, h2, h3, h4⟩ := R.sl i _ e
  exact ⟨a, vs, vAt_of h1, h2, h3, h4⟩
theorem Rep.dct (R : Rep K H0 A H σ env O) {i : Nat} {t : Bool} {kvs : List (PyData × PyData)} (e : env[i]? = some (.dct t kvs)) : ∃ a o, σ[i]? = some (some (.ref a)) ∧ O a ∧ H a = some o ∧ DctAt K (Hm H (orX O A)) o t kvs := by
  obtain ⟨a, o, h1, h2, h3, h4⟩ := R.sl i _ e
  exact ⟨a, o, vAt_of h1, h2, h3, h4⟩
/-- a cell stands somewhere -/
theorem Rep.cell (R : Rep K H0 A H σ env O) {i : Nat} {s : Sl} (e : env[i]? = some s) (c : s.cell = true) : ∃ a o, vAt σ i = some (.ref a) ∧ O a ∧ H a = some o := by
  have h := R.sl i _ e
  cases s with
  | un => cases c
  | dat d => cases c
  | lst xs => obtain ⟨a, vs, h1, h2, h3, _⟩ := h; exact ⟨a, _, h1, h2, h3⟩
  | dct t kvs => obtain ⟨a, o, h1, h2, h3, _⟩ := h; exact ⟨a, o, h1, h2, h3⟩
theorem vAt_set_eq {i : Nat} {v : V} (h : i < σ.length) : vAt (σ.set i (some v)) i = some v := vAt_eq (List.getElem?_set_self h)
theorem vAt_set_ne {i j : Nat} {v : Option V} (h : i ≠ j) : vAt (σ.set i v) j = vAt σ j := by
  unfold vAt
  rw [List.getElem?_set_ne h]
/-- one slot changes -/
theorem Rep.put (R : Rep K H0 A H σ env O) {i : Nat} {v : Option V} {s : Sl} (hs : i < σ.length → SlAt K A H O (vAt (σ.set i v) i) s)
    (hn : ∀ p, s.cell = true → v = some (.ref p) → ∀ j t, j ≠ i → env[j]? = some t → t.cell = true → vAt σ j ≠ some (.ref p)) : Rep K H0 A H (σ.set i v) (env.set i s) O := by
  refine ⟨by rw [List.length_set, List.length_set, R.len], fun j t e => ?_, fun j k a us ys njk ej ek cj ck hj hk => ?_, R.ent, R.inA, R.inO⟩
  · by_cases hji : i = j
    · subst hji
      have hl : i < env.length := by
        have := (List.getElem?_eq_some_iff.mp e).1
        rwa [List.length_set] at this
      rw [List.getElem?_set_self hl] at e
      cases e
      exact hs (by rw [← R.len]; exact hl)
    · rw [List.getElem?_set_ne hji] at e
      rw [vAt_set_ne hji]
      exact R.sl j t e
  · have own : ∀ m zs, i = m → (env.set i s)[m]? = some zs → vAt (σ.set i v) m = some (.ref a) → s = zs ∧ v = some (.ref a) := by
      rintro m zs rfl em hm
      have hl : i < env.length := by
        have := (List.getElem?_eq_some_iff.mp em).1
        rwa [List.length_set] at this
      rw [List.getElem?_set_self hl] at em
      unfold vAt at hm
      rw [List.getElem?_set_self (by rw [← R.len]; exact hl)] at hm
      exact ⟨Option.some.inj em, hm⟩
    by_cases nj : i = j
    · obtain ⟨z1, z2⟩ := own j us nj ej hj
      have nk : i ≠ k := fun z => njk (nj.symm.trans z)
      rw [List.getElem?_set_ne nk] at ek
      rw [vAt_set_ne nk] at hk
      subst z1
      exact hn a cj z2 k ys (Ne.symm nk) ek ck hk
    · by_cases nk : i = k
      · obtain ⟨z1, z2⟩ := own k ys nk ek hk
        rw [List.getElem?_set_ne nj] at ej
        rw [vAt_set_ne nj] at hj
        subst z1
        exact hn a ck z2 j us (Ne.symm nj) ej cj hj
      · rw [List.getElem?_set_ne nj] at ej
        rw [List.getElem?_set_ne nk] at ek
        rw [vAt_set_ne nj] at hj
        rw [vAt_set_ne nk] at hk
        exact R.dj j k a us ys njk ej ek cj ck hj hk
theorem Rep.setD (R : Rep K H0 A H σ env O) {i : Nat} {x : V} {d : PyData} (h : At K (Hm H (orX O A)) x d) : Rep K H0 A H (σ.set i (some x)) (env.set i (.dat d)) O :=
  R.put (fun l => ⟨x, vAt_set_eq l, h⟩) fun _ z => nomatch z
theorem Rep.un (R : Rep K H0 A H σ env O) {i : Nat} (v : Option V) : Rep K H0 A H (σ.set i v) (env.set i .un) O :=
  R.put (fun _ => trivial) fun _ z => nomatch z
/-- a fresh list goes to a slot -/
theorem Rep.newL (R : Rep K H0 A H σ env O) (s : Same H H') {i : Nat} {p : Addr} {vs : List V} {xs : List PyData} (hn : H p = none) (hH : H' p = some (.lst vs)) (h : AtAll K (Hm H' (orX (addX O p) A)) vs xs) :
    Rep K H0 A H' (σ.set i (some (.ref p))) (env.set i (.lst xs)) (addX O p) := by
  refine (R.add s hn ⟨_, hH, rfl⟩).put (fun l => ⟨p, vs, vAt_set_eq l, .inl rfl, hH, h⟩) fun q _ e j ys nj ej cj hj => ?_
  cases e
  obtain ⟨a, us, e1, _, e2⟩ := R.cell ej cj
  rw [e1] at hj
  cases hj
  rw [hn] at e2
  cases e2
/-- a fresh dict goes to a slot -/
theorem Rep.newT (R : Rep K H0 A H σ env O) (s : Same H H') {i : Nat} {p : Addr} {o : HO} {t : Bool} {kvs : List (PyData × PyData)} (hn : H p = none) (hH : H' p = some o) (h : DctAt K (Hm H' (orX (addX O p) A)) o t kvs) :
    Rep K H0 A H' (σ.set i (some (.ref p))) (env.set i (.dct t kvs)) (addX O p) := by
  refine (R.add s hn ⟨_, hH, h.nt⟩).put (fun l => ⟨p, o, vAt_set_eq l, .inl rfl, hH, h⟩) fun q _ e j ys nj ej cj hj => ?_
  cases e
  obtain ⟨a, us, e1, _, e2⟩ := R.cell ej cj
  rw [e1] at hj
  cases hj
  rw [hn] at e2
  cases e2
/-- a cell changes in place -/
theorem Rep.writeC (R : Rep K H0 A H σ env O) {i : Nat} {p : Addr} {s0 s1 : Sl} {o1 : HO} (e : env[i]? = some s0) (c0 : s0.cell = true) (c1 : s1.cell = true) (hi : σ[i]? = some (some (.ref p))) (no : nt o1 = true) (xa : O p)
    (h : Same (Hm H (orX O A)) (Hm (upd H p o1) (orX O A)) → SlAt K A (upd H p o1) O (some (.ref p)) s1) :
    Rep K H0 A (upd H p o1) σ (env.set i s1) O := by
  have hs : Same (Hm H (orX O A)) (Hm (upd H p o1) (orX O A)) := fun b o hb => by
    obtain ⟨n, eb⟩ := hm_some hb
    rw [hm_in n, upd_ne (fun z => n (.inl (by rw [z]; exact xa)))]
    exact eb
  have hl : i < env.length := (List.getElem?_eq_some_iff.mp e).1
  have hv : vAt σ i = some (.ref p) := vAt_eq hi
  refine ⟨by rw [List.length_set, R.len], fun j t ej => ?_, fun j k b us' ys' njk ej ek cj ck => ?_, fun b o eb => ⟨(R.ent b o eb).1, (upd_ne fun z => (R.ent b o eb).1 (by rw [z]; exact xa)).trans (R.ent b o eb).2⟩, R.inA, fun b hb => ?_⟩
  · by_cases hji : i = j
    · subst hji
      rw [List.getElem?_set_self hl] at ej
      cases ej
      rw [hv]
      exact h hs
    · rw [List.getElem?_set_ne hji] at ej
      have hj := R.sl j t ej
      have ne : t.cell = true → ∀ b, vAt σ j = some (.ref b) → b ≠ p := fun ct b z1 z => by
        subst z
        exact R.dj i j b _ _ hji e ej c0 ct hv z1
      cases t with
      | un => trivial
      | dat d => exact hj.elim fun x ⟨z1, z2⟩ => ⟨x, z1, z2.same hs⟩
      | lst zs =>
        obtain ⟨b, ws, z1, z2, z3, z4⟩ := hj
        exact ⟨b, ws, z1, z2, (upd_ne (ne rfl b z1)).trans z3, z4.same hs⟩
      | dct t zs =>
        obtain ⟨b, ws, z1, z2, z3, z4⟩ := hj
        exact ⟨b, ws, z1, z2, (upd_ne (ne rfl b z1)).trans z3, z4.same hs⟩
  · have q : ∀ (m : Nat) (zs : Sl), (env.set i s1)[m]? = some zs → zs.cell = true → ∃ zs' : Sl, env[m]? = some zs' ∧ zs'.cell = true := fun m zs em cm => by
      by_cases hm : i = m
      · subst hm
        exact ⟨_, e, c0⟩
      · rw [List.getElem?_set_ne hm] at em
        exact ⟨_, em, cm⟩
    obtain ⟨z1, e1, cz1⟩ := q j _ ej cj
    obtain ⟨z2, e2, cz2⟩ := q k _ ek ck
    exact R.dj j k b _ _ njk e1 e2 cz1 cz2
  · by_cases z : b = p
    · subst z
      exact ⟨_, upd_same, no⟩
    · rw [upd_ne z]
      exact R.inO b hb
theorem Rep.write (R : Rep K H0 A H σ env O) {i : Nat} {p : Addr} {xs : List PyData} {vs : List V} {ys : List PyData} (e : env[i]? = some (.lst xs)) (hi : σ[i]? = some (some (.ref p))) (h : AtAll K (Hm H (orX O A)) vs ys) :
    Rep K H0 A (upd H p (.lst vs)) σ (env.set i (.lst ys)) O := by
  obtain ⟨a, us, e1, xa, e2, _⟩ := R.lst e
  rw [hi] at e1
  cases e1
  exact R.writeC e rfl rfl hi rfl xa fun hs => ⟨p, vs, rfl, xa, upd_same, h.same hs⟩
/-- a dict changes in place -/
theorem Rep.writeT (R : Rep K H0 A H σ env O) {i : Nat} {p : Addr} {t : Bool} {kvs kws : List (PyData × PyData)} {o1 : HO} (e : env[i]? = some (.dct t kvs)) (hi : σ[i]? = some (some (.ref p))) (h : DctAt K (Hm H (orX O A)) o1 t kws) :
    Rep K H0 A (upd H p o1) σ (env.set i (.dct t kws)) O := by
  obtain ⟨a, us, e1, xa, e2, _⟩ := R.dct e
  rw [hi] at e1
  cases e1
  exact R.writeC e rfl rfl hi h.nt xa fun hs => ⟨p, o1, rfl, xa, upd_same, h.same hs⟩
/-- a cell becomes data -/
theorem Rep.freeze (R : Rep K H0 A H σ env O) {i : Nat} {xs : List PyData} (e : env[i]? = some (.lst xs)) : ∃ O' : Ads, Rep K H0 A H σ (env.set i (.dat (.list xs))) O' := by
  obtain ⟨p, vs, e1, xa, e2, e3⟩ := R.lst e
  have hs : Same (Hm H (orX O A)) (Hm H (orX (fun a => a ≠ p ∧ O a) A)) := hm_le fun a z => z.elim (fun z => .inl z.2) .inr
  have hl : i < env.length := (List.getElem?_eq_some_iff.mp e).1
  have hv : vAt σ i = some (.ref p) := vAt_eq e1
  refine ⟨fun a => a ≠ p ∧ O a, by rw [List.length_set, R.len], fun j t ej => ?_, fun j k b us' ys' njk ej ek cj ck => ?_, fun a o e => ⟨fun z => (R.ent a o e).1 z.2, (R.ent a o e).2⟩, R.inA, fun a h => R.inO a h.2⟩
  · by_cases hji : i = j
    · subst hji
      rw [List.getElem?_set_self hl] at ej
      cases ej
      refine ⟨.ref p, hv, .lst ?_ (e3.same hs)⟩
      rw [hm_in (fun z => z.elim (fun z => z.1 rfl) (R.apart xa))]
      exact e2
    · rw [List.getElem?_set_ne hji] at ej
      have hj := R.sl j t ej
      cases t with
      | un => trivial
      | dat d => exact hj.elim fun x ⟨z1, z2⟩ => ⟨x, z1, z2.same hs⟩
      | lst zs =>
        obtain ⟨b, ws, z1, z2, z3, z4⟩ := hj
        exact ⟨b, ws, z1, ⟨fun z => by subst z; exact R.dj i j b _ _ hji e ej rfl rfl hv z1, z2⟩, z3, z4.same hs⟩
      | dct t zs =>
        obtain ⟨b, ws, z1, z2, z3, z4⟩ := hj
        exact ⟨b, ws, z1, ⟨fun z => by subst z; exact R.dj i j b _ _ hji e ej rfl rfl hv z1, z2⟩, z3, z4.same hs⟩
  · have q : ∀ (m : Nat) (zs : Sl), (env.set i (Sl.dat (.list xs)))[m]? = some zs → zs.cell = true → env[m]? = some zs := fun m zs em cm => by
      by_cases hm : i = m
      · subst hm
        rw [List.getElem?_set_self hl] at em
        cases em
        cases cm
      · rwa [List.getElem?_set_ne hm] at em
    exact R.dj j k b _ _ njk (q j _ ej cj) (q k _ ek ck) cj ck
end
end L2.Vs

set_option Elab.async false
set_option linter.all false
set_option maxRecDepth 100000
set_option maxHeartbeats 4000000
namespace L2.Vs
open PySem PySem.Spec PyProof.Rows L2 L2.Dx
abbrev G := Env → Option (PyData × Bool)
abbrev GA := Env → Option (List PyData × Bool)
abbrev GT := Env → Option Bool
abbrev GF := Env → Option (List PyData)
noncomputable def HB (b : Bool) (H : Hp) (O A : Ads) : Hp := if b = true then Hm H (orX O A) else Hm H A
section
variable {b c : Bool} {H H' : Hp} {O A : Ads}
theorem hb_same (s : Same H H') : Same (HB b H O A) (HB b H' O A) := by cases b <;> exact hm_same s
theorem hb_sub : Same (HB b H O A) H := by cases b <;> exact hm_sub _ _
theorem hb_of : Same (Hm H (orX O A)) (HB b H O A) := by
  cases b
  · exact hm_le fun a z => .inr z
  · exact Same.refl _
theorem hb_A : Same (HB b H O A) (Hm H A) := by
  cases b
  · exact Same.refl _
  · exact hm_le fun a z => .inr z
theorem hb_l : Same (HB b H O A) (HB (b && c) H O A) := by
  cases b
  · exact Same.refl _
  · exact hb_of
theorem hb_r : Same (HB c H O A) (HB (b && c) H O A) := by
  cases b
  · exact hb_A
  · exact Same.refl _
end
/-- an expression's value as data -/
structure VE (X : Cx) (e : Expr) (g : G) : Prop where
  ex : ∃ t, PE X e t ∧ ∀ {H0 : Hp} {A : Ads} {H : Hp} {σ : St} {env : Env} {O : Ads}, Rep X.K H0 A H σ env O → ∀ {d : PyData} {b : Bool}, g env = some (d, b) → ∀ {Q : VK}, (∀ v H', Same H H' → At X.K (HB b H' O A) v d → Q v H') → t σ H Q
/-- an expression that makes a new list -/
structure VF (X : Cx) (e : Expr) (g : GF) : Prop where
  ex : ∃ t, PE X e t ∧ ∀ {H0 : Hp} {A : Ads} {H : Hp} {σ : St} {env : Env} {O : Ads}, Rep X.K H0 A H σ env O → ∀ {xs : List PyData}, g env = some xs → ∀ {Q : VK},
    (∀ p vs H', Same H H' → H p = none → H' p = some (.lst vs) → AtAll X.K (Hm H' (orX (addX O p) A)) vs xs → Q (.ref p) H') → t σ H Q
structure VT (X : Cx) (e : Expr) (g : GT) : Prop where
  ex : ∃ t, PT X e t ∧ ∀ {H0 : Hp} {A : Ads} {H : Hp} {σ : St} {env : Env} {O : Ads}, Rep X.K H0 A H σ env O → ∀ {k : Bool}, g env = some k → ∀ {Q : Bool → Hp → Prop}, (∀ H', Same H H' → Q k H') → t σ H Q
structure VW (X : Cx) (e : Expr) (g : GT) : Prop where
  ex : ∃ t, PW X e t ∧ ∀ {H0 : Hp} {A : Ads} {H : Hp} {σ : St} {env : Env} {O : Ads}, Rep X.K H0 A H σ env O → ∀ {k : Bool}, g env = some k → ∀ {Q : Bool → Hp → Prop}, (∀ H', Same H H' → Q k H') → t σ H Q
structure VA (X : Cx) (es : List Expr) (g : GA) : Prop where
  ex : ∃ t, PA X es t ∧ ∀ {H0 : Hp} {A : Ads} {H : Hp} {σ : St} {env : Env} {O : Ads}, Rep X.K H0 A H σ env O → ∀ {ds : List PyData} {b : Bool}, g env = some (ds, b) → ∀ {Q : List V → Hp → Prop}, (∀ vs H', Same H H' → AtAll X.K (HB b H' O A) vs ds → Q vs H') → t σ H Q
/-- an operator by data: its answer is no object -/
def O2 (K : PySem.W.Frag) (r : R2) (f : PyData → PyData → Option PyData) : Prop :=
  ∀ {H : Hp} {x y : V} {a b c : PyData}, At K H x a → At K H y b → f a b = some c → ∀ {Q : VK}, (∀ v, (∀ H', At K H' v c) → Q v H) → r x y H Q
def O1 (K : PySem.W.Frag) (r : V → Hp → VK → Prop) (f : PyData → Option PyData) : Prop :=
  ∀ {H : Hp} {x : V} {a c : PyData}, At K H x a → f a = some c → ∀ {Q : VK}, (∀ v, (∀ H', At K H' v c) → Q v H) → r x H Q
/-! plain functions -/
def gV (i : Nat) : G := fun env => match env[i]? with
  | some (.dat d) => some (d, true)
  | some (.lst xs) => some (.list xs, false)
  | some (.dct _ kvs) => some (.dict kvs, false)
  | _ => none
def gC (d : PyData) : G := fun _ => some (d, true)
def g1 (f : PyData → Option PyData) (ga : G) : G := fun env => match ga env with
  | some (a, _) => (f a).map (·, true)
  | none => none
def g2 (f : PyData → PyData → Option PyData) (ga gb : G) : G := fun env => match ga env with
  | some (a, _) => (match gb env with
    | some (b, _) => (f a b).map (·, true)
    | none => none)
  | none => none
def gNil : GA := fun _ => some ([], true)
def gCons (ga : G) (gr : GA) : GA := fun env => match ga env with
  | some (a, b) => (match gr env with
    | some (ds, c) => some (a :: ds, b && c)
    | none => none)
  | none => none
def gTup (ga : GA) : G := fun env => match ga env with
  | some (ds, b) => if ds.length ≤ 1000 then some (.tuple ds, b) else none
  | none => none
def gLst (ga : GA) : GF := fun env => match ga env with
  | some (ds, true) => if ds.length ≤ 1000 then some ds else none
  | _ => none
def gF (g : GF) : G := fun env => (g env).map fun xs => (.list xs, true)
def gCall (f : List PyData → Option PyData) (ga : GA) : G := fun env => match ga env with
  | some (ds, b) => (f ds).map (·, b)
  | none => none
def gAnd (ga gb : G) : G := fun env => match ga env with
  | some (.bool true, _) => gb env
  | some (.bool false, _) => some (.bool false, true)
  | _ => none
def gOr (ga gb : G) : G := fun env => match ga env with
  | some (.bool false, _) => gb env
  | some (.bool true, _) => some (.bool true, true)
  | _ => none
def notD : PyData → Option PyData
  | .bool b => some (.bool (!b))
  | _ => none
def gIf (gt : GT) (ga gb : G) : G := fun env => match gt env with
  | some true => ga env
  | some false => gb env
  | none => none
def gVal (g : G) : GT := fun env => match g env with
  | some (.bool b, _) => some b
  | _ => none
def gNotT (g : GT) : GT := fun env => (g env).map (!·)
def gAndT (ga gb : GT) : GT := fun env => match ga env with
  | some true => gb env
  | some false => some false
  | none => none
def gOrT (ga gb : GT) : GT := fun env => match ga env with
  | some true => some true
  | some false => gb env
  | none => none
def truD : PyData → Option Bool
  | .none => some false
  | .bool b => some b
  | .int i => some (i != 0)
  | .list xs => some (!xs.isEmpty)
  | .tuple xs => some (!xs.isEmpty)
  | .str z => if z.length ≤ 1000 then some ((z.length : Int) != 0) else none
  | _ => none
def gTru (g : G) : GT := fun env => match g env with
  | some (d, _) => truD d
  | none => none
/-! rules -/
section
variable {X : Cx} {e e1 e2 : Expr} {es : List Expr} {g ga gb : G} {gs : GA} {gt gu : GT} {pos : Pos}
theorem ve_var {i : Nat} (h : PE X e (tVar i)) : VE X e (gV i) := by
  refine ⟨tVar i, h, fun {H0 A H σ env O} R {d b} e {Q} q => ?_⟩
  unfold gV at e
  cases s : env[i]? with
  | none => rw [s] at e; cases e
  | some t =>
    rw [s] at e
    cases t with
    | un => cases e
    | dat d =>
      cases e
      obtain ⟨x, h1, h2⟩ := R.dat s
      exact ⟨x, h1, q _ _ (Same.refl _) h2⟩
    | lst xs =>
      cases e
      obtain ⟨a, vs, h1, h2, h3, h4⟩ := R.lst s
      refine ⟨.ref a, h1, q _ _ (Same.refl _) (.lst ?_ (h4.same (hm_le fun a z => .inr z)))⟩
      show Hm H A a = _
      rw [hm_in (R.apart h2)]
      exact h3
    | dct t kvs =>
      cases e
      obtain ⟨a, o, h1, h2, h3, h4⟩ := R.dct s
      have h4 := h4.same (hm_le (Y := A) fun a z => .inr z)
      have h3 : Hm H A a = some o := (hm_in (R.apart h2)).trans h3
      refine ⟨.ref a, h1, q _ _ (Same.refl _) ?_⟩
      show At _ (Hm H A) _ _
      cases t with
      | true => obtain ⟨ks, vs, ds, rfl, z2, z3, rfl⟩ := h4; exact .dt (.inl h3) z2 z3
      | false => obtain ⟨ks, vs, ds, rfl, z2, z3, rfl⟩ := h4; exact .dk (.inl h3) z2 z3
theorem ve_c {v : V} {d : PyData} (h : PE X e (tC v)) (hd : ∀ K H, At K H v d) : VE X e (gC d) :=
  ⟨tC v, h, fun R _ _ e _ q => by cases e; exact q _ _ (Same.refl _) (hd _ _)⟩
theorem ve_int {i : Int} {j p} : VE X (.Constant (.int i) j p) (gC (.int i)) := ve_c pe_int fun _ _ => .int _
theorem ve_bl {b : Bool} {j p} : VE X (.Constant (.bool b) j p) (gC (.bool b)) := ve_c pe_bl fun _ _ => .bl _
theorem ve_non {j p} : VE X (.Constant .none j p) (gC .none) := ve_c pe_non fun _ _ => .non
theorem ve_str {x : Str} {j p} : VE X (.Constant (.str x) j p) (gC (.str x)) := ve_c pe_str fun _ _ => .str _
theorem va_nil : VA X [] gNil := ⟨tNil, pa_nil, fun R _ _ e _ q => by cases e; exact q _ _ (Same.refl _) .nil⟩
theorem va_cons (ha : VE X e ga) (hr : VA X es gs) (hs : starEach (e :: es) X.env = (false, eval e X.env) :: starEach es X.env := by rfl) : VA X (e :: es) (gCons ga gs) := by
  obtain ⟨t, h1, h2⟩ := ha.ex
  obtain ⟨u, k1, k2⟩ := hr.ex
  refine ⟨tCons t u, pa_cons h1 k1 hs, fun {H0 A H σ env O} R {ds b} e {Q} q => ?_⟩
  unfold gCons at e
  cases s : ga env with
  | none => rw [s] at e; cases e
  | some p =>
    obtain ⟨a, b1⟩ := p
    rw [s] at e
    dsimp only at e
    cases s2 : gs env with
    | none => rw [s2] at e; cases e
    | some p =>
      obtain ⟨ds', b2⟩ := p
      rw [s2] at e
      cases e
      exact h2 R s fun v H1 s1 hv => k2 (R.same s1) s2 fun vs H2 s3 hvs => q _ _ (s1.trans s3) (.cons (hv.same ((hb_same s3).trans hb_l)) (hvs.same hb_r))
theorem ve_op {op : Operator} {r : R2} {f : PyData → PyData → Option PyData} (ho : OpR X (binaryOp op) r) (hf : O2 X.K r f) (ha : VE X e1 ga) (hb : VE X e2 gb) : VE X (.BinOp e1 op e2 pos) (g2 f ga gb) := by
  obtain ⟨t, h1, h2⟩ := ha.ex
  obtain ⟨u, k1, k2⟩ := hb.ex
  refine ⟨tOp r t u, pe_op ho h1 k1, fun {H0 A H σ env O} R {d b} e {Q} q => ?_⟩
  unfold g2 at e
  cases s : ga env with
  | none => rw [s] at e; cases e
  | some p =>
    obtain ⟨a, b1⟩ := p
    rw [s] at e
    dsimp only at e
    cases s2 : gb env with
    | none => rw [s2] at e; cases e
    | some p =>
      obtain ⟨a2, b2⟩ := p
      rw [s2] at e
      dsimp only at e
      obtain ⟨c, e1, e2⟩ := Option.map_eq_some_iff.mp e
      cases e2
      exact h2 R s fun v H1 s1 hv => k2 (R.same s1) s2 fun w H2 s3 hw => hf (hv.same (hb_sub.trans s3)) (hw.same hb_sub) e1 fun z hz => q _ _ (s1.trans s3) (hz _)
theorem ve_cmp {op : CmpOp} {r : R2} {f : PyData → PyData → Option PyData} (ho : OpR X (compareOp op) r) (hf : O2 X.K r f) (ha : VE X e1 ga) (hb : VE X e2 gb) (hm : behindInMarks op e2 = false) : VE X (.Compare e1 [op] [e2] pos) (g2 f ga gb) := by
  obtain ⟨t, h1, h2⟩ := ha.ex
  obtain ⟨u, k1, k2⟩ := hb.ex
  refine ⟨tOp r t u, pe_cmpR ho h1 k1 hm, fun {H0 A H σ env O} R {d b} e {Q} q => ?_⟩
  unfold g2 at e
  cases s : ga env with
  | none => rw [s] at e; cases e
  | some p =>
    obtain ⟨a, b1⟩ := p
    rw [s] at e
    dsimp only at e
    cases s2 : gb env with
    | none => rw [s2] at e; cases e
    | some p =>
      obtain ⟨a2, b2⟩ := p
      rw [s2] at e
      dsimp only at e
      obtain ⟨c, e1, e2⟩ := Option.map_eq_some_iff.mp e
      cases e2
      exact h2 R s fun v H1 s1 hv => k2 (R.same s1) s2 fun w H2 s3 hw => hf (hv.same (hb_sub.trans s3)) (hw.same hb_sub) e1 fun z hz => q _ _ (s1.trans s3) (hz _)
theorem ve_un {op : UnaryOp} {r : V → Hp → VK → Prop} {f : PyData → Option PyData} (ho : UnR X (unaryOp op) r) (hf : O1 X.K r f) (ha : VE X e ga) : VE X (.UnaryOp op e pos) (g1 f ga) := by
  obtain ⟨t, h1, h2⟩ := ha.ex
  refine ⟨tUn r t, pe_un ho h1, fun {H0 A H σ env O} R {d b} e {Q} q => ?_⟩
  unfold g1 at e
  cases s : ga env with
  | none => rw [s] at e; cases e
  | some p =>
    obtain ⟨a, b1⟩ := p
    rw [s] at e
    dsimp only at e
    obtain ⟨c, e1, e2⟩ := Option.map_eq_some_iff.mp e
    cases e2
    exact h2 R s fun v H1 s1 hv => hf (hv.same hb_sub) e1 fun z hz => q _ _ s1 (hz _)
/-- a call of a builtin of one argument whose answer is no object -/
theorem ve_fn1 {r : V → Hp → VK → Prop} {f : PyData → Option PyData} {call : Expr} (hc : ∀ {t : TE}, PE X e t → PE X call (fun σ H Q => t σ H fun x H1 => r x H1 Q)) (hf : O1 X.K r f) (ha : VE X e ga) : VE X call (g1 f ga) := by
  obtain ⟨t, h1, h2⟩ := ha.ex
  refine ⟨_, hc h1, fun {H0 A H σ env O} R {d b} e {Q} q => ?_⟩
  unfold g1 at e
  cases s : ga env with
  | none => rw [s] at e; cases e
  | some p =>
    obtain ⟨a, b1⟩ := p
    rw [s] at e
    dsimp only at e
    obtain ⟨c, e1, e2⟩ := Option.map_eq_some_iff.mp e
    cases e2
    exact h2 R s fun v H1 s1 hv => hf (hv.same hb_sub) e1 fun z hz => q _ _ s1 (hz _)
theorem ve_and (ha : VE X e1 ga) (hb : VE X (.BoolOp .And (e2 :: es) pos) gb) : VE X (.BoolOp .And (e1 :: e2 :: es) pos) (gAnd ga gb) := by
  obtain ⟨t, h1, h2⟩ := ha.ex
  obtain ⟨u, k1, k2⟩ := hb.ex
  refine ⟨_, pe_and h1 k1, fun {H0 A H σ env O} R {d b} e {Q} q => ?_⟩
  unfold gAnd at e
  split at e
  · rename_i b1 s
    refine h2 R s fun v H1 s1 hv => ?_
    cases hv
    exact ⟨true, rfl, iteT (k2 (R.same s1) e fun w H2 s3 hw => q _ _ (s1.trans s3) hw)⟩
  · rename_i b1 s
    cases e
    refine h2 R s fun v H1 s1 hv => ?_
    cases hv
    exact ⟨false, rfl, iteF (q _ _ s1 (.bl _))⟩
  · cases e
theorem ve_or (ha : VE X e1 ga) (hb : VE X (.BoolOp .Or (e2 :: es) pos) gb) : VE X (.BoolOp .Or (e1 :: e2 :: es) pos) (gOr ga gb) := by
  obtain ⟨t, h1, h2⟩ := ha.ex
  obtain ⟨u, k1, k2⟩ := hb.ex
  refine ⟨_, pe_or h1 k1, fun {H0 A H σ env O} R {d b} e {Q} q => ?_⟩
  unfold gOr at e
  split at e
  · rename_i b1 s
    refine h2 R s fun v H1 s1 hv => ?_
    cases hv
    exact ⟨false, rfl, iteF (k2 (R.same s1) e fun w H2 s3 hw => q _ _ (s1.trans s3) hw)⟩
  · rename_i b1 s
    cases e
    refine h2 R s fun v H1 s1 hv => ?_
    cases hv
    exact ⟨true, rfl, iteT (q _ _ s1 (.bl _))⟩
  · cases e
theorem ve_one {op : BoolOp} (h : VE X e g) : VE X (.BoolOp op [e] pos) g := by
  obtain ⟨t, h1, h2⟩ := h.ex
  exact ⟨t, pe_one h1, h2⟩
theorem ve_not (h : VE X e g) : VE X (.UnaryOp .Not e pos) (g1 notD g) := by
  obtain ⟨t, h1, h2⟩ := h.ex
  refine ⟨_, pe_not h1, fun {H0 A H σ env O} R {d b} e {Q} q => ?_⟩
  unfold g1 at e
  cases s : g env with
  | none => rw [s] at e; cases e
  | some p =>
    obtain ⟨a, b1⟩ := p
    rw [s] at e
    dsimp only at e
    obtain ⟨c, e1, e2⟩ := Option.map_eq_some_iff.mp e
    cases e2
    refine h2 R s fun v H1 s1 hv => ?_
    cases a <;> first | cases e1 | skip
    cases hv
    exact ⟨_, rfl, q _ _ s1 (.bl _)⟩
theorem ve_if (hc : VT X e gt) (ha : VE X e1 ga) (hb : VE X e2 gb) : VE X (.IfExp e e1 e2 pos) (gIf gt ga gb) := by
  obtain ⟨t, h1, h2⟩ := hc.ex
  obtain ⟨u, k1, k2⟩ := ha.ex
  obtain ⟨w, l1, l2⟩ := hb.ex
  refine ⟨_, pe_ifExp h1 k1 l1, fun {H0 A H σ env O} R {d b} e {Q} q => ?_⟩
  unfold gIf at e
  split at e
  · rename_i s
    exact h2 R s fun H1 s1 => iteT (k2 (R.same s1) e fun v H2 s3 hv => q _ _ (s1.trans s3) hv)
  · rename_i s
    exact h2 R s fun H1 s1 => iteF (l2 (R.same s1) e fun v H2 s3 hv => q _ _ (s1.trans s3) hv)
  · cases e
/-! tests -/
theorem vt_val (h : VE X e g) (he : ∀ whole, isTrue e X.env whole = (do let v ← whole; standAt e.pos; holding [v] (truthy v)) := by intro _; rfl) : VT X e (gVal g) := by
  obtain ⟨t, h1, h2⟩ := h.ex
  refine ⟨_, pt_val h1 he, fun {H0 A H σ env O} R {k} e {Q} q => ?_⟩
  unfold gVal at e
  split at e
  · rename_i b c s
    cases e
    refine h2 R s fun v H1 s1 hv => ?_
    cases hv
    exact ⟨_, rfl, q _ s1⟩
  · cases e
theorem vt_cmp {op : CmpOp} {r : R2} {f : PyData → PyData → Option PyData} (ho : OpR X (compareOp op) r) (hf : O2 X.K r f) (ha : VE X e1 ga) (hb : VE X e2 gb) (hm : behindInMarks op e2 = false) : VT X (.Compare e1 [op] [e2] pos) (gVal (g2 f ga gb)) := by
  obtain ⟨t, h1, h2⟩ := ha.ex
  obtain ⟨u, k1, k2⟩ := hb.ex
  refine ⟨_, pt_cmpR ho h1 k1 hm, fun {H0 A H σ env O} R {k} e {Q} q => ?_⟩
  unfold gVal g2 at e
  cases s : ga env with
  | none => rw [s] at e; cases e
  | some p =>
    obtain ⟨a, b1⟩ := p
    rw [s] at e
    dsimp only at e
    cases s2 : gb env with
    | none => rw [s2] at e; cases e
    | some p =>
      obtain ⟨a2, b2⟩ := p
      rw [s2] at e
      dsimp only at e
      cases s3 : f a a2 with
      | none => rw [s3] at e; cases e
      | some c =>
        rw [s3] at e
        cases c <;> try cases e
        exact h2 R s fun v H1 q1 hv => k2 (R.same q1) s2 fun w H2 q2 hw => hf (hv.same (hb_sub.trans q2)) (hw.same hb_sub) s3 fun z hz => by
          have hz := hz H2
          cases hz
          exact ⟨_, rfl, q _ (q1.trans q2)⟩
theorem vt_tru (h : VE X e g) (he : ∀ whole, isTrue e X.env whole = (do let v ← whole; standAt e.pos; holding [v] (truthy v)) := by intro _; rfl) : VT X e (gTru g) := by
  obtain ⟨t, h1, h2⟩ := h.ex
  refine ⟨_, pt_truth h1 he, fun {H0 A H σ env O} R {k} e {Q} q => ?_⟩
  unfold gTru at e
  cases s : g env with
  | none => rw [s] at e; cases e
  | some p =>
    obtain ⟨d, b⟩ := p
    rw [s] at e
    dsimp only at e
    refine h2 R s fun v H1 s1 hv => ?_
    have hv := hv.same hb_sub
    cases d with
    | none => cases hv; cases e; exact ⟨false, rfl, q _ s1⟩
    | bool b => cases hv; cases e; exact ⟨_, rfl, q _ s1⟩
    | int i => cases hv; cases e; exact ⟨_, rfl, q _ s1⟩
    | str z =>
      cases hv
      have e : (if z.length ≤ 1000 then some ((z.length : Int) != 0) else none) = some k := e
      by_cases hz : z.length ≤ 1000
      · rw [if_pos hz] at e
        cases e
        exact ⟨_, ⟨Nat.le_of_lt (small1000 hz), rfl⟩, q _ s1⟩
      · rw [if_neg hz] at e
        cases e
    | list xs =>
      cases hv with
      | lst hs ha =>
        cases e
        refine ⟨_, .inl ⟨_, .of hs, ?_⟩, q _ s1⟩
        cases ha <;> rfl
    | tuple xs =>
      cases hv with
      | tup hs ha =>
        cases e
        refine ⟨_, .inr (.inl ⟨_, .of hs, ?_⟩), q _ s1⟩
        cases ha <;> rfl
    | dict _ => cases e
theorem vt_not (h : VT X e gt) : VT X (.UnaryOp .Not e pos) (gNotT gt) := by
  obtain ⟨t, h1, h2⟩ := h.ex
  refine ⟨_, pt_not h1, fun {H0 A H σ env O} R {k} e {Q} q => ?_⟩
  obtain ⟨c, e1, e2⟩ := Option.map_eq_some_iff.mp e
  subst e2
  exact h2 R e1 fun H1 s1 => q _ s1
theorem vt_bool (h : VW X e gt) : VT X e gt := by
  obtain ⟨t, h1, h2⟩ := h.ex
  exact ⟨t, h1.pt, h2⟩
theorem vw_and1 (h : VT X e gt) : VW X (.BoolOp .And [e] pos) gt := by
  obtain ⟨t, h1, h2⟩ := h.ex
  exact ⟨t, pw_and1 h1, h2⟩
theorem vw_or1 (h : VT X e gt) : VW X (.BoolOp .Or [e] pos) gt := by
  obtain ⟨t, h1, h2⟩ := h.ex
  exact ⟨t, pw_or1 h1, h2⟩
theorem vw_and (ha : VT X e1 gt) (hb : VW X (.BoolOp .And (e2 :: es) pos) gu) : VW X (.BoolOp .And (e1 :: e2 :: es) pos) (gAndT gt gu) := by
  obtain ⟨t, h1, h2⟩ := ha.ex
  obtain ⟨u, k1, k2⟩ := hb.ex
  refine ⟨_, pw_and h1 k1, fun {H0 A H σ env O} R {k} e {Q} q => ?_⟩
  unfold gAndT at e
  split at e
  · rename_i s
    exact h2 R s fun H1 s1 => iteT (k2 (R.same s1) e fun H2 s3 => q _ (s1.trans s3))
  · rename_i s
    cases e
    exact h2 R s fun H1 s1 => iteF (q _ s1)
  · cases e
theorem vw_or (ha : VT X e1 gt) (hb : VW X (.BoolOp .Or (e2 :: es) pos) gu) : VW X (.BoolOp .Or (e1 :: e2 :: es) pos) (gOrT gt gu) := by
  obtain ⟨t, h1, h2⟩ := ha.ex
  obtain ⟨u, k1, k2⟩ := hb.ex
  refine ⟨_, pw_or h1 k1, fun {H0 A H σ env O} R {k} e {Q} q => ?_⟩
  unfold gOrT at e
  split at e
  · rename_i s
    cases e
    exact h2 R s fun H1 s1 => iteT (q _ s1)
  · rename_i s
    exact h2 R s fun H1 s1 => iteF (k2 (R.same s1) e fun H2 s3 => q _ (s1.trans s3))
  · cases e
/-! new objects -/
theorem same_new {H : Hp} {p : Addr} {o : HO} (h : H p = none) : Same H (upd H p o) := fun b x e => (upd_ne (ne_of_none e h)).trans e
theorem new_in {K : PySem.W.Frag} {H0 H : Hp} {A O : Ads} {σ : St} {env : Env} {p : Addr} (R : Rep K H0 A H σ env O) (hp : H p = none) : ¬ orX O A p := fun z => (R.inX p z).elim fun o e => by rw [hp] at e; cases e.1
theorem ve_tup {x1} (h : VA X es gs) : VE X (.Tuple es x1 pos) (gTup gs) := by
  obtain ⟨t, h1, h2⟩ := h.ex
  refine ⟨_, pe_tup h1, fun {H0 A H σ env O} R {d b} e {Q} q => ?_⟩
  unfold gTup at e
  split at e
  · rename_i ds b1 s
    split at e
    · rename_i hl
      cases e
      refine h2 R s fun vs H1 s1 hvs => ⟨by rw [hvs.length]; exact Nat.le_of_lt (small1000 hl), fun p hp => ?_⟩
      have s2 := same_new (o := .tup vs) hp
      refine q _ _ (s1.trans s2) (.tup ?_ (hvs.same (hb_same s2)))
      have n := new_in (R.same s1) hp
      cases b
      · show Hm _ A p = _
        rw [hm_in fun z => n (.inr z)]
        exact upd_same
      · show Hm _ (orX O A) p = _
        rw [hm_in n]
        exact upd_same
    · cases e
  · cases e
theorem vf_lst (h : VA X es gs) : VF X (.List es pos) (gLst gs) := by
  obtain ⟨t, h1, h2⟩ := h.ex
  refine ⟨_, pe_lst h1, fun {H0 A H σ env O} R {xs} e {Q} q => ?_⟩
  unfold gLst at e
  split at e
  · rename_i ds s
    split at e
    · rename_i hl
      cases e
      refine h2 R s fun vs H1 s1 hvs => ⟨by rw [hvs.length]; exact Nat.le_of_lt (small1000 hl), fun p hp => ?_⟩
      have s2 := same_new (o := .lst vs) hp
      exact q _ _ _ (s1.trans s2) (s1.free hp) upd_same (hvs.same (hm_new s2 hp))
    · cases e
  · cases e
theorem ve_f {gf : GF} (h : VF X e gf) : VE X e (gF gf) := by
  obtain ⟨t, h1, h2⟩ := h.ex
  refine ⟨t, h1, fun {H0 A H σ env O} R {d b} e {Q} q => ?_⟩
  obtain ⟨xs, s, e2⟩ := Option.map_eq_some_iff.mp e
  cases e2
  refine h2 R s fun p vs H1 s1 hp hH hvs => q _ _ s1 ?_
  show At X.K (Hm H1 (orX O A)) _ _
  refine .lst ?_ (hvs.same (hm_le fun a z => z.elim (fun z => .inl (.inr z)) .inr))
  rw [hm_in (new_in R hp)]
  exact hH
/-! calls of defs that change nothing -/
def pureS (K : PySem.W.Frag) (n : Nat) (f : List PyData → Option PyData) : Sp := fun vs H Q _ => ∃ (ds : List PyData) (d : PyData) (A : Ads), AtAll K (Hm H A) vs ds ∧ (∀ a, A a → ∃ o, H a = some o ∧ nt o = true) ∧ vs.length = n ∧ f ds = some d ∧
  ∀ v H', Same H H' → At K (Hm H' A) v d → Q v H'
theorem ve_call {CX : CXT} {k n : Nat} {f : Addr} {fd : FuncData} {ps : List Str} {F : List PyData → Option PyData} {x : Str} {p : Pos} {E : XK} (FO : FnOk X.prog X.w X.K X.mg X.base CX k f fd ps (pureS X.K n F)) (hr : Room k X.A) (hg : Gl X x) (hm : X.mg x = some (.ref f)) (hk : PySem.W.keepIn X.K (.ref f) = true) (hb : Binds X.K fd ps [])
    (hx : Passes CX X E) (ha : VA X (e :: es) gs) (hn : ∀ env ds b, gs env = some (ds, b) → ds.length = n) (hdb : (x == ("__debug__" : Str)) = false := by decide) (he : starEach (e :: es) X.env = (false, eval e X.env) :: starEach es X.env := by rfl) (hpl : (backTo pos (starEach es X.env)).any (·.1) = false := by rfl) :
    VE X (.Call (.Name x p) (e :: es) [] pos) (gCall F gs) := by
  obtain ⟨t, h1, h2⟩ := ha.ex
  refine ⟨_, pe_call FO hr hg hm hk hb .nil hx h1 hdb he hpl, fun {H0 A H σ env O} R {d b} e {Q} q => ?_⟩
  unfold gCall at e
  split at e
  · rename_i ds b1 s
    obtain ⟨c, e1, e2⟩ := Option.map_eq_some_iff.mp e
    cases e2
    refine h2 R s fun vs H1 s1 hvs => ?_
    show pureS X.K n F (vs ++ []) H1 Q E
    rw [List.append_nil]
    have R1 := R.same s1
    cases b
    · exact ⟨ds, _, A, hvs, fun a z => R1.inX a (.inr z), by rw [hvs.length]; exact hn _ _ _ s, e1, fun v H2 s3 hv => q _ _ (s1.trans s3) hv⟩
    · exact ⟨ds, _, orX O A, hvs, R1.inX, by rw [hvs.length]; exact hn _ _ _ s, e1, fun v H2 s3 hv => q _ _ (s1.trans s3) hv⟩
  · cases e
theorem gNil_len : ∀ env ds b, gNil env = some (ds, b) → ds.length = 0 := fun _ _ _ e => by cases e; rfl
theorem gCons_len {n : Nat} (h : ∀ env ds b, gs env = some (ds, b) → ds.length = n) : ∀ env ds b, gCons ga gs env = some (ds, b) → ds.length = n + 1 := fun env ds b e => by
  unfold gCons at e
  cases s : ga env with
  | none => rw [s] at e; cases e
  | some p =>
    rw [s] at e
    dsimp only at e
    cases s2 : gs env with
    | none => rw [s2] at e; cases e
    | some p => rw [s2] at e; cases e; exact congrArg (· + 1) (h _ _ _ s2)
end
end L2.Vs

set_option Elab.async false
set_option linter.all false
set_option maxRecDepth 100000
set_option maxHeartbeats 4000000
namespace L2.Vs
open PySem PySem.Spec PyProof.Rows L2 L2.Dx
/-! operators -/
def iiD (f : Int → Int → PyData) : PyData → PyData → Option PyData
  | .int i, .int j => some (f i j)
  | _, _ => none
def iiC (C : Int → Int → Bool) (f : Int → Int → PyData) : PyData → PyData → Option PyData
  | .int i, .int j => if C i j = true then some (f i j) else none
  | _, _ => none
def ssD (f : Str → Str → PyData) : PyData → PyData → Option PyData
  | .str i, .str j => some (f i j)
  | _, _ => none
def flatD : PyData → Bool
  | .none => true | .bool _ => true | .int _ => true | .str _ => true | _ => false
def isNoneD : PyData → Bool
  | .none => true | _ => false
def eqD (a b : PyData) : Option PyData := if (a.plain && b.plain && decide (min a.depth b.depth ≤ 60)) = true then some (.bool (PyData.eqv a b)) else none
def neD (a b : PyData) : Option PyData := if (a.plain && b.plain && decide (min a.depth b.depth ≤ 60)) = true then some (.bool (!PyData.eqv a b)) else none
def itemsD : PyData → Option (List PyData)
  | .list xs => some xs
  | .tuple xs => some xs
  | _ => none
def inD (neg : Bool) (a b : PyData) : Option PyData := match itemsD b with
  | some xs => if (PyData.plainAll xs && a.plain && decide (min (PyData.depthAll xs) a.depth ≤ 60)) = true then some (.bool (neg != (xs.any fun y => PyData.eqv y a))) else none
  | none => none
def isNonD (a b : PyData) : Option PyData := if isNoneD b = true then some (.bool (isNoneD a)) else none
def notNonD (a b : PyData) : Option PyData := if isNoneD b = true then some (.bool (!isNoneD a)) else none
def inSignD (neg : Bool) : PyData → PyData → Option PyData
  | .str ⟨⟨[c]⟩⟩, .str z => some (.bool (neg != decide (c ∈ z.cps.toList)))
  | _, _ => none
section
variable {K : PySem.W.Frag}
theorem o2_ii {g : Int → Int → V} {f : Int → Int → PyData} (h : ∀ i j H, At K H (g i j) (f i j)) : O2 K (rI0 g) (iiD f) := by
  intro H x y a b c ha hb e Q q
  cases a <;> try cases e
  cases b <;> try cases e
  cases ha
  cases hb
  exact ⟨_, _, rfl, rfl, q _ fun _ => h _ _ _⟩
theorem o2_iiC {C : Int → Int → Prop} {Cb : Int → Int → Bool} {g : Int → Int → V} {f : Int → Int → PyData} (hC : ∀ i j, Cb i j = true → C i j) (h : ∀ i j H, At K H (g i j) (f i j)) : O2 K (rI C g) (iiC Cb f) := by
  intro H x y a b c ha hb e Q q
  cases a <;> try cases e
  cases b <;> try cases e
  rename_i i j
  cases ha
  cases hb
  have e : (if Cb i j = true then some (f i j) else none) = some c := e
  split at e
  · rename_i hc
    cases e
    exact ⟨_, _, rfl, rfl, hC _ _ hc, q _ fun _ => h _ _ _⟩
  · cases e
theorem o2_ss {r : R2} {g : Str → Str → V} {f : Str → Str → PyData} (hr : ∀ i j H Q, Q (g i j) H → r (.str i) (.str j) H Q) (h : ∀ i j H, At K H (g i j) (f i j)) : O2 K r (ssD f) := by
  intro H x y a b c ha hb e Q q
  cases a <;> try cases e
  cases b <;> try cases e
  cases ha
  cases hb
  exact hr _ _ _ _ (q _ fun _ => h _ _ _)
theorem At.isN {H : Hp} {x : V} {a : PyData} (h : At K H x a) : decide (x = .non) = isNoneD a := by
  cases h <;> first | rfl | exact decide_eq_false fun z => nomatch z
theorem o2_isN : O2 K (fun x y H Q => y = .non ∧ Q (.bl (decide (x = .non))) H) isNonD := by
  intro H x y a b c ha hb e Q q
  unfold isNonD at e
  cases b <;> try cases e
  cases hb
  exact ⟨rfl, q _ fun _ => by rw [ha.isN]; exact .bl _⟩
theorem o2_notN : O2 K (fun x y H Q => y = .non ∧ Q (.bl (!decide (x = .non))) H) notNonD := by
  intro H x y a b c ha hb e Q q
  unfold notNonD at e
  cases b <;> try cases e
  cases hb
  exact ⟨rfl, q _ fun _ => by rw [ha.isN]; exact .bl _⟩
def rEqX (K : PySem.W.Frag) (neg : Bool) : R2 := fun x y H Q => ∃ d e, At K H x d ∧ At K H y e ∧ d.plain = true ∧ e.plain = true ∧ min d.depth e.depth ≤ 60 ∧ Q (.bl (neg != PyData.eqv d e)) H
theorem o2_eq : O2 K (rEqX K false) eqD := by
  intro H x y a b c ha hb e Q q
  unfold eqD at e
  split at e
  · rename_i h
    simp only [Bool.and_eq_true, decide_eq_true_eq] at h
    cases e
    exact ⟨a, b, ha, hb, h.1.1, h.1.2, h.2, q _ fun _ => by simpa using At.bl _⟩
  · cases e
theorem o2_ne : O2 K (rEqX K true) neD := by
  intro H x y a b c ha hb e Q q
  unfold neD at e
  split at e
  · rename_i h
    simp only [Bool.and_eq_true, decide_eq_true_eq] at h
    cases e
    exact ⟨a, b, ha, hb, h.1.1, h.1.2, h.2, q _ fun _ => by simpa using At.bl _⟩
  · cases e
def rInX (K : PySem.W.Frag) (neg : Bool) : R2 := fun x y H Q => ∃ d e xs, At K H x d ∧ At K H y e ∧ itemsD e = some xs ∧ PyData.plainAll xs = true ∧ d.plain = true ∧ min (PyData.depthAll xs) d.depth ≤ 60 ∧ Q (.bl (neg != (xs.any fun y => PyData.eqv y d))) H
theorem o2_in {neg : Bool} : O2 K (rInX K neg) (inD neg) := by
  intro H x y a b c ha hb e Q q
  unfold inD at e
  split at e
  · rename_i xs hx
    split at e
    · rename_i h
      simp only [Bool.and_eq_true, decide_eq_true_eq] at h
      cases e
      exact ⟨a, b, xs, ha, hb, hx, h.1.1, h.1.2, h.2, q _ fun _ => .bl _⟩
    · cases e
  · cases e
theorem o2_inSign : O2 K (fun x y H Q => ∃ (c : Nat) (z : Str), x = .str ⟨#[c]⟩ ∧ y = .str z ∧ Q (.bl (decide (c ∈ z.cps.toList))) H) (inSignD false) := by
  intro H x y a b c ha hb e Q q
  unfold inSignD at e
  split at e
  · cases e
    cases ha
    cases hb
    exact ⟨_, _, rfl, rfl, q _ fun _ => by simpa using At.bl _⟩
  · cases e
theorem o2_notInSign : O2 K (fun x y H Q => ∃ (c : Nat) (z : Str), x = .str ⟨#[c]⟩ ∧ y = .str z ∧ Q (.bl (!decide (c ∈ z.cps.toList))) H) (inSignD true) := by
  intro H x y a b c ha hb e Q q
  unfold inSignD at e
  split at e
  · cases e
    cases ha
    cases hb
    exact ⟨_, _, rfl, rfl, q _ fun _ => by simpa using At.bl _⟩
  · cases e
end
section
variable {X : Cx}
theorem op_eqX (hu : X.A.units + 64 < cLine) : OpR X (compareOp .Eq) (rEqX X.K false) := by
  intro pins s σ H x y v u Q I rx ry h
  obtain ⟨d, e, hd, he, p1, p2, hm, q⟩ := h
  obtain ⟨as, r1⟩ := hd.reads I rx
  obtain ⟨bs, r2⟩ := he.reads I ry
  exact SeqAt.eq_plain r1 r2 p1 p2 (by omega) ⟨.bl _, H, I, rfl, by simpa using q⟩
theorem op_neX (hu : X.A.units + 64 < cLine) : OpR X (compareOp .NotEq) (rEqX X.K true) := by
  intro pins s σ H x y v u Q I rx ry h
  obtain ⟨d, e, hd, he, p1, p2, hm, q⟩ := h
  obtain ⟨as, r1⟩ := hd.reads I rx
  obtain ⟨bs, r2⟩ := he.reads I ry
  exact SeqAt.ne_plain r1 r2 p1 p2 (by omega) ⟨.bl _, H, I, rfl, by simpa using q⟩
theorem op_inX (hu : X.A.units + 64 < cLine) : OpR X (compareOp .In) (rInX X.K false) := by
  intro pins s σ H x y v u Q I rx ry h
  obtain ⟨d, e, xs, hd, he, hi, p1, p2, hm, q⟩ := h
  obtain ⟨as, r1⟩ := hd.reads I rx
  obtain ⟨bs, r2⟩ := he.reads I ry
  cases e <;> try cases hi
  · exact SeqAt.in_list_data r2 r1 p1 p2 (by omega) ⟨.bl _, H, I, rfl, by simpa using q⟩
  · exact SeqAt.in_tuple_data r2 r1 p1 p2 (by omega) ⟨.bl _, H, I, rfl, by simpa using q⟩
theorem op_ninX (hu : X.A.units + 64 < cLine) : OpR X (compareOp .NotIn) (rInX X.K true) := by
  intro pins s σ H x y v u Q I rx ry h
  obtain ⟨d, e, xs, hd, he, hi, p1, p2, hm, q⟩ := h
  obtain ⟨as, r1⟩ := hd.reads I rx
  obtain ⟨bs, r2⟩ := he.reads I ry
  cases e <;> try cases hi
  · exact SeqAt.notIn_list_data r2 r1 p1 p2 (by omega) ⟨.bl _, H, I, rfl, by simpa using q⟩
  · exact SeqAt.notIn_tuple_data r2 r1 p1 p2 (by omega) ⟨.bl _, H, I, rfl, by simpa using q⟩
end
/-! isinstance, len -/
def tyD : PyData → String
  | .none => "NoneType" | .bool _ => "bool" | .int _ => "int" | .str _ => "str" | .list _ => "list" | .tuple _ => "tuple" | .dict _ => "dict"
def isiD (T : String) (d : PyData) : Option PyData := (kitB (tyD d) T).map .bool
/-- isinstance, by what stands there -/
def rIsiX (K : PySem.W.Frag) (T : String) : List V → Hp → VK → Prop := fun xs H Q => ∃ x d b, xs = [x, .ty T] ∧ At K H x d ∧ kitB (tyD d) T = some b ∧ Q (.bl b) H
theorem kit_rdx {K : PySem.W.Frag} {s : Shared} {u : Value} {d : PyData} (r : RdX s.heap u d) : ∃ P : Heap → Prop, PySem.W.KitX K u (.type (tyD d)) P ∧ P s.heap ∧ u ≠ .builtin "__main__.__loader__#opaque" := by
  cases r with
  | none => exact ⟨_, PySem.W.kitx_none, True.intro, fun z => nomatch z⟩
  | bool b => exact ⟨_, PySem.W.kitx_bool, True.intro, fun z => nomatch z⟩
  | int i t => exact ⟨_, PySem.W.kitx_int, True.intro, fun z => nomatch z⟩
  | str x t => exact ⟨_, PySem.W.kitx_str, True.intro, fun z => nomatch z⟩
  | list h1 h2 _ _ => exact ⟨_, PySem.W.kitx_list, ⟨_, h1, h2⟩, fun z => nomatch z⟩
  | tuple h1 h2 _ _ => exact ⟨_, PySem.W.kitx_tuple, ⟨_, h1, h2⟩, fun z => nomatch z⟩
  | dict h1 h2 _ _ _ _ => exact ⟨_, PySem.W.kitx_dict, ⟨_, h1, h2⟩, fun z => nomatch z⟩
theorem call_isiX {X : Cx} {T : String} : CallR X (.builtin "isinstance") (rIsiX X.K T) := by
  intro pins s σ H xs us Q I r h
  obtain ⟨x, d, b, rfl, hd, hb, q⟩ := h
  obtain ⟨u1, u2, rfl, r1, r2⟩ := vals2 r
  cases r2
  obtain ⟨P, Z, p, hx⟩ := kit_rdx (K := X.K) (hd.rd I r1)
  exact PySem.W.kia_one Z I.kIn p (kit_ty hb) hx fun tk => ⟨.bl b, H, I.tok tk, rfl, q⟩
def lenD : PyData → Option PyData
  | .list xs => some (.int xs.length)
  | .tuple xs => some (.int xs.length)
  | .str z => if z.length ≤ 100000 then some (.int z.length) else none
  | _ => none
section
variable {X : Cx} {e e1 e2 : Expr} {es : List Expr} {g ga gb : G} {gs : GA} {gt gu : GT} {pos : Pos}
theorem ve_isi {T : String} {call : Expr} (hc : ∀ {t : TE}, PE X e t → PE X call (fun σ H Q => t σ H fun x H1 => rIsiX X.K T [x, .ty T] H1 Q)) (ha : VE X e ga) : VE X call (g1 (isiD T) ga) := by
  refine ve_fn1 (r := fun x H Q => rIsiX X.K T [x, .ty T] H Q) hc (fun {H x a c} h e1 {Q} q => ?_) ha
  unfold isiD at e1
  obtain ⟨b, e3, e4⟩ := Option.map_eq_some_iff.mp e1
  subst e4
  exact ⟨x, a, b, rfl, h, e3, q _ fun _ => .bl _⟩
def rLenX (K : PySem.W.Frag) : List V → Hp → VK → Prop := fun xs H Q => (∃ p ys, xs = [.ref p] ∧ (SqL K H p ys ∨ SqT K H p ys) ∧ Q (.int ys.length) H) ∨ ∃ z, xs = [.str z] ∧ z.length ≤ sizeLine ∧ Q (.int z.length) H
theorem call_lenX : CallR X (.builtin "len") (rLenX X.K) := by
  intro pins s σ H xs us Q I r h
  rcases h with h | h
  · exact call_len_seq pins s σ H xs us Q I r h
  · exact call_len_str pins s σ H xs us Q I r h
theorem o1_len {K : PySem.W.Frag} : O1 K (fun x => rLenX K [x]) lenD := by
  intro H x a c hv e1 Q q
  cases a <;> try cases e1
  · rename_i z
    cases hv
    have e1 : (if z.length ≤ 100000 then some (PyData.int z.length) else none) = some c := e1
    split at e1
    · rename_i hz
      cases e1
      exact .inr ⟨z, rfl, Nat.le_trans hz (by decide), q _ fun _ => .int _⟩
    · cases e1
  · cases hv with
    | lst hs hx => exact .inl ⟨_, _, rfl, .inl (.of hs), q _ fun _ => by rw [hx.length]; exact .int _⟩
  · cases hv with
    | tup hs hx => exact .inl ⟨_, _, rfl, .inr (.of hs), q _ fun _ => by rw [hx.length]; exact .int _⟩
/-! subscripts -/
def ixD (a i : PyData) : Option PyData := match i with
  | .int i => (match itemsD a with
    | some xs => atI xs i
    | none => none)
  | _ => none
def gIx (ga gb : G) : G := fun env => match ga env with
  | some (a, b) => (match gb env with
    | some (i, _) => (ixD a i).map (·, b)
    | none => none)
  | none => none
/-- a name's item: a cell's items are as good as data's -/
def gIxV (i : Nat) (gb : G) : G := fun env => match gV i env with
  | some (a, _) => (match gb env with
    | some (k, _) => (ixD a k).map (·, true)
    | none => none)
  | none => none
theorem atI_ex {α β : Type} {xs : List α} {ys : List β} {i : Int} {y : β} (hl : xs.length = ys.length) (h : atI ys i = some y) : ∃ j : Nat, ys[j]? = some y ∧ ∀ x, xs[j]? = some x → atI xs i = some x := by
  unfold atI at h ⊢
  rw [hl]
  cases s : ixN ys.length i with
  | none => rw [s] at h; cases h
  | some j => rw [s] at h; exact ⟨j, h, fun x e => e⟩
theorem AtAll.atI {K : PySem.W.Frag} {H : Hp} {vs : List V} {ds : List PyData} {i : Int} {d : PyData} (h : AtAll K H vs ds) (e : atI ds i = some d) : ∃ v, L2.atI vs i = some v ∧ At K H v d := by
  obtain ⟨j, h1, h2⟩ := atI_ex h.length e
  obtain ⟨v, h3, h4⟩ := h.get h1
  exact ⟨v, h2 v h3, h4⟩
theorem At.items {K : PySem.W.Frag} {H : Hp} {v : V} {a : PyData} {xs : List PyData} (h : At K H v a) (e : itemsD a = some xs) : ∃ p vs, v = .ref p ∧ (SqL K H p vs ∨ SqT K H p vs) ∧ AtAll K H vs xs := by
  cases a <;> try cases e
  · cases h with
    | lst hs hx => exact ⟨_, _, rfl, .inl (.of hs), hx⟩
  · cases h with
    | tup hs hx => exact ⟨_, _, rfl, .inr (.of hs), hx⟩
theorem ixD_some {a i d : PyData} (h : ixD a i = some d) : ∃ k xs, i = .int k ∧ itemsD a = some xs ∧ L2.atI xs k = some d := by
  unfold ixD at h
  split at h
  · rename_i k
    split at h
    · rename_i xs hx
      exact ⟨k, xs, rfl, hx, h⟩
    · cases h
  · cases h
theorem ve_ix (ha : VE X e1 ga) (hb : VE X e2 gb) (hs : PlainIx e2) : VE X (.Subscript e1 e2 pos) (gIx ga gb) := by
  obtain ⟨t, h1, h2⟩ := ha.ex
  obtain ⟨u, k1, k2⟩ := hb.ex
  refine ⟨_, pe_ix ix_seq h1 k1 hs, fun {H0 A H σ env O} R {d b} e {Q} q => ?_⟩
  unfold gIx at e
  cases s : ga env with
  | none => rw [s] at e; cases e
  | some p =>
    obtain ⟨a, b1⟩ := p
    rw [s] at e
    dsimp only at e
    cases s2 : gb env with
    | none => rw [s2] at e; cases e
    | some p =>
      obtain ⟨a2, b2⟩ := p
      rw [s2] at e
      dsimp only at e
      obtain ⟨c, e1, e2⟩ := Option.map_eq_some_iff.mp e
      cases e2
      obtain ⟨k, xs, rfl, hx, hat⟩ := ixD_some e1
      refine h2 R s fun v H1 s1 hv => k2 (R.same s1) s2 fun w H2 s3 hw => ?_
      cases hw
      obtain ⟨p, vs, rfl, hq, hx⟩ := (hv.same (hb_same s3)).items hx
      obtain ⟨z, hz, hd⟩ := hx.atI hat
      have q' := q _ _ (s1.trans s3) hd
      rcases hq with hq | hq
      · exact .inl ⟨p, vs, k, z, rfl, rfl, hb_sub.seq hq, hz, q'⟩
      · exact .inr (.inl ⟨p, vs, k, z, rfl, rfl, sqT_same hb_sub hq, hz, q'⟩)
theorem ve_ixV {i : Nat} (ha : PE X e1 (tVar i)) (hb : VE X e2 gb) (hs : PlainIx e2) : VE X (.Subscript e1 e2 pos) (gIxV i gb) := by
  obtain ⟨u, k1, k2⟩ := hb.ex
  refine ⟨_, pe_ix ix_seq ha k1 hs, fun {H0 A H σ env O} R {d b} e {Q} q => ?_⟩
  unfold gIxV at e
  cases s : gV i env with
  | none => rw [s] at e; cases e
  | some p =>
    obtain ⟨a, b1⟩ := p
    rw [s] at e
    dsimp only at e
    cases s2 : gb env with
    | none => rw [s2] at e; cases e
    | some p =>
      obtain ⟨a2, b2⟩ := p
      rw [s2] at e
      dsimp only at e
      obtain ⟨c, e1, e2⟩ := Option.map_eq_some_iff.mp e
      cases e2
      obtain ⟨k, xs, rfl, hx, hat⟩ := ixD_some e1
      unfold gV at s
      split at s
      · rename_i d' h
        cases s
        obtain ⟨x, h1, h3⟩ := R.dat h
        refine ⟨x, h1, k2 R s2 fun w H2 s3 hw => ?_⟩
        cases hw
        obtain ⟨p, vs, rfl, hq, hx⟩ := (h3.same (hm_same s3)).items hx
        obtain ⟨z, hz, hd⟩ := hx.atI hat
        have q' := q _ _ s3 hd
        rcases hq with hq | hq
        · exact .inl ⟨p, vs, k, z, rfl, rfl, (hm_sub _ _).seq hq, hz, q'⟩
        · exact .inr (.inl ⟨p, vs, k, z, rfl, rfl, sqT_same (hm_sub _ _) hq, hz, q'⟩)
      · rename_i xs' h
        cases s
        cases hx
        obtain ⟨p, vs, h1, h3, h4, h5⟩ := R.lst h
        refine ⟨.ref p, h1, k2 R s2 fun w H2 s3 hw => ?_⟩
        cases hw
        obtain ⟨z, hz, hd⟩ := (h5.same (hm_same s3)).atI hat
        exact .inl ⟨p, vs, k, z, rfl, rfl, .of (s3 _ _ h4), hz, q _ _ s3 hd⟩
      · cases s
        cases hx
      · cases s
end
end L2.Vs

set_option Elab.async false
set_option linter.all false
set_option maxRecDepth 100000
set_option maxHeartbeats 4000000
namespace L2.Vs
open PySem PySem.Spec PyProof.Rows L2 L2.Dx
/-! readings of their own -/
def tVE (K : PySem.W.Frag) (g : G) : TE := fun σ H Q => ∃ (H0 : Hp) (A : Ads) (env : Env) (O : Ads) (d : PyData) (b : Bool), Rep K H0 A H σ env O ∧ g env = some (d, b) ∧ ∀ v H', Same H H' → At K (HB b H' O A) v d → Q v H'
def tVT (K : PySem.W.Frag) (g : GT) : TT := fun σ H Q => ∃ (H0 : Hp) (A : Ads) (env : Env) (O : Ads) (k : Bool), Rep K H0 A H σ env O ∧ g env = some k ∧ ∀ H', Same H H' → Q k H'
theorem VE.pe {X : Cx} {e : Expr} {g : G} (h : VE X e g) : PE X e (tVE X.K g) := by
  obtain ⟨t, h1, h2⟩ := h.ex
  exact ⟨fun pins s σ H Q I z => z.elim fun H0 z => z.elim fun A z => z.elim fun env z => z.elim fun O z => z.elim fun d z => z.elim fun b ⟨R, e, q⟩ => h1.run pins s σ H Q I (h2 R e q)⟩
theorem VT.pt {X : Cx} {e : Expr} {g : GT} (h : VT X e g) : PT X e (tVT X.K g) := by
  obtain ⟨t, h1, h2⟩ := h.ex
  exact ⟨fun pins s σ H Q I z => z.elim fun H0 z => z.elim fun A z => z.elim fun env z => z.elim fun O z => z.elim fun k ⟨R, e, q⟩ => h1.run pins s σ H Q I (h2 R e q)⟩
/-- a comprehension's tests -/
def VTs (X : Cx) (ifs : List Expr) (g : GT) : Prop := PTs X ifs (tVT X.K g)
def gYes : GT := fun _ => some true
theorem vts_nil {X : Cx} : VTs X [] gYes := ⟨fun pins s σ H Q I h => by
  obtain ⟨H0, A, env, O, k, R, e, q⟩ := h
  cases e
  exact (pts_nil (X := X)).run pins s σ H Q I (q _ (Same.refl _))⟩
theorem vts_one {X : Cx} {c : Expr} {g : GT} (h : VT X c g) : VTs X [c] g := pts_one h.pt
/-! targets -/
def Ag (sl : List Nat) (τ σ : St) : Prop := τ.length = σ.length ∧ ∀ j, j ∉ sl → τ[j]? = σ[j]?
structure VG (X : Cx) (tg : Expr) (g : PyData → Env → Option Env) (sl : List Nat) : Prop where
  ex : ∃ t, PG X tg t ∧ ∀ {H0 : Hp} {A : Ads} {H : Hp} {σ : St} {env : Env} {O : Ads}, Rep X.K H0 A H σ env O → ∀ {x : V} {d : PyData} {env' : Env}, At X.K (Hm H (orX O A)) x d → g d env = some env' →
    ∀ {Q : St → Hp → Prop}, (∀ σ', Rep X.K H0 A H σ' env' O → Ag sl σ' σ → Q σ' H) → t x σ H Q
structure VGs (X : Cx) (ts : List Expr) (g : List PyData → Env → Option Env) (sl : List Nat) : Prop where
  ex : ∃ t, PGs X ts t ∧ ∀ {H0 : Hp} {A : Ads} {H : Hp} {σ : St} {env : Env} {O : Ads}, Rep X.K H0 A H σ env O → ∀ {xs : List V} {ds : List PyData} {env' : Env}, AtAll X.K (Hm H (orX O A)) xs ds → g ds env = some env' →
    ∀ {Q : St → Hp → Prop}, (∀ σ', Rep X.K H0 A H σ' env' O → Ag sl σ' σ → Q σ' H) → t xs σ H Q
def gSet (i : Nat) : PyData → Env → Option Env := fun d env => some (env.set i (.dat d))
def gsNil : List PyData → Env → Option Env
  | [], env => some env
  | _, _ => none
def gsCons (g : PyData → Env → Option Env) (gs : List PyData → Env → Option Env) : List PyData → Env → Option Env
  | d :: ds, env => (match g d env with
    | some env1 => gs ds env1
    | none => none)
  | [], _ => none
def gTg (n : Nat) (gs : List PyData → Env → Option Env) : PyData → Env → Option Env
  | .tuple ds, env => if ds.length = n then gs ds env else none
  | _, _ => none
section
variable {X : Cx}
theorem vg_name {i : Nat} {e : Expr} (h : PG X e (gName i)) : VG X e (gSet i) [i] :=
  ⟨gName i, h, fun R _ _ _ hx e Q q => by
    cases e
    exact q _ (R.setD hx) ⟨List.length_set, fun j hj => List.getElem?_set_ne (by simpa [eq_comm] using hj)⟩⟩
theorem vgs_nil : VGs X [] gsNil [] := ⟨L2.gNil, L2.pgs_nil, fun R xs ds env' hx e Q q => by
  cases hx
  · cases e
    exact ⟨rfl, q _ R ⟨rfl, fun _ _ => rfl⟩⟩
  · cases e⟩
theorem vgs_cons {e : Expr} {es : List Expr} {g : PyData → Env → Option Env} {gs : List PyData → Env → Option Env} {s1 s2 : List Nat} (h1 : VG X e g s1) (h2 : VGs X es gs s2)
    (hp : ∀ {t u}, PG X e t → PGs X es u → PGs X (e :: es) (L2.gCons t u)) : VGs X (e :: es) (gsCons g gs) (s1 ++ s2) := by
  obtain ⟨t, k1, k2⟩ := h1.ex
  obtain ⟨u, l1, l2⟩ := h2.ex
  refine ⟨_, hp k1 l1, fun {H0 A H σ env O} R {xs ds env'} hx e {Q} q => ?_⟩
  cases hx with
  | nil => cases e
  | cons hv hr =>
    unfold gsCons at e
    dsimp only at e
    split at e
    · rename_i env1 s
      exact ⟨_, _, rfl, k2 R hv s fun σ1 R1 a1 => l2 R1 hr e fun σ2 R2 a2 => q _ R2 ⟨a2.1.trans a1.1, fun j hj => (a2.2 j fun z => hj (List.mem_append_right _ z)).trans (a1.2 j fun z => hj (List.mem_append_left _ z))⟩⟩
    · cases e
theorem vg_tup {es : List Expr} {k : Nat} {pos : Pos} {n : Nat} {gs : List PyData → Env → Option Env} {sl : List Nat} (h : VGs X es gs sl) (hp : ∀ {t}, PGs X es t → PG X (.Tuple es k pos) (L2.gTup X.K n t)) : VG X (.Tuple es k pos) (gTg n gs) sl := by
  obtain ⟨t, k1, k2⟩ := h.ex
  refine ⟨_, hp k1, fun {H0 A H σ env O} R {x d env'} hx e {Q} q => ?_⟩
  unfold gTg at e
  split at e
  · rename_i ds
    split at e
    · rename_i hl
      cases hx with
      | tup hs ha => exact ⟨_, _, rfl, .of (hm_sub _ _ _ _ hs), by rw [ha.length]; exact hl, k2 R ha e q⟩
    · cases e
  · cases e
end
/-! what a loop walks -/
structure IterOk (K : PySem.W.Frag) (J : It) (ds : List PyData) (S C : Hp) : Prop where
  stop : ∀ {H1 : Hp} {Y : Ads}, Same S (Hm H1 Y) → Same C H1 → J.stop ds.length H1
  go : ∀ {H1 : Hp} {Y : Ads}, (∀ a, Y a → ∃ o, H1 a = some o ∧ nt o = true) → Same S (Hm H1 Y) → Same C H1 → ∀ {i : Nat} {d : PyData}, ds[i]? = some d → J.go i H1 ∧ ∀ x H2, J.yld i H1 x H2 → Same H1 H2 ∧ At K (Hm H2 Y) x d
structure VI (X : Cx) (tg iter : Expr) (g : GF) : Prop where
  ex : ∃ wi, PI X tg iter wi ∧ ∀ {H0 : Hp} {A : Ads} {H : Hp} {σ : St} {env : Env} {O : Ads}, Rep X.K H0 A H σ env O → ∀ {ds : List PyData}, g env = some ds → ∀ {Rq : It → Hp → Prop}, (∀ J C H', Same H H' → Same C (Hm H' (orX O A)) → IterOk X.K J ds (Hm H' (orX O A)) C → Rq J H') → wi σ H Rq
/-- in a comprehension: what is walked may be a cell -/
def VIr (K : PySem.W.Frag) (wi : TI) (g : GF) : Prop := ∀ {H0 : Hp} {A : Ads} {H : Hp} {σ : St} {env : Env} {O : Ads}, Rep K H0 A H σ env O → ∀ {ds : List PyData}, g env = some ds → ∀ {Rq : It → Hp → Prop}, (∀ J C H', Same H H' → Same C H' → IterOk K J ds (Hm H' (orX O A)) C → Rq J H') → wi σ H Rq
structure VIc (X : Cx) (tg iter : Expr) (g : GF) : Prop where
  ex : ∃ wi, PI X tg iter wi ∧ VIr X.K wi g
theorem VI.c {X : Cx} {tg iter : Expr} {g : GF} (h : VI X tg iter g) : VIc X tg iter g := by
  obtain ⟨wi, h1, h2⟩ := h.ex
  exact ⟨wi, h1, fun R _ e _ q => h2 R e fun J C H' s c i => q J C H' s (c.trans (hm_sub _ _)) i⟩
def gItL (g : G) : GF := fun env => match g env with
  | some (.list xs, true) => some xs
  | _ => none
def gItT (g : G) : GF := fun env => match g env with
  | some (.tuple xs, true) => some xs
  | _ => none
def rngD (lo : Int) (n : Nat) : List PyData := (List.range n).map fun k => .int (lo + (k : Nat))
def gRng1 (g : G) : GF := fun env => match g env with
  | some (.int j, _) => if j < 1000000 ∧ -1000000 < j then some (rngD 0 j.toNat) else none
  | _ => none
def gRng2 (ga gb : G) : GF := fun env => match ga env with
  | some (.int i, _) => (match gb env with
    | some (.int j, _) => if (j < 1000000 ∧ -1000000 < j) ∧ i < 1000000 ∧ -1000000 < i then some (rngD i (j - i).toNat) else none
    | _ => none)
  | _ => none
def enumD (xs : List PyData) : List PyData := xs.mapIdx fun i d => .tuple [.int (i : Nat), d]
def gEnum (g : G) : GF := fun env => match g env with
  | some (.list xs, true) => some (enumD xs)
  | _ => none
def zipD (xs ys : List PyData) : List PyData := List.zipWith (fun x y => .tuple [x, y]) xs ys
def gZip (ga gb : G) : GF := fun env => match ga env with
  | some (.list xs, true) => (match gb env with
    | some (.list ys, true) => some (zipD xs ys)
    | _ => none)
  | _ => none
section
variable {X : Cx} {e e1 e2 tg iter : Expr} {g ga gb : G}
theorem vi_list (h : VE X e g) (hp : ∀ {t}, PE X e t → PI X tg iter (iList X.K t)) : VI X tg iter (gItL g) := by
  obtain ⟨t, h1, h2⟩ := h.ex
  refine ⟨_, hp h1, fun {H0 A H σ env O} R {ds} e {Rq} q => ?_⟩
  unfold gItL at e
  split at e
  · rename_i xs s
    cases e
    refine h2 R s fun v H1 s1 hv => ?_
    cases hv with
    | lst hs0 ha =>
      have hs : SqL X.K _ _ _ := .of hs0
      refine ⟨_, rfl, ⟨_, (hm_sub _ _).seq hs⟩, q _ _ _ s1 (Same.refl _) ⟨fun {H2 Y} sm _ => ⟨_, (sm.trans (hm_sub _ _)).seq hs, by rw [ha.length]; exact Nat.le_refl _⟩, fun {H2 Y} _ sm _ {i d} e => ?_⟩⟩
      obtain ⟨v, k1, k2⟩ := ha.get e
      refine ⟨⟨_, v, (sm.trans (hm_sub _ _)).seq hs, k1⟩, fun x H3 y => ?_⟩
      obtain ⟨rfl, y⟩ := y
      have := y _ ((sm.trans (hm_sub _ _)).seq hs)
      rw [k1] at this
      cases this
      exact ⟨Same.refl _, k2.same sm⟩
  · cases e
theorem vi_tup (h : VE X e g) (hp : ∀ {t}, PE X e t → PI X tg iter (iTup X.K t)) : VI X tg iter (gItT g) := by
  obtain ⟨t, h1, h2⟩ := h.ex
  refine ⟨_, hp h1, fun {H0 A H σ env O} R {ds} e {Rq} q => ?_⟩
  unfold gItT at e
  split at e
  · rename_i xs s
    cases e
    refine h2 R s fun v H1 s1 hv => ?_
    cases hv with
    | tup hs0 ha =>
      have hs : SqT X.K _ _ _ := .of hs0
      refine ⟨_, rfl, ⟨_, sqT_same (hm_sub _ _) hs⟩, q _ _ _ s1 (Same.refl _) ⟨fun {H2 Y} sm _ => ⟨_, sqT_same (sm.trans (hm_sub _ _)) hs, by rw [ha.length]; exact Nat.le_refl _⟩, fun {H2 Y} _ sm _ {i d} e => ?_⟩⟩
      obtain ⟨v, k1, k2⟩ := ha.get e
      refine ⟨⟨_, v, sqT_same (sm.trans (hm_sub _ _)) hs, k1⟩, fun x H3 y => ?_⟩
      obtain ⟨rfl, y⟩ := y
      have := y _ (sqT_same (sm.trans (hm_sub _ _)) hs)
      rw [k1] at this
      cases this
      exact ⟨Same.refl _, k2.same sm⟩
  · cases e
theorem iter_rng {K : PySem.W.Frag} {S C : Hp} {lo : Int} {n : Nat} : IterOk K (Itr lo n) (rngD lo n) S C :=
  ⟨fun _ _ => by show n ≤ (rngD lo n).length; simp [rngD], fun {H1 Y} _ sm _ {i d} e => by
    unfold rngD at e
    rw [List.getElem?_map] at e
    obtain ⟨k, h1, rfl⟩ := Option.map_eq_some_iff.mp e
    have hi : i < n := by have := (List.getElem?_eq_some_iff.mp h1).1; simpa using this
    have hk : k = i := by
      rw [List.getElem?_range hi] at h1
      exact (Option.some.inj h1).symm
    subst hk
    exact ⟨hi, fun x H2 ⟨y1, y2⟩ => by subst y1; subst y2; exact ⟨Same.refl _, .int _⟩⟩⟩
theorem vi_rng1 (h : VE X e g) (hp : ∀ {t}, PE X e t → PI X tg iter (iRng1 (tCons t tNil))) : VI X tg iter (gRng1 g) := by
  obtain ⟨t, h1, h2⟩ := h.ex
  refine ⟨_, hp h1, fun {H0 A H σ env O} R {ds} e {Rq} q => ?_⟩
  unfold gRng1 at e
  split at e
  · rename_i j b s
    split at e
    · rename_i hj
      cases e
      refine h2 R s fun v H1 s1 hv => ?_
      cases hv
      exact ⟨j, rfl, by omega, by omega, q _ _ _ s1 (Same.refl _) iter_rng⟩
    · cases e
  · cases e
theorem vi_rng2 (h : VE X e1 ga) (h' : VE X e2 gb) (hp : ∀ {t u}, PE X e1 t → PE X e2 u → PI X tg iter (iRng2 (tCons t (tCons u tNil)))) : VI X tg iter (gRng2 ga gb) := by
  obtain ⟨t, h1, h2⟩ := h.ex
  obtain ⟨u, k1, k2⟩ := h'.ex
  refine ⟨_, hp h1 k1, fun {H0 A H σ env O} R {ds} e {Rq} q => ?_⟩
  unfold gRng2 at e
  split at e
  · rename_i i b s
    split at e
    · rename_i j b2 s2
      split at e
      · rename_i hj
        cases e
        refine h2 R s fun v H1 s1 hv => k2 (R.same s1) s2 fun w H2 s3 hw => ?_
        cases hv
        cases hw
        exact ⟨i, j, rfl, ⟨by omega, by omega, by omega, by omega⟩, q _ _ _ (s1.trans s3) (Same.refl _) iter_rng⟩
      · cases e
    · cases e
  · cases e
theorem new_hm {H1 : Hp} {Y : Ads} {T : Addr} {o : HO} (hY : ∀ a, Y a → ∃ o, H1 a = some o ∧ nt o = true) (hT : H1 T = none) : Hm (upd H1 T o) Y T = some o := by
  rw [hm_in fun z => (hY T z).elim fun _ e => by rw [hT] at e; cases e.1]
  exact upd_same
theorem vi_enum (h : VE X e g) (hp : ∀ {t}, PE X e t → PI X tg iter (iEnum X.K (tCons t tNil))) : VI X tg iter (gEnum g) := by
  obtain ⟨t, h1, h2⟩ := h.ex
  refine ⟨_, hp h1, fun {H0 A H σ env O} R {ds} e {Rq} q => ?_⟩
  unfold gEnum at e
  split at e
  · rename_i xs s
    cases e
    refine h2 R s fun v H1 s1 hv => ?_
    cases hv with
    | lst hs0 ha =>
      have hs : SqL X.K _ _ _ := .of hs0
      refine ⟨_, _, rfl, (hm_sub _ _).seq hs, q _ _ _ s1 (Same.refl _) ⟨fun {H2 Y} sm _ => ⟨_, (sm.trans (hm_sub _ _)).seq hs, by rw [ha.length]; simp [enumD]⟩, fun {H2 Y} hY sm _ {i d} e => ?_⟩⟩
      unfold enumD at e
      rw [List.getElem?_mapIdx] at e
      obtain ⟨d0, e0, rfl⟩ := Option.map_eq_some_iff.mp e
      obtain ⟨v, k1, k2⟩ := ha.get e0
      refine ⟨⟨_, v, (sm.trans (hm_sub _ _)).seq hs, k1⟩, fun x H3 y => ?_⟩
      obtain ⟨T, x', rfl, hT, rfl, y⟩ := y
      have := y _ ((sm.trans (hm_sub _ _)).seq hs)
      rw [k1] at this
      cases this
      have sn := same_new (o := .tup [.int (i : Nat), v]) hT
      exact ⟨sn, .tup (new_hm hY hT) (.cons (.int _) (.one (k2.same (sm.trans (hm_same sn)))))⟩
  · cases e
theorem vi_zip (h : VE X e1 ga) (h' : VE X e2 gb) (hp : ∀ {t u}, PE X e1 t → PE X e2 u → PI X tg iter (iZip X.K (tCons t (tCons u tNil)))) : VI X tg iter (gZip ga gb) := by
  obtain ⟨t, h1, h2⟩ := h.ex
  obtain ⟨u, l1, l2⟩ := h'.ex
  refine ⟨_, hp h1 l1, fun {H0 A H σ env O} R {ds} e {Rq} q => ?_⟩
  unfold gZip at e
  split at e
  · rename_i xs s
    split at e
    · rename_i ys s2
      cases e
      refine h2 R s fun v H1 s1 hv => l2 (R.same s1) s2 fun w H2 s3 hw => ?_
      have hv := hv.same (hb_same (b := true) s3)
      cases hv with
      | lst hs0 ha =>
        have hs : SqL X.K _ _ _ := .of hs0
        cases hw with
        | lst hs0' ha' =>
          have hs' : SqL X.K _ _ _ := .of hs0'
          have L1 := ha.length
          have L2 := ha'.length
          refine ⟨_, _, _, _, rfl, (hm_sub _ _).seq hs, (hm_sub _ _).seq hs', q _ _ _ (s1.trans s3) (Same.refl _) ⟨fun {H3 Y} sm _ => ⟨_, _, (sm.trans (hm_sub _ _)).seq hs, (sm.trans (hm_sub _ _)).seq hs', ?_⟩, fun {H3 Y} hY sm _ {i d} e => ?_⟩⟩
          · rw [L1, L2]
            unfold zipD
            rw [List.length_zipWith]
            omega
          unfold zipD at e
          rw [List.getElem?_zipWith] at e
          split at e
          · rename_i d1 d2 e1 e2
            cases e
            obtain ⟨v, k1, k2⟩ := ha.get e1
            obtain ⟨w, m1, m2⟩ := ha'.get e2
            refine ⟨⟨_, _, v, w, (sm.trans (hm_sub _ _)).seq hs, (sm.trans (hm_sub _ _)).seq hs', k1, m1⟩, fun x H4 y => ?_⟩
            obtain ⟨T, x', y', rfl, hT, rfl, y, z⟩ := y
            have := y _ ((sm.trans (hm_sub _ _)).seq hs)
            rw [k1] at this
            cases this
            have := z _ ((sm.trans (hm_sub _ _)).seq hs')
            rw [m1] at this
            cases this
            have sn := same_new (o := .tup [v, w]) hT
            exact ⟨sn, .tup (new_hm hY hT) (.cons (k2.same (sm.trans (hm_same sn))) (.one (m2.same (sm.trans (hm_same sn)))))⟩
          · cases e
    · cases e
  · cases e
end
end L2.Vs

set_option Elab.async false
set_option linter.all false
set_option maxRecDepth 100000
set_option maxHeartbeats 4000000
namespace L2.Vs
open PySem PySem.Spec PyProof.Rows L2 L2.Dx
/-! the readings alone -/
def VFr (K : PySem.W.Frag) (t : TE) (g : GF) : Prop := ∀ {H0 : Hp} {A : Ads} {H : Hp} {σ : St} {env : Env} {O : Ads}, Rep K H0 A H σ env O → ∀ {xs : List PyData}, g env = some xs → ∀ {Q : VK},
    (∀ p vs H', Same H H' → H p = none → H' p = some (.lst vs) → AtAll K (Hm H' (orX (addX O p) A)) vs xs → Q (.ref p) H') → t σ H Q
def VEr (K : PySem.W.Frag) (t : TE) (g : G) : Prop := ∀ {H0 : Hp} {A : Ads} {H : Hp} {σ : St} {env : Env} {O : Ads}, Rep K H0 A H σ env O → ∀ {d : PyData} {b : Bool}, g env = some (d, b) → ∀ {Q : VK}, (∀ v H', Same H H' → At K (HB b H' O A) v d → Q v H') → t σ H Q
theorem VFr.e {K : PySem.W.Frag} {t : TE} {g : GF} (h : VFr K t g) : VEr K t (gF g) := by
  intro H0 A H σ env O R d b e Q q
  obtain ⟨xs, s, e2⟩ := Option.map_eq_some_iff.mp e
  cases e2
  refine h R s fun p vs H1 s1 hp hH hvs => q _ _ s1 ?_
  show At K (Hm H1 (orX O A)) _ _
  refine .lst ?_ (hvs.same (hm_le fun a z => z.elim (fun z => .inl (.inr z)) .inr))
  rw [hm_in (new_in R hp)]
  exact hH
/-! an operand that is a list: data, or a cell -/
abbrev GL := Env → Option (List PyData)
structure VL (X : Cx) (e : Expr) (g : GL) : Prop where
  ex : ∃ t, PE X e t ∧ ∀ {H0 : Hp} {A : Ads} {H : Hp} {σ : St} {env : Env} {O : Ads}, Rep X.K H0 A H σ env O → ∀ {xs : List PyData}, g env = some xs → ∀ {Q : VK},
    (∀ p vs H', Same H H' → H' p = some (.lst vs) → AtAll X.K (Hm H' (orX O A)) vs xs → Q (.ref p) H') → t σ H Q
def gLV (i : Nat) : GL := fun env => match env[i]? with
  | some (.dat (.list xs)) => some xs
  | some (.lst xs) => some xs
  | _ => none
/-! slices -/
structure VO (X : Cx) (e : Option Expr) (g : Env → Option (Option Int)) : Prop where
  ex : ∃ t, PO X e t ∧ ∀ {H0 : Hp} {A : Ads} {H : Hp} {σ : St} {env : Env} {O : Ads}, Rep X.K H0 A H σ env O → ∀ {i : Option Int}, g env = some i → ∀ {Q : Option Int → Hp → Prop}, (∀ H', Same H H' → Q i H') → t σ H Q
def gNo : Env → Option (Option Int) := fun _ => some none
def gPart (g : G) : Env → Option (Option Int) := fun env => match g env with
  | some (.int i, _) => some (some i)
  | _ => none
def cutD (xs : List PyData) (lo hi : Option Int) : List PyData := (xs.drop (HT.sIx xs.length 0 lo)).take (HT.sIx xs.length xs.length hi - HT.sIx xs.length 0 lo)
def gSl (g : GL) (lo hi : Env → Option (Option Int)) : GF := fun env => match g env with
  | some xs => (match lo env with
    | some l => (match hi env with
      | some h => some (cutD xs l h)
      | none => none)
    | none => none)
  | none => none
/-! comprehensions -/
def wipeE (env : Env) : List Nat → Env
  | [] => env
  | v :: vs => (wipeE env vs).set v .un
def compL (gt : GT) (ge : G) (tg : PyData → Env → Option Env) (env : Env) : List PyData → Option (List PyData)
  | [] => some []
  | d :: ds => match tg d env with
    | none => none
    | some env1 => match gt env1 with
      | none => none
      | some false => compL gt ge tg env ds
      | some true => match ge env1 with
        | some (y, true) => (compL gt ge tg env ds).map (y :: ·)
        | _ => none
def gLc (gi : GF) (gt : GT) (ge : G) (tg : PyData → Env → Option Env) (vs : List Nat) : GF := fun env => match gi env with
  | some ds => if ds.length ≤ 100000 then compL gt ge tg (wipeE env vs) ds else none
  | none => none
def tVG (K : PySem.W.Frag) (g : PyData → Env → Option Env) (sl : List Nat) : TG := fun x σ H Q => ∃ (H0 : Hp) (A : Ads) (env : Env) (O : Ads) (d : PyData) (env' : Env), Rep K H0 A H σ env O ∧ At K (Hm H (orX O A)) x d ∧ g d env = some env' ∧
  ∀ σ', Rep K H0 A H σ' env' O → Ag sl σ' σ → Q σ' H
theorem VG.pg {X : Cx} {tg : Expr} {g : PyData → Env → Option Env} {sl : List Nat} (h : VG X tg g sl) : PG X tg (tVG X.K g sl) := by
  obtain ⟨t, h1, h2⟩ := h.ex
  exact ⟨fun pins s σ H x u Q I r z => z.elim fun H0 z => z.elim fun A z => z.elim fun env z => z.elim fun O z => z.elim fun d z => z.elim fun env' ⟨R, ha, e, q⟩ => h1.run pins s σ H x u Q I r (h2 R ha e q)⟩
section
variable {X : Cx} {e e1 e2 : Expr} {g ga gb : G} {gl gl2 : GL}
theorem vl_var {i : Nat} (h : PE X e (tVar i)) : VL X e (gLV i) := by
  refine ⟨tVar i, h, fun {H0 A H σ env O} R {xs} e {Q} q => ?_⟩
  unfold gLV at e
  split at e
  · rename_i ys s
    cases e
    obtain ⟨x, h1, h2⟩ := R.dat s
    cases h2 with
    | lst hs ha => exact ⟨_, h1, q _ _ _ (Same.refl _) (hm_sub _ _ _ _ hs) ha⟩
  · rename_i ys s
    cases e
    obtain ⟨a, vs, h1, h2, h3, h4⟩ := R.lst s
    exact ⟨_, h1, q _ _ _ (Same.refl _) h3 h4⟩
  · cases e
theorem vl_e (h : VE X e g) : VL X e (gItL g) := by
  obtain ⟨t, h1, h2⟩ := h.ex
  refine ⟨t, h1, fun {H0 A H σ env O} R {xs} e {Q} q => ?_⟩
  unfold gItL at e
  split at e
  · rename_i ys s
    cases e
    refine h2 R s fun v H1 s1 hv => ?_
    cases hv with
    | lst hs ha => exact q _ _ _ s1 (hm_sub _ _ _ _ hs) ha
  · cases e
theorem vo_none : VO X none gNo := ⟨_, po_none, fun R _ e _ q => by cases e; exact q _ (Same.refl _)⟩
theorem vo_some (h : VE X e g) : VO X (some e) (gPart g) := by
  obtain ⟨t, h1, h2⟩ := h.ex
  refine ⟨_, po_some h1, fun {H0 A H σ env O} R {i} e {Q} q => ?_⟩
  unfold gPart at e
  split at e
  · rename_i k b s
    cases e
    refine h2 R s fun v H1 s1 hv => ?_
    cases hv
    exact ⟨k, rfl, q _ s1⟩
  · cases e
theorem AtAll.cut {K : PySem.W.Frag} {H : Hp} {vs : List V} {ds : List PyData} (h : AtAll K H vs ds) (lo hi : Option Int) : AtAll K H (cutV vs lo hi) (cutD ds lo hi) := by
  unfold cutV cutD
  rw [h.length]
  exact (h.drop _).take _
theorem vf_slice {lo hi : Option Expr} {l h : Env → Option (Option Int)} {call : Expr} (hl : VL X e gl) (h1 : VO X lo l) (h2 : VO X hi h) (hp : ∀ {t u w}, PE X e t → PO X lo u → PO X hi w → PE X call (tSl (rSlL X.K) t u w)) : VF X call (gSl gl l h) := by
  obtain ⟨t, k1, k2⟩ := hl.ex
  obtain ⟨u, l1, l2⟩ := h1.ex
  obtain ⟨w, m1, m2⟩ := h2.ex
  refine ⟨_, hp k1 l1 m1, fun {H0 A H σ env O} R {xs} e {Q} q => ?_⟩
  unfold gSl at e
  split at e
  · rename_i ys s
    split at e
    · rename_i i s2
      split at e
      · rename_i j s3
        cases e
        refine k2 R s fun p vs H1 q1 hs ha => l2 (R.same q1) s2 fun H2 q2 => m2 (R.same (q1.trans q2)) s3 fun H3 q3 => ?_
        refine ⟨p, vs, rfl, .of ((q2.trans q3) _ _ hs), fun d hd => ?_⟩
        have sn := same_new (o := .lst (cutV vs i j)) hd
        have s03 := q1.trans (q2.trans q3)
        exact q _ _ _ (s03.trans sn) (s03.free hd) upd_same (((ha.cut i j).same (hm_same (q2.trans q3))).same (hm_new sn hd))
      · cases e
    · cases e
  · cases e
/-- list(x) -/
theorem vf_listOf {call : Expr} (hl : VL X e gl) (hp : ∀ {t}, PE X e t → PE X call (fun σ H Q => t σ H fun x H1 => ∃ p ys, [x] = [V.ref p] ∧ (SqL X.K H1 p ys ∨ SqT X.K H1 p ys) ∧ ∀ l, H1 l = none → Q (.ref l) (upd H1 l (.lst ys)))) : VF X call gl := by
  obtain ⟨t, k1, k2⟩ := hl.ex
  refine ⟨_, hp k1, fun {H0 A H σ env O} R {xs} e {Q} q => ?_⟩
  refine k2 R e fun p vs H1 q1 hs ha => ⟨p, vs, rfl, .inl (.of hs), fun d hd => ?_⟩
  have sn := same_new (o := .lst vs) hd
  exact q _ _ _ (q1.trans sn) (q1.free hd) upd_same (ha.same (hm_new sn hd))
end
theorem vic_cell {X : Cx} {i : Nat} {tg iter : Expr} (h : PE X iter (tVar i)) (hp : ∀ {t}, PE X iter t → PI X tg iter (iList X.K t)) : VIc X tg iter (gLV i) := by
  refine ⟨_, hp h, fun {H0 A H σ env O} R {ds} e {Rq} q => ?_⟩
  obtain ⟨t, h1, h2⟩ := (vl_var h).ex
  have key : ∃ p vs, σ[i]? = some (some (.ref p)) ∧ H p = some (.lst vs) ∧ AtAll X.K (Hm H (orX O A)) vs ds := by
    unfold gLV at e
    split at e
    · rename_i ys s
      cases e
      obtain ⟨x, k1, k2⟩ := R.dat s
      cases k2 with
      | lst hs ha => exact ⟨_, _, k1, hm_sub _ _ _ _ hs, ha⟩
    · rename_i ys s
      cases e
      obtain ⟨a, vs, k1, k2, k3, k4⟩ := R.lst s
      exact ⟨a, vs, k1, k3, k4⟩
    · cases e
  obtain ⟨p, vs, k1, k3, k4⟩ := key
  refine ⟨.ref p, k1, p, rfl, ⟨_, .of k3⟩, q _ (fun a => if a = p then some (.lst vs) else none) _ (Same.refl _) (fun a o z => ?_) ⟨fun {H2 Y} _ c => ?_, fun {H2 Y} _ sm c {j d} e => ?_⟩⟩
  · dsimp only at z
    split at z
    · rename_i ep
      rw [ep, ← z]
      exact k3
    · cases z
  · exact ⟨vs, .of (c p _ (if_pos rfl)), by rw [k4.length]; exact Nat.le_refl _⟩
  · have hp2 : H2 p = some (.lst vs) := c p _ (if_pos rfl)
    obtain ⟨v, m1, m2⟩ := k4.get e
    refine ⟨⟨vs, v, .of hp2, m1⟩, fun x H3 y => ?_⟩
    obtain ⟨rfl, y⟩ := y
    have := y vs (.of hp2)
    rw [m1] at this
    cases this
    exact ⟨Same.refl _, m2.same sm⟩
/-! comprehensions: the reading -/
section
variable {K : PySem.W.Frag} {H0 H H' : Hp} {σ : St} {env : Env} {A O : Ads}
theorem Rep.wipe (R : Rep K H0 A H σ env O) : ∀ vs : List Nat, Rep K H0 A H (L2.wipe σ vs) (wipeE env vs) O
  | [] => R
  | v :: vs => (Rep.wipe R vs).un none
theorem wipe_get {σ : St} {j : Nat} : ∀ {vs : List Nat}, j ∉ vs → (L2.wipe σ vs)[j]? = σ[j]?
  | [], _ => rfl
  | v :: vs, h => by
    show ((L2.wipe σ vs).set v none)[j]? = _
    rw [List.getElem?_set_ne (by rintro rfl; exact h List.mem_cons_self)]
    exact wipe_get fun z => h (List.mem_cons_of_mem _ z)
theorem wipe_own {σ : St} {j : Nat} (hj : j < σ.length) : ∀ {vs : List Nat}, j ∈ vs → (L2.wipe σ vs)[j]? = some none
  | v :: vs, h => by
    show ((L2.wipe σ vs).set v none)[j]? = _
    by_cases e : v = j
    · subst e
      exact List.getElem?_set_self (by rw [wipe_length]; exact hj)
    · rw [List.getElem?_set_ne e]
      exact wipe_own hj ((List.mem_cons.mp h).resolve_left (Ne.symm e))
theorem wipe_ext {σ τ : St} {vs : List Nat} (hl : τ.length = σ.length) (h : ∀ j, j ∉ vs → τ[j]? = σ[j]?) : L2.wipe τ vs = L2.wipe σ vs := by
  refine List.ext_getElem? fun j => ?_
  by_cases hj : j ∈ vs
  · by_cases l : j < σ.length
    · rw [wipe_own l hj, wipe_own (by rw [hl]; exact l) hj]
    · rw [List.getElem?_eq_none (by rw [wipe_length]; omega), List.getElem?_eq_none (by rw [wipe_length]; omega)]
  · rw [wipe_get hj, wipe_get hj, h j hj]
theorem wipe_wipe {σ : St} {vs : List Nat} : L2.wipe (L2.wipe σ vs) vs = L2.wipe σ vs := wipe_ext (wipe_length _ _) fun j hj => wipe_get hj
theorem hm_upd_in {Y : Ads} {p : Addr} {o : HO} (h : Y p) : Hm (upd H p o) Y = Hm H Y := by
  funext a
  unfold Hm
  by_cases ya : Y a
  · rw [if_pos ya, if_pos ya]
  · rw [if_neg ya, if_neg ya, upd_ne fun z => ya (by rw [z]; exact h)]
theorem vfr_lc {wi : TI} {gi : GF} {gt : GT} {ge : G} {tg : PyData → Env → Option Env} {sl vs : List Nat} (hi : VIr K wi gi) (hsl : ∀ j ∈ sl, j ∈ vs) : VFr K (tLc wi (tVG K tg sl) (tVT K gt) (tVE K ge) vs) (gLc gi gt ge tg vs) := by
  intro H0 A H σ env O R xs e Q q
  unfold gLc at e
  split at e
  · rename_i ds s
    split at e
    · rename_i hlen
      refine hi R s fun J C H1 s1 sc it D hD => ?_
      have R1 := R.same s1
      refine ⟨fun i m Hk => m = ds.length - i ∧ i ≤ ds.length ∧ Same H1 Hk ∧ ∃ acc ys rest, Hk D = some (.lst acc) ∧ AtAll K (Hm Hk (orX (addX O D) A)) acc ys ∧ ys.length ≤ i ∧ compL gt ge tg (wipeE env vs) (ds.drop i) = some rest ∧ xs = ys ++ rest,
        ⟨ds.length, by simp, Nat.zero_le _, same_new hD, [], [], xs, upd_same, .nil, Nat.zero_le _, e, rfl⟩, ?_⟩
      rintro i m Hk ⟨rfl, hi2, sm, acc, ys, rest, hacc, hat, hyl, hc, rfl⟩
      have st : Same (Hm H1 (orX O A)) (Hm Hk (orX (addX O D) A)) := hm_new sm hD
      by_cases hlt : i < ds.length
      · right
        obtain ⟨d, hd⟩ : ∃ d, ds[i]? = some d := ⟨_, List.getElem?_eq_getElem hlt⟩
        have RD : Rep K H0 A Hk σ env (addX O D) := R1.add sm hD ⟨_, hacc, rfl⟩
        obtain ⟨g1, g2⟩ := it.go RD.inX st (sc.trans sm) hd
        rw [List.drop_eq_getElem_cons hlt, show ds[i] = d from Option.some.inj ((List.getElem?_eq_getElem hlt).symm.trans hd)] at hc
        refine ⟨g1, fun H' => Same H1 H' ∧ ∃ acc ys' rest', H' D = some (.lst acc) ∧ AtAll K (Hm H' (orX (addX O D) A)) acc ys' ∧ ys'.length ≤ i + 1 ∧ compL gt ge tg (wipeE env vs) (ds.drop (i + 1)) = some rest' ∧ ys ++ rest = ys' ++ rest',
          fun H' ⟨z1, z2⟩ => ⟨ds.length - (i + 1), by omega, rfl, hlt, z1, z2⟩, fun x H2 y => ?_⟩
        obtain ⟨s2, hx⟩ := g2 x H2 y
        have R2 : Rep K H0 A H2 (L2.wipe σ vs) (wipeE env vs) (addX O D) := (RD.same s2).wipe vs
        unfold compL at hc
        split at hc
        · cases hc
        · rename_i env1 e1
          refine ⟨H0, A, _, _, d, env1, R2, hx, e1, fun σ' R3 ag => ⟨(wipe_ext (ag.1.trans (wipe_length _ _)) fun j hj => (ag.2 j fun z => hj (hsl j z)).trans (wipe_get hj)), ?_⟩⟩
          split at hc
          · cases hc
          · rename_i k2
            refine ⟨H0, A, _, _, false, R3, k2, fun H3 s3 => iteF ?_⟩
            have s23 := s2.trans s3
            exact ⟨sm.trans s23, acc, ys, rest, s23 _ _ hacc, hat.same (hm_same s23), Nat.le_succ_of_le hyl, hc, rfl⟩
          · rename_i k2
            refine ⟨H0, A, _, _, true, R3, k2, fun H3 s3 => iteT ?_⟩
            split at hc
            · rename_i y ey
              obtain ⟨rest', hc1, hc2⟩ := Option.map_eq_some_iff.mp hc
              subst hc2
              refine ⟨H0, A, _, _, y, true, R3.same s3, ey, fun v H4 s4 hv => ?_⟩
              have s24 := s2.trans (s3.trans s4)
              have hl := hat.length
              refine ⟨acc, s24 _ _ hacc, Nat.lt_of_le_of_lt (show acc.length ≤ 100000 by omega) (by decide), fun b o hb => ?_, acc ++ [v], ys ++ [y], rest', upd_same, ?_, by simp; exact hyl, hc1, by simp⟩
              · rw [upd_ne (fun z => by rw [z, hD] at hb; cases hb)]
                exact (sm.trans s24) _ _ hb
              · rw [hm_upd_in (show orX (addX O D) A D from .inl (.inl rfl))]
                exact (hat.same (hm_same s24)).append (.one hv)
            · cases hc
      · left
        have e0 : i = ds.length := by omega
        subst e0
        rw [List.drop_length] at hc
        cases hc
        refine ⟨it.stop st (sc.trans sm), ?_⟩
        rw [List.append_nil] at q
        exact q D acc Hk (s1.trans sm) (s1.free hD) hacc hat
    · cases e
  · cases e
end
end L2.Vs

set_option Elab.async false
set_option linter.all false
set_option maxRecDepth 100000
set_option maxHeartbeats 4000000
namespace L2.Vs
open PySem PySem.Spec PyProof.Rows L2 L2.Dx
inductive Out where
  | nx (e : Env) | rt (d : PyData) | bk (e : Env) | ct (e : Env)
abbrev GS := Env → Option Out
def OutOk (K : PySem.W.Frag) (H0 : Hp) (A : Ads) (D : Ends) : Out → Prop
  | .nx e => ∀ σ' H' O', Rep K H0 A H' σ' e O' → D.nx σ' H'
  | .rt d => ∀ v H', Same H0 H' → At K (Hm H' A) v d → D.rt v H'
  | .bk e => ∀ σ' H' O', Rep K H0 A H' σ' e O' → D.bk σ' H'
  | .ct e => ∀ σ' H' O', Rep K H0 A H' σ' e O' → D.ct σ' H'
def VSr (K : PySem.W.Frag) (t : TS) (g : GS) : Prop := ∀ {H0 : Hp} {A : Ads} {H : Hp} {σ : St} {env : Env} {O : Ads}, Rep K H0 A H σ env O → ∀ {o : Out}, g env = some o → ∀ {D : Ends}, OutOk K H0 A D o → t D σ H
structure VS (X : Cx) (st : Stmt) (g : GS) : Prop where
  ex : ∃ t, PS X st t ∧ VSr X.K t g
structure VSs (X : Cx) (st : List Stmt) (g : GS) : Prop where
  ex : ∃ t, PSs X st t ∧ VSr X.K t g
def gNx : GS := fun env => some (.nx env)
def gSeq (g h : GS) : GS := fun env => match g env with
  | some (.nx e) => h e
  | o => o
def gRet (g : G) : GS := fun env => match g env with
  | some (d, _) => some (.rt d)
  | none => none
def gRetN : GS := fun _ => some (.rt .none)
def gBrk : GS := fun env => some (.bk env)
def gCnt : GS := fun env => some (.ct env)
def gIfS (gt : GT) (g h : GS) : GS := fun env => match gt env with
  | some true => g env
  | some false => h env
  | none => none
def gAsg (i : Nat) (g : G) : GS := fun env => match g env with
  | some (d, true) => some (.nx (env.set i (.dat d)))
  | _ => none
def gAsgL (i : Nat) (g : GF) : GS := fun env => match g env with
  | some xs => some (.nx (env.set i (.lst xs)))
  | none => none
def gAsgT (g : G) (tg : PyData → Env → Option Env) : GS := fun env => match g env with
  | some (d, true) => (tg d env).map .nx
  | _ => none
def gPar (i j : Nat) (ga gb : G) : GS := fun env => match ga env with
  | some (a, true) => (match gb env with
    | some (b, true) => some (.nx ((env.set i (.dat a)).set j (.dat b)))
    | _ => none)
  | _ => none
def gParL (i j : Nat) (ga gb : GF) : GS := fun env => match ga env with
  | some xs => (match gb env with
    | some ys => some (.nx ((env.set i (.lst xs)).set j (.lst ys)))
    | _ => none)
  | _ => none
def gApp (i : Nat) (g : G) : GS := fun env => match env[i]? with
  | some (.lst xs) => (match g env with
    | some (d, true) => if xs.length ≤ 100000 then some (.nx (env.set i (.lst (xs ++ [d])))) else none
    | _ => none)
  | _ => none
def loopG (tg : PyData → Env → Option Env) (gb : GS) : List PyData → Env → Option Out
  | [], env => some (.nx env)
  | d :: ds, env => match tg d env with
    | none => none
    | some env1 => match gb env1 with
      | none => none
      | some (.nx e) => loopG tg gb ds e
      | some (.ct e) => loopG tg gb ds e
      | some (.bk e) => some (.nx e)
      | some (.rt d) => some (.rt d)
def gFor (gi : GF) (tg : PyData → Env → Option Env) (gb : GS) : GS := fun env => match gi env with
  | some ds => loopG tg gb ds env
  | none => none
def whileG (gt : GT) (gb : GS) : Nat → Env → Option Out
  | 0, _ => none
  | n + 1, env => match gt env with
    | none => none
    | some false => some (.nx env)
    | some true => match gb env with
      | none => none
      | some (.nx e) => whileG gt gb n e
      | some (.ct e) => whileG gt gb n e
      | some (.bk e) => some (.nx e)
      | some (.rt d) => some (.rt d)
def gWhile (n : Nat) (gt : GT) (gb : GS) : GS := fun env => whileG gt gb n env
def frz (i : Nat) (env : Env) : Env := match env[i]? with
  | some (.lst xs) => env.set i (.dat (.list xs))
  | _ => env
section
variable {X : Cx} {e e1 e2 : Expr} {st : Stmt} {rest a b : List Stmt} {g ga gb : G} {gs h : GS} {gt : GT} {gf : GF} {pos : Pos}
theorem vss_nil : VSs X [] gNx := ⟨_, pss_nil, fun R _ e D q => by cases e; exact q _ _ _ R⟩
theorem vss_one (hs : VS X st gs) : VSs X [st] gs := by
  obtain ⟨t, h1, h2⟩ := hs.ex
  exact ⟨t, pss_one h1, h2⟩
theorem vss_cons (h1 : VS X st gs) (h2 : VSs X rest h) : VSs X (st :: rest) (gSeq gs h) := by
  obtain ⟨t, k1, k2⟩ := h1.ex
  obtain ⟨u, l1, l2⟩ := h2.ex
  refine ⟨_, pss_cons k1 l1, fun {H0 A H σ env O} R {o} e {D} q => ?_⟩
  unfold gSeq at e
  split at e
  · rename_i env1 s
    exact k2 R s (D := { D with nx := u D }) fun σ1 H1 O1 R1 => l2 R1 e q
  · rename_i hne
    cases o with
    | nx e1 => exact absurd e (hne e1)
    | rt d => exact k2 R e (D := { D with nx := u D }) q
    | bk e1 => exact k2 R e (D := { D with nx := u D }) q
    | ct e1 => exact k2 R e (D := { D with nx := u D }) q
theorem vss_frz {i : Nat} (hs : VSs X rest h) : VSs X rest (fun env => h (frz i env)) := by
  obtain ⟨t, k1, k2⟩ := hs.ex
  refine ⟨t, k1, fun {H0 A H σ env O} R {o} e {D} q => ?_⟩
  dsimp only at e
  unfold frz at e
  split at e
  · rename_i xs s
    obtain ⟨O', R'⟩ := R.freeze s
    exact k2 R' e q
  · exact k2 R e q
theorem vs_pass : VS X (.Pass pos) gNx := ⟨_, ps_pass, fun R _ e D q => by cases e; exact q _ _ _ R⟩
theorem vs_break : VS X (.Break pos) gBrk := ⟨_, ps_break, fun R _ e D q => by cases e; exact q _ _ _ R⟩
theorem vs_continue : VS X (.Continue pos) gCnt := ⟨_, ps_continue, fun R _ e D q => by cases e; exact q _ _ _ R⟩
theorem vs_ret (he : VE X e g) : VS X (.Return (some e) pos) (gRet g) := by
  obtain ⟨t, k1, k2⟩ := he.ex
  refine ⟨_, ps_ret k1, fun {H0 A H σ env O} R {o} e {D} q => ?_⟩
  unfold gRet at e
  split at e
  · rename_i d b s
    cases e
    exact k2 R s fun v H1 s1 hv => q v H1 (R.entH.trans s1) (hv.same hb_A)
  · cases e
theorem vs_retN : VS X (.Return none pos) gRetN := ⟨_, ps_retN, fun R _ e D q => by cases e; exact q _ _ R.entH .non⟩
theorem vs_if {c : Expr} (hc : VT X c gt) (ha : VSs X a gs) (hb : VSs X b h) : VS X (.If c a b pos) (gIfS gt gs h) := by
  obtain ⟨t, k1, k2⟩ := hc.ex
  obtain ⟨u, l1, l2⟩ := ha.ex
  obtain ⟨w, m1, m2⟩ := hb.ex
  refine ⟨_, ps_if k1 l1 m1, fun {H0 A H σ env O} R {o} e {D} q => ?_⟩
  unfold gIfS at e
  split at e
  · rename_i s
    exact k2 R s fun H1 s1 => iteT (l2 (R.same s1) e q)
  · rename_i s
    exact k2 R s fun H1 s1 => iteF (m2 (R.same s1) e q)
  · cases e
theorem vsr_set {K : PySem.W.Frag} {i : Nat} {t : TE} (k2 : VEr K t g) : VSr K (tAsg t (gName i)) (gAsg i g) := by
  intro H0 A H σ env O R o e D q
  unfold gAsg at e
  split at e
  · rename_i d s
    cases e
    exact k2 R s fun v H1 s1 hv => q _ _ _ ((R.same s1).setD hv)
  · cases e
theorem vsr_setL {K : PySem.W.Frag} {i : Nat} {t : TE} (k2 : VFr K t gf) : VSr K (tAsg t (gName i)) (gAsgL i gf) := by
  intro H0 A H σ env O R o e D q
  unfold gAsgL at e
  split at e
  · rename_i xs s
    cases e
    exact k2 R s fun p vs H1 s1 hp hH hv => q _ _ _ (R.newL s1 hp hH hv)
  · cases e
theorem vs_set {i : Nat} (he : VE X e g) (hp : ∀ {t}, PE X e t → PS X st (tAsg t (gName i))) : VS X st (gAsg i g) := by
  obtain ⟨t, k1, k2⟩ := he.ex
  exact ⟨_, hp k1, vsr_set @k2⟩
theorem vs_setL {i : Nat} (he : VF X e gf) (hp : ∀ {t}, PE X e t → PS X st (tAsg t (gName i))) : VS X st (gAsgL i gf) := by
  obtain ⟨t, k1, k2⟩ := he.ex
  exact ⟨_, hp k1, vsr_setL @k2⟩
theorem vs_asgT {tg : PyData → Env → Option Env} {sl : List Nat} {tge : Expr} (he : VE X e g) (hg : VG X tge tg sl) (hp : ∀ {t u}, PE X e t → PG X tge u → PS X st (tAsg t u)) : VS X st (gAsgT g tg) := by
  obtain ⟨t, k1, k2⟩ := he.ex
  obtain ⟨u, l1, l2⟩ := hg.ex
  refine ⟨_, hp k1 l1, fun {H0 A H σ env O} R {o} e {D} q => ?_⟩
  unfold gAsgT at e
  split at e
  · rename_i d s
    obtain ⟨env1, e1, e2⟩ := Option.map_eq_some_iff.mp e
    subst e2
    exact k2 R s fun v H1 s1 hv => l2 (R.same s1) hv e1 fun σ' R' _ => q _ _ _ R'
  · cases e
theorem vs_par {i j : Nat} (ha : VE X e1 ga) (hb : VE X e2 gb) (hp : ∀ {t u}, PE X e1 t → PE X e2 u → PS X st (tPar i j (tCons t (tCons u tNil)))) : VS X st (gPar i j ga gb) := by
  obtain ⟨t, k1, k2⟩ := ha.ex
  obtain ⟨u, l1, l2⟩ := hb.ex
  refine ⟨_, hp k1 l1, fun {H0 A H σ env O} R {o} e {D} q => ?_⟩
  unfold gPar at e
  split at e
  · rename_i d s
    split at e
    · rename_i d2 s2
      cases e
      exact k2 R s fun v H1 s1 hv => l2 (R.same s1) s2 fun w H2 s3 hw => ⟨v, w, rfl, q _ _ _ ((((R.same s1).same s3).setD (hv.same (hb_same (b := true) s3))).setD hw)⟩
    · cases e
  · cases e
theorem vs_parL {i j : Nat} {gf2 : GF} (hij : i ≠ j) (ha : VF X e1 gf) (hb : VF X e2 gf2) (hp : ∀ {t u}, PE X e1 t → PE X e2 u → PS X st (tPar i j (tCons t (tCons u tNil)))) : VS X st (gParL i j gf gf2) := by
  obtain ⟨t, k1, k2⟩ := ha.ex
  obtain ⟨u, l1, l2⟩ := hb.ex
  refine ⟨_, hp k1 l1, fun {H0 A H σ env O} R {o} e {D} q => ?_⟩
  unfold gParL at e
  split at e
  · rename_i xs s
    split at e
    · rename_i ys s2
      cases e
      refine k2 R s fun p vs H1 s1 np hH hv => l2 (R.add s1 np ⟨_, hH, rfl⟩) s2 fun p2 vs2 H2 s3 np2 hH2 hv2 => ⟨_, _, rfl, ?_⟩
      exact q _ _ _ ((R.newL s1 np hH hv).newL s3 np2 hH2 hv2)
    · cases e
  · cases e
/-- x.append(e), x a cell -/
theorem vs_app {i : Nat} (he : VE X e g) (hp : ∀ {t}, PE X e t → PS X st (fun D σ H => ∃ x, σ[i]? = some (some x) ∧ tyV X.K "list" x H ∧ t σ H fun y H1 => rAppend x [y] H1 fun _ H2 => D.nx σ H2)) : VS X st (gApp i g) := by
  obtain ⟨t, k1, k2⟩ := he.ex
  refine ⟨_, hp k1, fun {H0 A H σ env O} R {o} e {D} q => ?_⟩
  unfold gApp at e
  split at e
  · rename_i xs s
    split at e
    · rename_i d s2
      split at e
      · rename_i hl
        cases e
        obtain ⟨a, vs, h1, h2, h3, h4⟩ := R.lst s
        refine ⟨.ref a, h1, .inl ⟨rfl, _, .of h3⟩, k2 R s2 fun v H1 s1 hv => ⟨a, vs, v, rfl, rfl, s1 _ _ h3, Nat.lt_of_le_of_lt (show vs.length ≤ 100000 by rw [h4.length]; exact hl) (by decide), ?_⟩⟩
        exact q _ _ _ ((R.same s1).write s h1 ((h4.same (hm_same s1)).append (.one hv)))
      · cases e
    · cases e
  · cases e
def VGr (K : PySem.W.Frag) (t : TG) (g : PyData → Env → Option Env) (sl : List Nat) : Prop := ∀ {H0 : Hp} {A : Ads} {H : Hp} {σ : St} {env : Env} {O : Ads}, Rep K H0 A H σ env O → ∀ {x : V} {d : PyData} {env' : Env}, At K (Hm H (orX O A)) x d → g d env = some env' →
    ∀ {Q : St → Hp → Prop}, (∀ σ', Rep K H0 A H σ' env' O → Ag sl σ' σ → Q σ' H) → t x σ H Q
theorem loop_core {K : PySem.W.Frag} {tg : PyData → Env → Option Env} {sl : List Nat} {J : It} {ds : List PyData} {C H0 H1 : Hp} {A O : Ads} {σ : St} {env : Env} {o : Out} {D : Ends} {tgt : TG} {tb : TS} (R1 : Rep K H0 A H1 σ env O) (sc : Same C (Hm H1 (orX O A))) (it : IterOk K J ds (Hm H1 (orX O A)) C)
    (e : loopG tg gs ds env = some o) (l2 : VGr K tgt tg sl) (m2 : VSr K tb gs) (q : OutOk K H0 A D o) :
    ∃ W : Nat → Nat → St → Hp → Prop, (∃ m, W 0 m σ H1) ∧ ∀ i m σ H, W i m σ H → (J.stop i H ∧ D.nx σ H) ∨ (J.go i H ∧ ∃ N : St → Hp → Prop, (∀ σ' H', N σ' H' → ∃ m', m' < m ∧ W (i + 1) m' σ' H') ∧ ∀ x H', J.yld i H x H' → tgt x σ H' fun σ2 H2 => tb { D with nx := N, ct := N, bk := D.nx } σ2 H2) := by
    refine ⟨fun i m σ' H' => m = ds.length - i ∧ i ≤ ds.length ∧ ∃ env' O', Rep K (Hm H1 O) A H' σ' env' O' ∧ loopG tg gs (ds.drop i) env' = some o, ⟨ds.length, by simp, Nat.zero_le _, env, O, R1.now, e⟩, ?_⟩
    rintro i m σ' H' ⟨rfl, hi2, env', O', R', hc⟩
    by_cases hlt : i < ds.length
    · right
      obtain ⟨d, hd⟩ : ∃ d, ds[i]? = some d := ⟨_, List.getElem?_eq_getElem hlt⟩
      obtain ⟨g1, g2⟩ := it.go R'.inX R'.still (sc.trans (R'.still.trans (hm_sub _ _))) hd
      rw [List.drop_eq_getElem_cons hlt, show ds[i] = d from Option.some.inj ((List.getElem?_eq_getElem hlt).symm.trans hd)] at hc
      unfold loopG at hc
      refine ⟨g1, fun σ2 H2 => ∃ env2 O2, Rep K (Hm H1 O) A H2 σ2 env2 O2 ∧ loopG tg gs (ds.drop (i + 1)) env2 = some o, fun σ2 H2 z => ⟨ds.length - (i + 1), by omega, rfl, hlt, z⟩, fun x H2 y => ?_⟩
      obtain ⟨s2, hx⟩ := g2 x H2 y
      split at hc
      · cases hc
      · rename_i env1 e1
        refine l2 (R'.same s2) hx e1 fun σ2 R2 _ => ?_
        split at hc
        · cases hc
        · rename_i env2 e2
          exact m2 R2 e2 fun σ3 H3 O3 R3 => ⟨_, _, R3, hc⟩
        · rename_i env2 e2
          exact m2 R2 e2 fun σ3 H3 O3 R3 => ⟨_, _, R3, hc⟩
        · rename_i env2 e2
          cases hc
          exact m2 R2 e2 fun σ3 H3 O3 R3 => q _ _ _ (R1.back R3)
        · rename_i d2 e2
          cases hc
          refine m2 R2 e2 fun v H3 s3 hv => q v H3 (fun b ob hb => ?_) hv
          refine s3 b ob ?_
          rw [hm_in (R1.ent b ob hb).1]
          exact (R1.ent b ob hb).2
    · left
      have e0 : i = ds.length := by omega
      subst e0
      rw [List.drop_length] at hc
      cases hc
      exact ⟨it.stop R'.still (sc.trans (R'.still.trans (hm_sub _ _))), q _ _ _ (R1.back R')⟩
theorem vs_for {tg : PyData → Env → Option Env} {sl : List Nat} {tge iter : Expr} (hi : VI X tge iter gf) (hg : VG X tge tg sl) (hb : VSs X a gs) (hp : ∀ {wi g t}, PI X tge iter wi → PG X tge g → PSs X a t → PS X st (tFor wi g t)) : VS X st (gFor gf tg gs) := by
  obtain ⟨wi, k1, k2⟩ := hi.ex
  obtain ⟨tgt, l1, l2⟩ := hg.ex
  obtain ⟨tb, m1, m2⟩ := hb.ex
  refine ⟨_, hp k1 l1 m1, fun {H0 A H σ env O} R {o} e {D} q => ?_⟩
  unfold gFor at e
  split at e
  · rename_i ds s
    exact k2 R s fun J C H1 s1 sc it => loop_core (R.same s1) sc it e @l2 @m2 q
  · cases e
theorem vs_while {n : Nat} {c : Expr} (hc : VT X c gt) (hb : VSs X a gs) (hp : ∀ {t u}, PT X c t → PSs X a u → PS X st (tWhile t u)) : VS X st (gWhile n gt gs) := by
  obtain ⟨t, k1, k2⟩ := hc.ex
  obtain ⟨u, l1, l2⟩ := hb.ex
  refine ⟨_, hp k1 l1, fun {H0 A H σ env O} R {o} e {D} q => ?_⟩
  refine ⟨fun m σ' H' => ∃ env' O', Rep X.K H0 A H' σ' env' O' ∧ whileG gt gs m env' = some o, ⟨n, env, O, R, e⟩, ?_⟩
  rintro m σ' H' ⟨env', O', R', hw⟩
  cases m with
  | zero => cases hw
  | succ m =>
    unfold whileG at hw
    split at hw
    · cases hw
    · rename_i s
      cases hw
      exact k2 R' s fun H1 s1 => iteF (q _ _ _ (R'.same s1))
    · rename_i s
      refine k2 R' s fun H1 s1 => iteT ⟨fun σ2 H2 => ∃ env2 O2, Rep X.K H0 A H2 σ2 env2 O2 ∧ whileG gt gs m env2 = some o, fun σ2 H2 z => ⟨m, Nat.lt_succ_self _, z⟩, ?_⟩
      split at hw
      · cases hw
      · rename_i env2 e2
        exact l2 (R'.same s1) e2 fun σ3 H3 O3 R3 => ⟨_, _, R3, hw⟩
      · rename_i env2 e2
        exact l2 (R'.same s1) e2 fun σ3 H3 O3 R3 => ⟨_, _, R3, hw⟩
      · rename_i env2 e2
        cases hw
        exact l2 (R'.same s1) e2 fun σ3 H3 O3 R3 => q _ _ _ R3
      · rename_i d2 e2
        cases hw
        exact l2 (R'.same s1) e2 q
/-! list comprehensions -/
theorem vf_lc {gi : GF} {ge : G} {tg : PyData → Env → Option Env} {sl vs : List Nat} {tge iter call : Expr} (hi : VIc X tge iter gi) (hsl : ∀ j ∈ sl, j ∈ vs) (hp : ∀ {wi}, PI X tge iter wi → PE X call (tLc wi (tVG X.K tg sl) (tVT X.K gt) (tVE X.K ge) vs)) : VF X call (gLc gi gt ge tg vs) := by
  obtain ⟨wi, k1, k2⟩ := hi.ex
  have r : VFr X.K _ (gLc gi gt ge tg vs) := vfr_lc (K := X.K) @k2 hsl
  exact ⟨_, hp k1, @r⟩
theorem vs_setLc {i : Nat} {gi : GF} {ge : G} {tg : PyData → Env → Option Env} {sl vs : List Nat} {tge iter : Expr} (hi : VIc X tge iter gi) (hsl : ∀ j ∈ sl, j ∈ vs) (hp : ∀ {wi}, PI X tge iter wi → PS X st (tAsg (tLc wi (tVG X.K tg sl) (tVT X.K gt) (tVE X.K ge) vs) (gName i))) : VS X st (gAsg i (gF (gLc gi gt ge tg vs))) := by
  obtain ⟨wi, k1, k2⟩ := hi.ex
  have r : VFr X.K _ (gLc gi gt ge tg vs) := vfr_lc (K := X.K) @k2 hsl
  exact ⟨_, hp k1, vsr_set (VFr.e @r)⟩
theorem vs_setLcL {i : Nat} {gi : GF} {ge : G} {tg : PyData → Env → Option Env} {sl vs : List Nat} {tge iter : Expr} (hi : VIc X tge iter gi) (hsl : ∀ j ∈ sl, j ∈ vs) (hp : ∀ {wi}, PI X tge iter wi → PS X st (tAsg (tLc wi (tVG X.K tg sl) (tVT X.K gt) (tVE X.K ge) vs) (gName i))) : VS X st (gAsgL i (gLc gi gt ge tg vs)) := by
  obtain ⟨wi, k1, k2⟩ := hi.ex
  have r : VFr X.K _ (gLc gi gt ge tg vs) := vfr_lc (K := X.K) @k2 hsl
  exact ⟨_, hp k1, vsr_setL @r⟩
end
/-! defs -/
def retD (n m : Nat) (g : GS) : List PyData → Option PyData := fun ds => if ds.length = n then (match g (ds.map .dat ++ List.replicate m .un) with
  | some (.rt d) => some d
  | some (.nx _) => some .none
  | _ => none) else none
theorem rep_start {K : PySem.W.Frag} {H : Hp} {A : Ads} {N : List Str} {vs : List V} {ds : List PyData} (ha : AtAll K (Hm H A) vs ds) (hA : ∀ a, A a → ∃ o, H a = some o ∧ nt o = true) : Rep K H A H (start N vs) (ds.map .dat ++ List.replicate (N.length - vs.length) .un) (fun _ => False) := by
  refine ⟨by simp [start, ha.length], fun i s e => ?_, fun i j a xs ys _ e _ ci => ?_, fun a o e => ⟨fun z => z, e⟩, hA, fun a z => z.elim⟩
  · by_cases hi : i < ds.length
    · rw [List.getElem?_append_left (by simpa using hi), List.getElem?_map] at e
      obtain ⟨d, e1, rfl⟩ := Option.map_eq_some_iff.mp e
      obtain ⟨v, h1, h2⟩ := ha.get e1
      refine ⟨v, vAt_eq ?_, h2.same (hm_le fun a z => z.elim False.elim fun z => z)⟩
      unfold start
      rw [List.getElem?_append_left (by simpa [ha.length] using hi), List.getElem?_map, h1]
      rfl
    · rw [List.getElem?_append_right (by simpa using hi)] at e
      have := List.mem_of_getElem? e
      rw [List.eq_of_mem_replicate this]
      trivial
  · by_cases hi : i < ds.length
    · rw [List.getElem?_append_left (by simpa using hi), List.getElem?_map] at e
      obtain ⟨d, _, z⟩ := Option.map_eq_some_iff.mp e
      subst z
      cases ci
    · rw [List.getElem?_append_right (by simpa using hi)] at e
      have := List.mem_of_getElem? e
      rw [List.eq_of_mem_replicate this] at ci
      cases ci
section
variable {P : Program} {w : World} {K : PySem.W.Frag} {mg : Str → Option Value} {base : Heap}
theorem fn_vs {x qual : Str} {st : Stmt} {f : Addr} {fd : FuncData} {N ps : List Str} {k n m : Nat} {g : GS} (F : Fun K x qual st f fd) (S : FnScope N ps (defScope st)) (hn : ps.length = n) (hm : N.length - n = m)
    (h : ∀ (cdv : Value) (A : Around) (outer : List PySem.Env) (s : Shared) (H : Hp) (E : XK), Room k (A.deeper (envOfC qual (defScope st) s.heap.objs.size f cdv)) → VSs (cxOf CX0 P w K mg base N qual (defScope st) f cdv A outer s H E).nox (defBody st) g) :
    FnOk P w K mg base CX0 (k + 1) f fd ps (pureS K n (retD n m g)) := by
  refine F.ok S (fun vs H Q E z => ?_) fun cdv A outer s H vs Q E hr z => ?_
  · obtain ⟨ds, d, A, _, _, h1, _⟩ := z
    rw [h1, hn]
  · obtain ⟨ds, d, Y, ha, hY, hl, hf, q⟩ := z
    obtain ⟨t, k1, k2⟩ := (h cdv A outer s H E hr).ex
    refine ⟨t, k1, ?_⟩
    have R := rep_start (N := N) ha hY
    unfold retD at hf
    rw [if_pos (by rw [← ha.length]; exact hl)] at hf
    rw [hl, hm] at R
    split at hf
    · rename_i d2 s2
      cases hf
      exact k2 R s2 fun v H' s1 hv => q v H' s1 hv
    · rename_i e2 s2
      cases hf
      exact k2 R s2 fun σ' H' O' R' => q _ _ R'.entH .non
    · cases hf
end
end L2.Vs

set_option Elab.async false
set_option linter.all false
set_option maxRecDepth 100000
set_option maxHeartbeats 4000000
namespace L2.Vs
open PySem PySem.Spec PyProof.Rows L2 L2.Dx
/-! texts in order -/
abbrev ltC (a b : Str) : Prop := a.cps.toList < b.cps.toList
def insS (x : Str) : List Str → List Str
  | [] => [x]
  | y :: r => if ltC x y then x :: y :: r else if x = y then y :: r else y :: insS x r
def sset : List Str → List Str
  | [] => []
  | x :: r => insS x (sset r)
theorem cps_inj {a b : Str} (h : a.cps.toList = b.cps.toList) : a = b := by
  obtain ⟨⟨l⟩⟩ := a
  obtain ⟨⟨m⟩⟩ := b
  cases h
  rfl
theorem ltC_tri {a b : Str} (h : ¬ ltC a b) (n : a ≠ b) : ltC b a := Std.lt_of_le_of_ne (List.not_lt.mp h) fun z => n (cps_inj z.symm)
theorem mem_ins {x y : Str} : ∀ {l : List Str}, y ∈ insS x l ↔ y = x ∨ y ∈ l
  | [] => by simp [insS]
  | z :: r => by
    unfold insS
    split
    · simp
    · split
      · rename_i e
        subst e
        simp
      · rw [List.mem_cons, mem_ins (l := r), List.mem_cons]
        constructor
        · rintro (h | h | h)
          · exact .inr (.inl h)
          · exact .inl h
          · exact .inr (.inr h)
        · rintro (h | h | h)
          · exact .inr (.inl h)
          · exact .inl h
          · exact .inr (.inr h)
theorem asc_ins {x : Str} : ∀ {l : List Str}, l.Pairwise ltC → (insS x l).Pairwise ltC
  | [], _ => by simp [insS]
  | y :: r, h => by
    obtain ⟨h1, h2⟩ := List.pairwise_cons.mp h
    unfold insS
    split
    · rename_i c
      exact .cons (fun z hz => (List.mem_cons.mp hz).elim (fun e => by rw [e]; exact c) fun hz => List.lt_trans c (h1 z hz)) h
    · split
      · exact h
      · rename_i c1 c2
        exact .cons (fun z hz => (mem_ins.mp hz).elim (fun e => by rw [e]; exact ltC_tri c1 c2) (h1 z)) (asc_ins h2)
theorem asc_sset : ∀ l : List Str, (sset l).Pairwise ltC
  | [] => .nil
  | x :: r => asc_ins (asc_sset r)
theorem mem_sset {y : Str} : ∀ {l : List Str}, y ∈ sset l ↔ y ∈ l
  | [] => by simp [sset]
  | x :: r => by unfold sset; rw [mem_ins, mem_sset (l := r), List.mem_cons]
theorem asc_eq : ∀ {l m : List Str}, l.Pairwise ltC → m.Pairwise ltC → (∀ x, x ∈ l ↔ x ∈ m) → l = m
  | [], [], _, _, _ => rfl
  | [], y :: m, _, _, h => by have := (h y).mpr List.mem_cons_self; cases this
  | x :: l, [], _, _, h => by have := (h x).mp List.mem_cons_self; cases this
  | x :: l, y :: m, hl, hm, h => by
    obtain ⟨l1, l2⟩ := List.pairwise_cons.mp hl
    obtain ⟨m1, m2⟩ := List.pairwise_cons.mp hm
    have e : x = y := by
      rcases List.mem_cons.mp ((h x).mp List.mem_cons_self) with z | z
      · exact z
      · rcases List.mem_cons.mp ((h y).mpr List.mem_cons_self) with w | w
        · exact w.symm
        · exact absurd (List.lt_trans (m1 x z) (l1 y w)) (List.lt_irrefl _)
    subst e
    rw [asc_eq l2 m2 fun z => ?_]
    constructor
    · intro hz
      exact (List.mem_cons.mp ((h z).mp (List.mem_cons_of_mem _ hz))).resolve_left fun e => List.lt_irrefl _ (by have := l1 z hz; rwa [e] at this)
    · intro hz
      exact (List.mem_cons.mp ((h z).mpr (List.mem_cons_of_mem _ hz))).resolve_left fun e => List.lt_irrefl _ (by have := m1 z hz; rwa [e] at this)
def strsD : List PyData → Option (List Str)
  | [] => some []
  | .str x :: r => (strsD r).map (x :: ·)
  | _ :: _ => none
theorem strsD_map : ∀ ss : List Str, strsD (ss.map .str) = some ss
  | [] => rfl
  | x :: r => by unfold strsD; simp [strsD_map r]
theorem strsD_of : ∀ {ds : List PyData} {ss : List Str}, strsD ds = some ss → ds = ss.map .str
  | [], ss, e => by cases e; rfl
  | d :: ds, ss, e => by
    cases d <;> try cases e
    obtain ⟨r, h1, h2⟩ := Option.map_eq_some_iff.mp e
    subst h2
    rw [strsD_of h1]
    rfl
theorem at_strs {K : PySem.W.Frag} {H : Hp} : ∀ {vs : List V} {ss : List Str}, AtAll K H vs (ss.map .str) → vs = ss.map V.str
  | _, [], h => by cases h; rfl
  | _, s :: ss, h => by
    cases h with
    | cons h1 h2 => cases h1; rw [at_strs h2]; rfl
theorem all_strs {K : PySem.W.Frag} {H : Hp} : ∀ ss : List Str, AtAll K H (ss.map V.str) (ss.map .str)
  | [] => .nil
  | s :: ss => .cons (.str s) (all_strs ss)
def gSset (g : G) : GF := fun env => match g env with
  | some (.list ds, _) => (match strsD ds with
    | some ss => if ss.length < 64 then some ((sset ss).map .str) else none
    | none => none)
  | _ => none
section
variable {X : Cx} {e tg iter call : Expr} {g : G}
theorem metS_nodup (ss : List Str) : (metS ss ss.length).Nodup := by
  unfold metS
  have go : ∀ (l acc : List Str), acc.Nodup → (l.foldl addU acc).Nodup := by
    intro l
    induction l with
    | nil => exact fun acc h => h
    | cons x r ih =>
      intro acc h
      refine ih _ ?_
      unfold addU
      split
      · exact h
      · rename_i hn
        exact List.nodup_cons.mpr ⟨hn, h⟩
  exact go _ _ .nil
/-- sorted(set(x)) of texts -/
theorem vf_sset (h : VE X e g) (hp : ∀ {t}, PE X e t → PE X call (tCB (rSortedSet' X.prog X.w) (tCons (tCB (rSetS X.prog X.w) (tCons t tNil)) tNil))) : VF X call (gSset g) := by
  obtain ⟨t, h1, h2⟩ := h.ex
  refine ⟨_, hp h1, fun {H0 A H σ env O} R {xs} e {Q} q => ?_⟩
  unfold gSset at e
  split at e
  · rename_i ds b s
    split at e
    · rename_i ss hs
      split at e
      · rename_i hl
        cases e
        refine h2 R s fun v H1 s1 hv => ?_
        have hv := hv.same hb_sub
        rw [strsD_of hs] at hv
        cases hv with
        | lst hH ha =>
          rw [at_strs ha] at hH
          refine ⟨_, ss, rfl, hH, by omega, fun a ha0 => ?_⟩
          have k1 := same_new (o := SetO' X.prog X.w a (metS ss ss.length)) ha0
          have hm := metS_len ss ss.length (Nat.le_refl _)
          refine ⟨a, _, rfl, upd_same, by omega, fun ys p h3 h4 hp0 => ?_⟩
          have k2 := same_new (o := .lst (ys.map V.str)) hp0
          have ey : ys = sset ss := asc_eq (sortedS_pw h4 (h3.nodup_iff.mpr (metS_nodup ss))) (asc_sset ss) fun x => by rw [h3.mem_iff, mem_met, mem_sset]
          have s13 := s1.trans (k1.trans k2)
          refine q p _ _ s13 ((s1.trans k1).free hp0) upd_same ?_
          rw [ey]
          exact all_strs _
      · cases e
    · cases e
  · cases e
def signs (z : Str) : List PyData := z.cps.toList.map fun c => .str ⟨#[c]⟩
def gItS (g : G) : GF := fun env => match g env with
  | some (.str z, _) => some (signs z)
  | _ => none
theorem vi_str (h : VE X e g) (hp : ∀ {t}, PE X e t → PI X tg iter (iStr t)) : VI X tg iter (gItS g) := by
  obtain ⟨t, h1, h2⟩ := h.ex
  refine ⟨_, hp h1, fun {H0 A H σ env O} R {ds} e {Rq} q => ?_⟩
  unfold gItS at e
  split at e
  · rename_i z b s
    cases e
    refine h2 R s fun v H1 s1 hv => ?_
    cases hv
    refine ⟨z, rfl, q _ _ _ s1 (Same.refl _) ⟨fun {H2 Y} sm _ => by show z.cps.size ≤ _; simp [signs], fun {H2 Y} _ sm _ {i d} e => ?_⟩⟩
    unfold signs at e
    rw [List.getElem?_map] at e
    obtain ⟨c, e1, rfl⟩ := Option.map_eq_some_iff.mp e
    have e1' : z.cps[i]? = some c := by rw [← Array.getElem?_toList]; exact e1
    refine ⟨(Array.getElem?_eq_some_iff.mp e1').1, fun x H3 ⟨y1, c', y2, y3⟩ => ?_⟩
    subst y1
    subst y3
    rw [e1'] at y2
    cases y2
    exact ⟨Same.refl _, .str _⟩
  · cases e
end
end L2.Vs

set_option Elab.async false
set_option linter.all false
set_option maxRecDepth 100000
set_option maxHeartbeats 4000000
/-! the plain functions, reckoned -/
namespace L2.Vs
open PySem PySem.Spec PyProof.Rows L2 L2.Dx
theorem compL_map {gt : GT} {ge : G} {tg : PyData → Env → Option Env} {env : Env} {p : PyData → Bool} {f : PyData → PyData} : ∀ {ds : List PyData}, (∀ d ∈ ds, ∃ e, tg d env = some e ∧ gt e = some (p d) ∧ (p d = true → ge e = some (f d, true))) →
    compL gt ge tg env ds = some ((ds.filter p).map f)
  | [], _ => rfl
  | d :: ds, h => by
    obtain ⟨e, h1, h2, h3⟩ := h d List.mem_cons_self
    have ih := compL_map (p := p) (f := f) fun x hx => h x (List.mem_cons_of_mem _ hx)
    unfold compL
    rw [h1]
    dsimp only
    rw [h2]
    cases q : p d with
    | false => simp only [q, List.filter_cons]; simpa using ih
    | true => simp only [q, List.filter_cons, h3 q, ih]; simp
theorem isi_of {T : String} {d : PyData} {b : Bool} (h : kitB (tyD d) T = some b) : isiD T d = some (.bool b) := by
  unfold isiD
  rw [h]
  rfl
@[simp] theorem isi_str_none : isiD "str" (.none) = some (.bool false) := isi_of (show kitB "NoneType" "str" = some false by decide +kernel)
@[simp] theorem isi_str_bool (b : Bool) : isiD "str" (.bool b) = some (.bool false) := isi_of (show kitB "bool" "str" = some false by decide +kernel)
@[simp] theorem isi_str_int (i : Int) : isiD "str" (.int i) = some (.bool false) := isi_of (show kitB "int" "str" = some false by decide +kernel)
@[simp] theorem isi_str_str (z : Str) : isiD "str" (.str z) = some (.bool true) := isi_of (show kitB "str" "str" = some true by decide +kernel)
@[simp] theorem isi_str_list (x : List PyData) : isiD "str" (.list x) = some (.bool false) := isi_of (show kitB "list" "str" = some false by decide +kernel)
@[simp] theorem isi_str_tup (x : List PyData) : isiD "str" (.tuple x) = some (.bool false) := isi_of (show kitB "tuple" "str" = some false by decide +kernel)
@[simp] theorem isi_str_dict (x : List (PyData × PyData)) : isiD "str" (.dict x) = some (.bool false) := isi_of (show kitB "dict" "str" = some false by decide +kernel)
@[simp] theorem isi_list_none : isiD "list" (.none) = some (.bool false) := isi_of (show kitB "NoneType" "list" = some false by decide +kernel)
@[simp] theorem isi_list_bool (b : Bool) : isiD "list" (.bool b) = some (.bool false) := isi_of (show kitB "bool" "list" = some false by decide +kernel)
@[simp] theorem isi_list_int (i : Int) : isiD "list" (.int i) = some (.bool false) := isi_of (show kitB "int" "list" = some false by decide +kernel)
@[simp] theorem isi_list_str (z : Str) : isiD "list" (.str z) = some (.bool false) := isi_of (show kitB "str" "list" = some false by decide +kernel)
@[simp] theorem isi_list_list (x : List PyData) : isiD "list" (.list x) = some (.bool true) := isi_of (show kitB "list" "list" = some true by decide +kernel)
@[simp] theorem isi_list_tup (x : List PyData) : isiD "list" (.tuple x) = some (.bool false) := isi_of (show kitB "tuple" "list" = some false by decide +kernel)
@[simp] theorem isi_list_dict (x : List (PyData × PyData)) : isiD "list" (.dict x) = some (.bool false) := isi_of (show kitB "dict" "list" = some false by decide +kernel)
@[simp] theorem isi_tuple_none : isiD "tuple" (.none) = some (.bool false) := isi_of (show kitB "NoneType" "tuple" = some false by decide +kernel)
@[simp] theorem isi_tuple_bool (b : Bool) : isiD "tuple" (.bool b) = some (.bool false) := isi_of (show kitB "bool" "tuple" = some false by decide +kernel)
@[simp] theorem isi_tuple_int (i : Int) : isiD "tuple" (.int i) = some (.bool false) := isi_of (show kitB "int" "tuple" = some false by decide +kernel)
@[simp] theorem isi_tuple_str (z : Str) : isiD "tuple" (.str z) = some (.bool false) := isi_of (show kitB "str" "tuple" = some false by decide +kernel)
@[simp] theorem isi_tuple_list (x : List PyData) : isiD "tuple" (.list x) = some (.bool false) := isi_of (show kitB "list" "tuple" = some false by decide +kernel)
@[simp] theorem isi_tuple_tup (x : List PyData) : isiD "tuple" (.tuple x) = some (.bool true) := isi_of (show kitB "tuple" "tuple" = some true by decide +kernel)
@[simp] theorem isi_tuple_dict (x : List (PyData × PyData)) : isiD "tuple" (.dict x) = some (.bool false) := isi_of (show kitB "dict" "tuple" = some false by decide +kernel)
@[simp] theorem isi_int_none : isiD "int" (.none) = some (.bool false) := isi_of (show kitB "NoneType" "int" = some false by decide +kernel)
@[simp] theorem isi_int_bool (b : Bool) : isiD "int" (.bool b) = some (.bool true) := isi_of (show kitB "bool" "int" = some true by decide +kernel)
@[simp] theorem isi_int_int (i : Int) : isiD "int" (.int i) = some (.bool true) := isi_of (show kitB "int" "int" = some true by decide +kernel)
@[simp] theorem isi_int_str (z : Str) : isiD "int" (.str z) = some (.bool false) := isi_of (show kitB "str" "int" = some false by decide +kernel)
@[simp] theorem isi_int_list (x : List PyData) : isiD "int" (.list x) = some (.bool false) := isi_of (show kitB "list" "int" = some false by decide +kernel)
@[simp] theorem isi_int_tup (x : List PyData) : isiD "int" (.tuple x) = some (.bool false) := isi_of (show kitB "tuple" "int" = some false by decide +kernel)
@[simp] theorem isi_int_dict (x : List (PyData × PyData)) : isiD "int" (.dict x) = some (.bool false) := isi_of (show kitB "dict" "int" = some false by decide +kernel)
@[simp] theorem isi_bool_none : isiD "bool" (.none) = some (.bool false) := isi_of (show kitB "NoneType" "bool" = some false by decide +kernel)
@[simp] theorem isi_bool_bool (b : Bool) : isiD "bool" (.bool b) = some (.bool true) := isi_of (show kitB "bool" "bool" = some true by decide +kernel)
@[simp] theorem isi_bool_int (i : Int) : isiD "bool" (.int i) = some (.bool false) := isi_of (show kitB "int" "bool" = some false by decide +kernel)
@[simp] theorem isi_bool_str (z : Str) : isiD "bool" (.str z) = some (.bool false) := isi_of (show kitB "str" "bool" = some false by decide +kernel)
@[simp] theorem isi_bool_list (x : List PyData) : isiD "bool" (.list x) = some (.bool false) := isi_of (show kitB "list" "bool" = some false by decide +kernel)
@[simp] theorem isi_bool_tup (x : List PyData) : isiD "bool" (.tuple x) = some (.bool false) := isi_of (show kitB "tuple" "bool" = some false by decide +kernel)
@[simp] theorem isi_bool_dict (x : List (PyData × PyData)) : isiD "bool" (.dict x) = some (.bool false) := isi_of (show kitB "dict" "bool" = some false by decide +kernel)
@[simp] theorem isi_dict_none : isiD "dict" (.none) = some (.bool false) := isi_of (show kitB "NoneType" "dict" = some false by decide +kernel)
@[simp] theorem isi_dict_bool (b : Bool) : isiD "dict" (.bool b) = some (.bool false) := isi_of (show kitB "bool" "dict" = some false by decide +kernel)
@[simp] theorem isi_dict_int (i : Int) : isiD "dict" (.int i) = some (.bool false) := isi_of (show kitB "int" "dict" = some false by decide +kernel)
@[simp] theorem isi_dict_str (z : Str) : isiD "dict" (.str z) = some (.bool false) := isi_of (show kitB "str" "dict" = some false by decide +kernel)
@[simp] theorem isi_dict_list (x : List PyData) : isiD "dict" (.list x) = some (.bool false) := isi_of (show kitB "list" "dict" = some false by decide +kernel)
@[simp] theorem isi_dict_tup (x : List PyData) : isiD "dict" (.tuple x) = some (.bool false) := isi_of (show kitB "tuple" "dict" = some false by decide +kernel)
@[simp] theorem isi_dict_dict (x : List (PyData × PyData)) : isiD "dict" (.dict x) = some (.bool true) := isi_of (show kitB "dict" "dict" = some true by decide +kernel)
theorem eqv_str (a b : Str) : PyData.eqv (.str a) (.str b) = (a == b) := by simp [PyData.eqv]
@[simp] theorem plain_strs : ∀ ss : List Str, PyData.plainAll (ss.map PyData.str) = true
  | [] => rfl
  | s :: ss => by simp [PyData.plainAll, PyData.plain, plain_strs ss]
@[simp] theorem depth_strs' : ∀ ss : List Str, PyData.depthAll (ss.map PyData.str) ≤ 1
  | [] => by simp [PyData.depthAll]
  | s :: ss => by
    have := depth_strs' ss
    simp [PyData.depthAll, PyData.depth]
    omega
theorem in_strs (x : Str) (ss : List Str) : (ss.map PyData.str).any (fun y => PyData.eqv y (.str x)) = decide (x ∈ ss) := by
  induction ss with
  | nil => rfl
  | cons s ss ih =>
    rw [List.map_cons, List.any_cons, ih, eqv_str]
    by_cases e : s = x
    · subst e; simp
    · have e2 : ¬ x = s := fun z => e z.symm
      simp [e, e2]
theorem inD_strs (neg : Bool) (x : Str) (ss : List Str) : inD neg (.str x) (.list (ss.map .str)) = some (.bool (neg != decide (x ∈ ss))) := by
  unfold inD itemsD
  dsimp only
  have h1 := plain_strs ss
  rw [if_pos (by
    rw [h1]
    simp [PyData.plain, PyData.depth]), in_strs]
theorem eqD_str (x y : Str) : eqD (.str x) (.str y) = some (.bool (x == y)) := by
  unfold eqD
  simp [PyData.plain, PyData.depth, eqv_str]
theorem eqvAll_strs : ∀ (a b : List Str), PyData.eqvAll (a.map .str) (b.map .str) = decide (a = b)
  | [], [] => rfl
  | [], _ :: _ => rfl
  | _ :: _, [] => rfl
  | x :: a, y :: b => by
    rw [List.map_cons, List.map_cons, PyData.eqvAll, eqv_str, eqvAll_strs a b]
    by_cases e : x = y <;> simp [e]
theorem eqD_strs (a b : List Str) : eqD (.list (a.map .str)) (.list (b.map .str)) = some (.bool (decide (a = b))) := by
  unfold eqD
  have h1 := depth_strs' a
  rw [if_pos (by simp [PyData.plain, PyData.depth]; omega)]
  rw [PyData.eqv, eqvAll_strs]
end L2.Vs

set_option Elab.async false
set_option linter.all false
set_option maxRecDepth 100000
set_option maxHeartbeats 4000000
namespace L2.Vs
open PySem PySem.Spec PyProof.Rows L2 L2.Dx
/-! dicts as data -/
def keyD : PyData → Option Key
  | .int i => some (.inl i)
  | .str x => some (.inr x)
  | _ => none
def keysD : List PyData → Option (List Key)
  | [] => some []
  | x :: xs => match keyD x, keysD xs with
    | some k, some ks => some (k :: ks)
    | _, _ => none
abbrev KX := Sum Key (List Key)
def keyX : PyData → Option KX
  | .tuple xs => (keysD xs).map .inr
  | d => (keyD d).map .inl
def KX.kind : KX → Bool
  | .inl _ => true | .inr _ => false
def kindOk (k : KX) (d : PyData) : Bool := match keyX d with
  | some k' => k'.kind == k.kind
  | none => false
/-- none: no rule; some none: the key is not there -/
def lookD (kvs : List (PyData × PyData)) (k : PyData) : Option (Option PyData) := match keyX k with
  | some kk => if kvs.all (fun p => kindOk kk p.1) = true then some ((kvs.find? fun p => decide (keyX p.1 = some kk)).map (·.2)) else none
  | none => none
theorem keyX_kD (k : Key) : keyX (kD k) = some (.inl k) := by cases k <;> rfl
theorem keysD_map : ∀ ks : List Key, keysD (ks.map kD) = some ks
  | [] => rfl
  | k :: ks => by
    rw [List.map_cons, keysD, keysD_map ks]
    cases k <;> rfl
theorem keyX_tup (ks : List Key) : keyX (.tuple (ks.map kD)) = some (.inr ks) := by
  show (keysD _).map _ = _
  rw [keysD_map]
  rfl
theorem keyX_inl {d : PyData} {k : Key} (h : keyX d = some (.inl k)) : keyD d = some k := by
  cases d with
  | tuple xs =>
    have h : (keysD xs).map Sum.inr = some (Sum.inl k : KX) := h
    obtain ⟨_, _, z⟩ := Option.map_eq_some_iff.mp h
    cases z
  | int i => cases h; rfl
  | str x => cases h; rfl
  | _ => cases h
theorem keyX_inr {d : PyData} {l : List Key} (h : keyX d = some (.inr l)) : ∃ xs, d = .tuple xs ∧ keysD xs = some l := by
  cases d with
  | tuple xs =>
    have h : (keysD xs).map Sum.inr = some (Sum.inr l : KX) := h
    obtain ⟨_, h1, z⟩ := Option.map_eq_some_iff.mp h
    cases z
    exact ⟨xs, rfl, h1⟩
  | int i => cases h
  | str x => cases h
  | _ => cases h
theorem At.key {K : PySem.W.Frag} {H : Hp} {y : V} {d : PyData} {k : Key} (h : At K H y d) (e : keyD d = some k) : y = kV k := by
  cases d <;> try cases e
  · cases h; rfl
  · cases h; rfl
theorem AtAll.keys {K : PySem.W.Frag} {H : Hp} : ∀ {vs : List V} {xs : List PyData} {ks : List Key}, AtAll K H vs xs → keysD xs = some ks → vs = ks.map kV
  | _, _, ks, .nil, e => by cases e; rfl
  | _, _, ks, .cons (d := d) (ds := ds) h1 h2, e => by
    unfold keysD at e
    cases q1 : keyD d with
    | none => rw [q1] at e; cases e
    | some k =>
      cases q2 : keysD ds with
      | none => rw [q1, q2] at e; cases e
      | some l =>
        rw [q1, q2] at e
        cases e
        rw [h1.key q1, h2.keys q2]
        rfl
theorem find_zip {κ : Type} [DecidableEq κ] {K : PySem.W.Frag} {H : Hp} {f : κ → PyData} {g : κ → KX} (hf : ∀ k, keyX (f k) = some (g k)) (hg : ∀ a b, g a = g b → a = b) (k : κ) : ∀ {ks : List κ} {vs : List V} {ds : List PyData}, ks.length = vs.length → AtAll K H vs ds →
    (∀ d, (((ks.map f).zip ds).find? fun p => decide (keyX p.1 = some (g k))).map (·.2) = some d → ∃ v, valV (ks.zip vs) k = some v ∧ At K H v d) ∧
    ((((ks.map f).zip ds).find? fun p => decide (keyX p.1 = some (g k))).map (·.2) = none → valV (ks.zip vs) k = none)
  | [], _, _, _, _ => ⟨fun d e => by simp at e, fun _ => by simp [valV]⟩
  | k' :: ks, [], _, hl, _ => by simp at hl
  | k' :: ks, v :: vs, _, hl, .cons (d := d0) (ds := ds) h1 h2 => by
    obtain ⟨i1, i2⟩ := find_zip (f := f) (g := g) hf hg k (ks := ks) (by simpa using hl) h2
    rw [List.map_cons, List.zip_cons_cons, List.zip_cons_cons, List.find?_cons]
    by_cases e : k' = k
    · subst e
      have : decide (keyX (f k') = some (g k')) = true := decide_eq_true (hf k')
      dsimp only
      rw [this]
      refine ⟨fun d z => ?_, fun z => by cases z⟩
      cases z
      exact ⟨v, valV_pos rfl, h1⟩
    · have : decide (keyX (f k') = some (g k)) = false := decide_eq_false fun z => e (hg _ _ (Option.some.inj ((hf k').symm.trans z)))
      dsimp only
      rw [this]
      refine ⟨fun d z => ?_, fun z => ?_⟩
      · obtain ⟨w, w1, w2⟩ := i1 d z
        exact ⟨w, (valV_neg e).trans w1, w2⟩
      · exact (valV_neg e).trans (i2 z)
theorem all_zip {κ : Type} {f : κ → PyData} {b : PyData → Bool} : ∀ {ks : List κ} {ds : List PyData}, ks.length = ds.length → ((ks.map f).zip ds).all (fun p => b p.1) = true → ks ≠ [] → ∃ k, b (f k) = true
  | [], _, _, _, h => absurd rfl h
  | k :: ks, [], hl, _, _ => by simp at hl
  | k :: ks, d :: ds, _, h, _ => by
    rw [List.map_cons, List.zip_cons_cons, List.all_cons, Bool.and_eq_true] at h
    exact ⟨k, h.1⟩
/-- what a dict as data has for a key; e: no dict of the other kind that is empty -/
theorem At.look {K : PySem.W.Frag} {Hx H : Hp} {x y : V} {kvs : List (PyData × PyData)} {kd : PyData} {r : Option PyData} (sm : Same Hx H) (hx : At K Hx x (.dict kvs)) (hy : At K H y kd) (e : lookD kvs kd = some r) :
    ∃ a, x = .ref a ∧ ((∃ o, DGet H a y o ∧ (∀ d, r = some d → ∃ v, o = some v ∧ At K Hx v d) ∧ (r = none → o = none)) ∨
      (r = none ∧ ((∃ (b : Addr) (ks : List Key), H a = some (.dK []) ∧ y = .ref b ∧ H b = some (.tup (ks.map kV))) ∨ ∃ k : Key, H a = some (.dT []) ∧ y = kV k))) := by
  unfold lookD at e
  split at e
  · rename_i kk hk
    split at e
    · rename_i hall
      cases e
      cases hx with
      | dk h1 h2 h3 =>
        rename_i a ks vs ds
        refine ⟨a, rfl, ?_⟩
        cases kk with
        | inl k =>
          obtain ⟨i1, i2⟩ := find_zip (f := kD) (g := Sum.inl) keyX_kD (fun _ _ z => Sum.inl.inj z) k h2 h3
          have hy' : y = kV k := hy.key (keyX_inl hk)
          subst hy'
          refine .inl ⟨_, .inl ⟨_, k, (rd_same sm h1).rd, rfl, rfl⟩, fun d hd => ?_, fun hn => i2 hn⟩
          exact i1 d hd
        | inr l =>
          right
          by_cases e : ks = []
          · subst e
            obtain ⟨xs, rfl, z1⟩ := keyX_inr hk
            refine ⟨by simp, .inl ?_⟩
            cases hy with
            | tup hb hxs => exact ⟨_, l, (rd_same sm h1).resolve_right fun z => z.1 rfl, rfl, by rw [hb, hxs.keys z1]⟩
          · obtain ⟨k, hb⟩ := all_zip (f := kD) (b := fun d => kindOk (.inr l) d) (by rw [h2, h3.length]) hall e
            unfold kindOk at hb
            rw [keyX_kD] at hb
            cases hb
      | dt h1 h2 h3 =>
        rename_i a ks vs ds
        refine ⟨a, rfl, ?_⟩
        cases kk with
        | inr l =>
          obtain ⟨i1, i2⟩ := find_zip (f := fun k => PyData.tuple (k.map kD)) (g := Sum.inr) keyX_tup (fun _ _ z => Sum.inr.inj z) l h2 h3
          obtain ⟨b, hb1, hb2⟩ : ∃ b, y = .ref b ∧ H b = some (.tup (l.map kV)) := by
            obtain ⟨xs, rfl, z1⟩ := keyX_inr hk
            cases hy with
            | tup hb hxs => exact ⟨_, rfl, by rw [hb, hxs.keys z1]⟩
          subst hb1
          exact .inl ⟨_, .inr ⟨_, l, b, (rd_same sm h1).rd, rfl, hb2, rfl⟩, fun d hd => i1 d hd, fun hn => i2 hn⟩
        | inl k =>
          right
          by_cases e : ks = []
          · subst e
            exact ⟨by simp, .inr ⟨k, (rd_same sm h1).resolve_right fun z => z.1 rfl, hy.key (keyX_inl hk)⟩⟩
          · obtain ⟨l, hb⟩ := all_zip (f := fun k : List Key => PyData.tuple (k.map kD)) (b := fun d => kindOk (.inl k) d) (by rw [h2, h3.length]) hall e
            unfold kindOk at hb
            rw [keyX_tup] at hb
            cases hb
    · cases e
  · cases e
end L2.Vs

set_option Elab.async false
set_option linter.all false
set_option maxRecDepth 100000
set_option maxHeartbeats 4000000
namespace L2.Vs
open PySem PySem.Spec PyProof.Rows L2 L2.Dx
def isDh : HO → Bool
  | .dK _ => true | .dT _ => true | _ => false
section
variable {X : Cx} {pins : List (Addr × Obj)} {σ : St} {H : Hp} {s : Shared} {a : Addr}
theorem inv_swap {o o' : HO} (I : Inv X pins σ H s) (ha : H a = some o) (no : isDh o = true) (h' : ∀ H2, ObjOk X.prog X.w H2 s.heap a o → ObjOk X.prog X.w H2 s.heap a o') : Inv X pins σ (upd H a o') s := by
  have ntup : ∀ c xs, H c = some (.tup xs) → c ≠ a := fun c xs q z => by subst z; rw [ha] at q; cases q; cases no
  have nown : ∀ c x, H c = some (.own x) → c ≠ a := fun c x q z => by subst z; rw [ha] at q; cases q; cases no
  have nfrz : ∀ c ob u, H c = some (.frz ob u) → c ≠ a := fun c ob u q z => by subst z; rw [ha] at q; cases q; cases no
  have ntbl : ∀ c ps, H c = some (.tbl ps) → c ≠ a := fun c ps q z => by subst z; rw [ha] at q; cases q; cases no
  have nnone : ∀ c, H c = none → c ≠ a := fun c q z => by subst z; rw [ha] at q; cases q
  have stay : ∀ b u, ObjOk X.prog X.w H s.heap b u → ObjOk X.prog X.w (upd H a o') s.heap b u := fun b u x => x.stay (fun _ _ _ q => q) (fun c q => (upd_ne (nown c _ q)).trans q) fun c xs q => (upd_ne (ntup c xs q)).trans q
  have hok : HOk X.prog X.w (upd H a o') s.heap := fun b u e => by
    by_cases z : b = a
    · subst z
      rw [upd_same] at e
      cases e
      exact h' _ (stay _ _ (I.hok b _ ha))
    · rw [upd_ne z] at e
      exact stay _ _ (I.hok b u e)
  obtain ⟨u1, u2, u3, u4, u5, u6, u7⟩ := I.base
  exact ⟨I.ok, I.os, I.bare, ⟨u1, u2, fun b ob q n hx => (upd_ne (nnone b (u3 b ob q n hx))).trans (u3 b ob q n hx), u4, fun b xs q => (upd_ne (ntup b xs (u5 b xs q))).trans (u5 b xs q), fun b ob u q => (upd_ne (nfrz b ob u (u6 b ob u q))).trans (u6 b ob u q),
    fun b ps q => (u7 b ps q).elim fun more e => ⟨more, (upd_ne (ntbl b _ e)).trans e⟩⟩, I.loc, I.cell, (upd_ne (nnone _ I.free)).trans I.free, fun x c e => (upd_ne (nnone _ (I.freeC x c e))).trans (I.freeC x c e),
    fun p hp => ⟨(I.pin p hp).1, (upd_ne (nnone _ (I.pin p hp).2.1)).trans (I.pin p hp).2.1, (I.pin p hp).2.2⟩, hok, I.len⟩
theorem kt_empty {P : Program} {w : World} {h : Heap} {H1 H2 : Hp} (x : ObjOk P w H1 h a (.dK [])) : ObjOk P w H2 h a (.dT []) := by
  obtain ⟨z, y, vs, kv, o, es, ep, h1, h2, h3, h4, h5, h6⟩ := x
  cases kv
  have e0 : es.toList = [] := by generalize es.toList = l at h5; cases h5; rfl
  exact ⟨z, y, [], .nil, o, es, ep, h1, h2, h3, by rw [e0]; rfl, .nil⟩
theorem tk_empty {P : Program} {w : World} {h : Heap} {H1 H2 : Hp} (x : ObjOk P w H1 h a (.dT [])) : ObjOk P w H2 h a (.dK []) := by
  obtain ⟨z, y, xs, kt, o, es, ep, h1, h2, h3, h4, h5⟩ := x
  cases kt
  have e0 : es = #[] := by cases es; simpa using h4
  subst e0
  exact ⟨z, y, [], .nil, o, #[], ep, h1, h2, h3, (fun e he => by simp at he), .nil, .nil⟩
end
/-- k in d, k not in d -/
def rDinX (K : PySem.W.Frag) (neg : Bool) : R2 := fun x y H Q => ∃ kvs kd r, At K H y (.dict kvs) ∧ At K H x kd ∧ lookD kvs kd = some r ∧ Q (.bl (neg != r.isSome)) H
def dinD (neg : Bool) (a b : PyData) : Option PyData := match b with
  | .dict kvs => (lookD kvs a).map fun r => .bool (neg != r.isSome)
  | _ => none
theorem o2_din {K : PySem.W.Frag} {neg : Bool} : O2 K (rDinX K neg) (dinD neg) := by
  intro H x y a b c ha hb e Q q
  unfold dinD at e
  split at e
  · rename_i kvs
    obtain ⟨r, e1, e2⟩ := Option.map_eq_some_iff.mp e
    subst e2
    exact ⟨kvs, a, r, hb, ha, e1, q _ fun _ => .bl _⟩
  · cases e
section
variable {X : Cx}
theorem look_isSome {K : PySem.W.Frag} {H : Hp} {r : Option PyData} {o : Option V} (h1 : ∀ d, r = some d → ∃ v, o = some v ∧ At K H v d) (h2 : r = none → o = none) : o.isSome = r.isSome := by
  cases r with
  | none => rw [h2 rfl]; rfl
  | some d => obtain ⟨v, e, _⟩ := h1 d rfl; rw [e]; rfl
theorem din_core {pins : List (Addr × Obj)} {s : Shared} {σ : St} {H : Hp} {x y : V} {v u : Value} {Q : VK} {neg : Bool} {kvs : List (PyData × PyData)} {kd : PyData} {r : Option PyData} {op : CmpOp}
    (run : ∀ {H : Hp} {a : Addr} {o : Option V}, Inv X pins σ H s → DGet H a x o → (∀ s', Inv X pins σ H s' → EP X pins σ Q (.bool (neg != o.isSome)) s') → wpAny (model X.prog X.w) X.A (compareOp op v (.ref a)) (EP X pins σ Q) X.xe s)
    (I : Inv X pins σ H s) (ry : RelV y u) (hy : At X.K H y (.dict kvs)) (hx : At X.K H x kd) (e : lookD kvs kd = some r) (q : Q (.bl (neg != r.isSome)) H) : wpAny (model X.prog X.w) X.A (compareOp op v u) (EP X pins σ Q) X.xe s := by
  obtain ⟨a, rfl, h⟩ := hy.look (Same.refl _) hx e
  cases ry
  rcases h with ⟨o, g, h1, h2⟩ | ⟨hr, ⟨b, ks, h1, rfl, h3⟩ | ⟨k, h1, rfl⟩⟩
  · exact run I g fun s' I' => ⟨.bl _, H, I', rfl, by rw [look_isSome h1 h2]; exact q⟩
  · subst hr
    have I2 := inv_swap (o' := .dT []) I h1 rfl fun _ z => kt_empty z
    have hne : b ≠ a := fun z => by rw [z, h1] at h3; cases h3
    refine run I2 (DGet.t (k := ks) upd_same ((upd_ne hne).trans h3)) fun s' I' => ?_
    have I3 := inv_swap (o' := .dK []) I' upd_same rfl fun _ z => tk_empty z
    rw [upd_upd] at I3
    have eH : upd H a (.dK []) = H := by
      funext c
      by_cases z : c = a
      · rw [z, upd_same, h1]
      · rw [upd_ne z]
    rw [eH] at I3
    exact ⟨.bl _, H, I3, rfl, q⟩
  · subst hr
    have I2 := inv_swap (o' := .dK []) I h1 rfl fun _ z => tk_empty z
    refine run I2 (DGet.k (k := k) upd_same) fun s' I' => ?_
    have I3 := inv_swap (o' := .dT []) I' upd_same rfl fun _ z => kt_empty z
    rw [upd_upd] at I3
    have eH : upd H a (.dT []) = H := by
      funext c
      by_cases z : c = a
      · rw [z, upd_same, h1]
      · rw [upd_ne z]
    rw [eH] at I3
    exact ⟨.bl _, H, I3, rfl, q⟩
theorem op_dinX (hu : X.A.units + 1 < cLine) : OpR X (compareOp .In) (rDinX X.K false) := by
  intro pins s σ H x y v u Q I rx ry h
  obtain ⟨kvs, kd, r, hy, hx, e, q⟩ := h
  exact din_core (neg := false) (fun {H a o} I g k => d_in hu I g rx fun s' I' => by simpa using k s' I') I ry hy hx e q
theorem op_dninX (hu : X.A.units + 1 < cLine) : OpR X (compareOp .NotIn) (rDinX X.K true) := by
  intro pins s σ H x y v u Q I rx ry h
  obtain ⟨kvs, kd, r, hy, hx, e, q⟩ := h
  exact din_core (neg := true) (fun {H a o} I g k => d_notIn hu I g rx fun s' I' => by simpa using k s' I') I ry hy hx e q
/-- d[k] -/
def gDget (ga gb : G) : G := fun env => match ga env with
  | some (.dict kvs, b) => (match gb env with
    | some (k, _) => (match lookD kvs k with
      | some (some d) => some (d, b)
      | _ => none)
    | none => none)
  | _ => none
variable {e1 e2 sub : Expr} {ga gb : G}
theorem ve_dget (ha : VE X e1 ga) (hb : VE X e2 gb) (hp : ∀ {t u}, PE X e1 t → PE X e2 u → PE X sub (tDGet t u)) : VE X sub (gDget ga gb) := by
  obtain ⟨t, h1, h2⟩ := ha.ex
  obtain ⟨u, k1, k2⟩ := hb.ex
  refine ⟨_, hp h1 k1, fun {H0 A H σ env O} R {d b} e {Q} q => ?_⟩
  unfold gDget at e
  split at e
  · rename_i kvs b1 s
    split at e
    · rename_i k b2 s2
      split at e
      · rename_i d' hl
        cases e
        refine h2 R s fun v H1 s1 hv => k2 (R.same s1) s2 fun w H2 s3 hw => ?_
        have hv := hv.same (hb_same s3)
        have hw := hw.same (hb_sub (b := b2) (H := H2) (O := _) (A := _))
        obtain ⟨a, rfl, z⟩ := hv.look hb_sub hw hl
        rcases z with ⟨o, g, z1, _⟩ | ⟨z, _⟩
        · obtain ⟨v', e0, hd⟩ := z1 _ rfl
          subst e0
          exact ⟨a, v', rfl, g, q _ _ (s1.trans s3) hd⟩
        · cases z
      · cases e
    · cases e
  · cases e
/-! a walk over a dict's keys -/
theorem at_lock {K : PySem.W.Frag} {H H' : Hp} {d : Addr} {u : HO} (hn : ∀ a o, a ≠ d → H a = some o → H' a = some o) (hd : H d = some u) (ud : isDh u = true)
    (h1 : ∀ ks : List Key, ∀ vs, u = .dK (ks.zip vs) → Rd' H' d u (ks ≠ [])) (h2 : ∀ ks : List (List Key), ∀ vs, u = .dT (ks.zip vs) → Rd' H' d u (ks ≠ [])) :
    (∀ {v : V} {x : PyData}, At K H v x → At K H' v x) := by
  have ne : ∀ {a : Addr} {o : HO}, H a = some o → isDh o = false → a ≠ d := fun e z w => by subst w; rw [hd] at e; cases e; rw [ud] at z; cases z
  intro v x h
  refine At.rec (motive_1 := fun v x _ => At K H' v x) (motive_2 := fun vs xs _ => AtAll K H' vs xs) .non (fun b => .bl b) (fun i => .int i) (fun x => .str x) ?_ ?_ ?_ ?_ .nil ?_ h
  · exact fun h1 _ ih => .lst (hn _ _ (ne h1 rfl) h1) ih
  · exact fun h1 _ ih => .tup (hn _ _ (ne h1 rfl) h1) ih
  · intro a ks vs ds q1 q2 _ ih
    refine .dk ?_ q2 ih
    by_cases e : a = d
    · subst e
      rcases q1 with q1 | ⟨_, ob, q1⟩
      · rw [hd] at q1
        cases q1
        exact h1 ks vs rfl
      · rw [hd] at q1
        cases q1
        cases ud
    · exact q1.imp (hn _ _ e) fun ⟨z, ob, q⟩ => ⟨z, ob, hn _ _ e q⟩
  · intro a ks vs ds q1 q2 _ ih
    refine .dt ?_ q2 ih
    by_cases e : a = d
    · subst e
      rcases q1 with q1 | ⟨_, ob, q1⟩
      · rw [hd] at q1
        cases q1
        exact h2 ks vs rfl
      · rw [hd] at q1
        cases q1
        cases ud
    · exact q1.imp (hn _ _ e) fun ⟨z, ob, q⟩ => ⟨z, ob, hn _ _ e q⟩
  · exact fun _ _ i1 i2 => .cons i1 i2
/-- the dict is unlocked -/
theorem at_unlock {K : PySem.W.Frag} {H H' : Hp} {d : Addr} {u : HO} {ob : Obj} (hn : ∀ a o, a ≠ d → H a = some o → H' a = some o) (hd : H d = some (.frz ob u)) (hd' : H' d = some u) :
    (∀ {v : V} {x : PyData}, At K H v x → At K H' v x) := by
  have ne : ∀ {a : Addr} {o : HO}, H a = some o → (∀ ob u, o ≠ .frz ob u) → a ≠ d := fun e z w => by subst w; rw [hd] at e; cases e; exact z _ _ rfl
  intro v x h
  refine At.rec (motive_1 := fun v x _ => At K H' v x) (motive_2 := fun vs xs _ => AtAll K H' vs xs) .non (fun b => .bl b) (fun i => .int i) (fun x => .str x) ?_ ?_ ?_ ?_ .nil ?_ h
  · exact fun h1 _ ih => .lst (hn _ _ (ne h1 fun _ _ z => nomatch z) h1) ih
  · exact fun h1 _ ih => .tup (hn _ _ (ne h1 fun _ _ z => nomatch z) h1) ih
  · intro a ks vs ds q1 q2 _ ih
    refine .dk ?_ q2 ih
    by_cases e : a = d
    · subst e
      rcases q1 with q1 | ⟨z, ob', q1⟩
      · rw [hd] at q1; cases q1
      · rw [hd] at q1; cases q1; exact .inl hd'
    · exact q1.imp (hn _ _ e) fun ⟨z, ob, q⟩ => ⟨z, ob, hn _ _ e q⟩
  · intro a ks vs ds q1 q2 _ ih
    refine .dt ?_ q2 ih
    by_cases e : a = d
    · subst e
      rcases q1 with q1 | ⟨z, ob', q1⟩
      · rw [hd] at q1; cases q1
      · rw [hd] at q1; cases q1; exact .inl hd'
    · exact q1.imp (hn _ _ e) fun ⟨z, ob, q⟩ => ⟨z, ob, hn _ _ e q⟩
  · exact fun _ _ i1 i2 => .cons i1 i2
end
end L2.Vs

set_option Elab.async false
set_option linter.all false
set_option maxRecDepth 100000
set_option maxHeartbeats 4000000
namespace L2.Vs
open PySem PySem.Spec PyProof.Rows L2 L2.Dx
theorem ps_or {X : Cx} {st : Stmt} {t u : TS} (h : PS X st t) (k : PS X st u) : PS X st (fun D σ H => t D σ H ∨ u D σ H) :=
  ⟨fun pins s σ H D I z => z.elim (h.run pins s σ H D I) (k.run pins s σ H D I)⟩
theorem one_hp {a : Addr} {o : HO} : Same (fun b => if b = a then some o else none) (fun b => if b = a then some o else none) := Same.refl _
theorem one_in {H : Hp} {a : Addr} {o : HO} (h : H a = some o) : Same (fun b => if b = a then some o else none) H := fun b u z => by
  dsimp only at z
  split at z
  · rename_i e
    cases z
    rw [e]
    exact h
  · cases z
theorem one_at {H : Hp} {a : Addr} {o : HO} (h : Same (fun b => if b = a then some o else none) H) : H a = some o := h a o (if_pos rfl)
theorem iterK {K : PySem.W.Frag} {S : Hp} {d : Addr} {ob : Obj} {ks : List Key} {vs : List V} (hl : ks.length = vs.length) : IterOk K (Itk d ob (ks.zip vs)) (ks.map kD) S (fun b => if b = d then some (.frz ob (.dK (ks.zip vs))) else none) :=
  ⟨fun _ c => ⟨one_at c, by simp [hl]⟩, fun {H1 Y} _ _ c {i x} e => by
    rw [List.getElem?_map] at e
    obtain ⟨k, h1, rfl⟩ := Option.map_eq_some_iff.mp e
    have hi : i < ks.length := (List.getElem?_eq_some_iff.mp h1).1
    refine ⟨⟨one_at c, by simp; omega⟩, fun v H2 ⟨z1, k', v', z2, z3⟩ => ?_⟩
    subst z1
    subst z3
    rw [List.getElem?_zip_eq_some] at z2
    rw [h1] at z2
    cases z2.1
    refine ⟨Same.refl _, ?_⟩
    cases k'
    · exact .int _
    · exact .str _⟩
theorem at_keys {K : PySem.W.Frag} {H : Hp} : ∀ ks : List Key, AtAll K H (ks.map kV) (ks.map kD)
  | [] => .nil
  | .inl i :: ks => .cons (.int i) (at_keys ks)
  | .inr x :: ks => .cons (.str x) (at_keys ks)
theorem iterT {K : PySem.W.Frag} {S : Hp} {d : Addr} {ob : Obj} {ks : List (List Key)} {vs : List V} (hl : ks.length = vs.length) : IterOk K (Itkt d ob (ks.zip vs)) (ks.map fun k => PyData.tuple (k.map kD)) S (fun b => if b = d then some (.frz ob (.dT (ks.zip vs))) else none) :=
  ⟨fun _ c => ⟨one_at c, by simp [hl]⟩, fun {H1 Y} hY _ c {i x} e => by
    rw [List.getElem?_map] at e
    obtain ⟨k, h1, rfl⟩ := Option.map_eq_some_iff.mp e
    have hi : i < ks.length := (List.getElem?_eq_some_iff.mp h1).1
    refine ⟨⟨one_at c, by simp; omega⟩, fun v H2 ⟨z1, k', v', b, z2, z3, z4⟩ => ?_⟩
    subst z1
    subst z3
    rw [List.getElem?_zip_eq_some] at z2
    rw [h1] at z2
    cases z2.1
    refine ⟨Same.refl _, .tup ?_ (at_keys k')⟩
    rw [hm_in fun z => (hY b z).elim fun o ho => by rw [z4] at ho; cases ho.1; cases ho.2]
    exact z4⟩
theorem zip_nil1 {ks ks' : List Key} {vs vs' : List V} (hl : ks.length = vs.length) (e : ks.zip vs = ks'.zip vs') (z : ks' = []) : ks.map kD = [] := by
  subst z
  cases ks with
  | nil => rfl
  | cons k ks => cases vs with
    | nil => cases hl
    | cons v vs => cases e
theorem zip_nil2 {ks ks' : List (List Key)} {vs vs' : List V} (hl : ks.length = vs.length) (e : ks.zip vs = ks'.zip vs') (z : ks' = []) : (ks.map fun k => PyData.tuple (k.map kD)) = [] := by
  subst z
  cases ks with
  | nil => rfl
  | cons k ks => cases vs with
    | nil => cases hl
    | cons v vs => cases e
def gForK (i : Nat) (tg : PyData → Env → Option Env) (gb : GS) : GS := fun env => match env[i]? with
  | some (.dat (.dict kvs)) => loopG tg gb (kvs.map (·.1)) env
  | _ => none
section
variable {K : PySem.W.Frag} {H0 H : Hp} {σ : St} {env : Env} {A O : Ads} {d : Addr} {u : HO}
theorem hm_upd_out {X : Ads} {o : HO} (hx : ¬ X d) : Hm (upd H d o) X = upd (Hm H X) d o := by
  funext b
  by_cases e : b = d
  · subst e
    rw [upd_same, hm_in hx, upd_same]
  · rw [upd_ne e]
    unfold Hm
    rw [upd_ne e]
theorem Rep.lock (R : Rep K H0 A H σ env O) (hd : Hm H (orX O A) d = some u) (ud : isDh u = true) (od : Obj) (h1 : ∀ ks : List Key, ∀ vs, u = .dK (ks.zip vs) → ks ≠ []) (h2 : ∀ ks : List (List Key), ∀ vs, u = .dT (ks.zip vs) → ks ≠ []) :
    Rep K (Hm (upd H d (.frz od u)) O) A (upd H d (.frz od u)) σ env O := by
  obtain ⟨nX, hH⟩ := hm_some hd
  have nO : ¬ O d := fun z => nX (.inl z)
  have nu : nt u = true := by cases u <;> first | rfl | cases ud
  have lk : ∀ {v : V} {x : PyData}, At K (Hm H (orX O A)) v x → At K (Hm (upd H d (.frz od u)) (orX O A)) v x := by
    rw [hm_upd_out nX]
    exact at_lock (fun a o na e => (upd_ne na).trans e) hd ud (fun ks vs e => .inr ⟨h1 ks vs e, od, upd_same⟩) (fun ks vs e => .inr ⟨h2 ks vs e, od, upd_same⟩)
  have lks : ∀ {vs : List V} {xs : List PyData}, AtAll K (Hm H (orX O A)) vs xs → AtAll K (Hm (upd H d (.frz od u)) (orX O A)) vs xs := fun {vs} => by
    induction vs with
    | nil => intro xs h; cases h; exact .nil
    | cons v vs ih => intro xs h; cases h with | cons a b => exact .cons (lk a) (ih b)
  refine ⟨R.len, fun i s e => ?_, R.dj, fun a o e => hm_some e, fun a h => ?_, fun a h => ?_⟩
  · have := R.sl i s e
    cases s with
    | un => trivial
    | dat x => exact this.elim fun v ⟨z1, z2⟩ => ⟨v, z1, lk z2⟩
    | lst xs => exact this.elim fun a ⟨vs, z1, z2, z3, z4⟩ => ⟨a, vs, z1, z2, (upd_ne fun z => nO (by rw [← z]; exact z2)).trans z3, lks z4⟩
    | dct t kvs =>
      obtain ⟨a, o, z1, z2, z3, z4⟩ := this
      refine ⟨a, o, z1, z2, (upd_ne fun z => nO (by rw [← z]; exact z2)).trans z3, ?_⟩
      cases t with
      | true => obtain ⟨ks, vs, ds, w1, w2, w3, w4⟩ := z4; exact ⟨ks, vs, ds, w1, w2, lks w3, w4⟩
      | false => obtain ⟨ks, vs, ds, w1, w2, w3, w4⟩ := z4; exact ⟨ks, vs, ds, w1, w2, lks w3, w4⟩
  · obtain ⟨o, e1, e2⟩ := R.inA a h
    obtain ⟨z1, z2⟩ := R.ent a o e1
    exact ⟨o, by rw [hm_in z1]; exact (upd_ne fun z => nX (.inr (by rw [← z]; exact h))).trans z2, e2⟩
  · obtain ⟨o, e1, e2⟩ := R.inO a h
    exact ⟨o, (upd_ne fun z => nO (by rw [← z]; exact h)).trans e1, e2⟩
theorem Rep.unlock {H' : Hp} {σ' : St} {env' : Env} {O' : Ads} {od : Obj} (R : Rep K H0 A H σ env O) (hd : Hm H (orX O A) d = some u) (ud : isDh u = true) (R' : Rep K (Hm (upd H d (.frz od u)) O) A H' σ' env' O') :
    H' d = some (.frz od u) ∧ Rep K H0 A (upd H' d u) σ' env' O' := by
  obtain ⟨nX, hH⟩ := hm_some hd
  have nO : ¬ O d := fun z => nX (.inl z)
  have nA : ¬ A d := fun z => nX (.inr z)
  obtain ⟨nO', hd'⟩ := R'.ent d (.frz od u) (by rw [hm_in nO]; exact upd_same)
  have nX' : ¬ orX O' A d := fun z => z.elim nO' nA
  have ul : ∀ {v : V} {x : PyData}, At K (Hm H' (orX O' A)) v x → At K (Hm (upd H' d u) (orX O' A)) v x := by
    rw [hm_upd_out nX']
    exact at_unlock (fun a o na e => (upd_ne na).trans e) ((hm_in nX').trans hd') upd_same
  have uls : ∀ {vs : List V} {xs : List PyData}, AtAll K (Hm H' (orX O' A)) vs xs → AtAll K (Hm (upd H' d u) (orX O' A)) vs xs := fun {vs} => by
    induction vs with
    | nil => intro xs h; cases h; exact .nil
    | cons v vs ih => intro xs h; cases h with | cons a b => exact .cons (ul a) (ih b)
  refine ⟨hd', R'.len, fun i s e => ?_, R'.dj, fun a o e => ?_, R.inA, fun a h => ?_⟩
  · have := R'.sl i s e
    cases s with
    | un => trivial
    | dat x => exact this.elim fun v ⟨z1, z2⟩ => ⟨v, z1, ul z2⟩
    | lst xs => exact this.elim fun a ⟨vs, z1, z2, z3, z4⟩ => ⟨a, vs, z1, z2, (upd_ne fun z => nO' (by rw [← z]; exact z2)).trans z3, uls z4⟩
    | dct t kvs =>
      obtain ⟨a, o, z1, z2, z3, z4⟩ := this
      refine ⟨a, o, z1, z2, (upd_ne fun z => nO' (by rw [← z]; exact z2)).trans z3, ?_⟩
      cases t with
      | true => obtain ⟨ks, vs, ds, w1, w2, w3, w4⟩ := z4; exact ⟨ks, vs, ds, w1, w2, uls w3, w4⟩
      | false => obtain ⟨ks, vs, ds, w1, w2, w3, w4⟩ := z4; exact ⟨ks, vs, ds, w1, w2, uls w3, w4⟩
  · obtain ⟨z1, z2⟩ := R.ent a o e
    by_cases ea : a = d
    · subst ea
      rw [hH] at z2
      cases z2
      exact ⟨nO', upd_same⟩
    · obtain ⟨w1, w2⟩ := R'.ent a o (by rw [hm_in z1]; exact (upd_ne ea).trans z2)
      exact ⟨w1, (upd_ne ea).trans w2⟩
  · obtain ⟨o, e1, e2⟩ := R'.inO a h
    exact ⟨o, (upd_ne fun z => nO' (by rw [← z]; exact h)).trans e1, e2⟩
end
section
variable {X : Cx} {e : Expr} {st : Stmt} {a : List Stmt} {gs : GS}
theorem vs_forK {i : Nat} {tg : PyData → Env → Option Env} {sl : List Nat} {tge iter : Expr} (hi : PE X iter (tVar i)) (hg : VG X tge tg sl) (hb : VSs X a gs) (hp : ∀ {wi g t}, PI X tge iter wi → PG X tge g → PSs X a t → PS X st (tFor wi g t)) : VS X st (gForK i tg gs) := by
  obtain ⟨tgt, l1, l2⟩ := hg.ex
  obtain ⟨tb, m1, m2⟩ := hb.ex
  have P := hp (pi_keys hi) l1 m1
  refine ⟨_, ps_or (ps_lock P) P, fun {H0 A H σ env O} R {o} e {D} q => ?_⟩
  unfold gForK at e
  split at e
  · rename_i kvs s
    obtain ⟨x, h1, h2⟩ := R.dat s
    have key : ∀ {dd : Addr} {u : HO} {J : Obj → It} {kds : List PyData}, x = .ref dd → isDh u = true → (kds ≠ [] → ∀ ks : List Key, ∀ vs, u = .dK (ks.zip vs) → ks ≠ []) → (kds ≠ [] → ∀ ks : List (List Key), ∀ vs, u = .dT (ks.zip vs) → ks ≠ []) →
        Rd' (Hm H (orX O A)) dd u (kds ≠ []) → (∀ ob S, IterOk X.K (J ob) kds S (fun b => if b = dd then some (.frz ob u) else none)) → loopG tg gs kds env = some o →
        (∀ (H1 : Hp) (ob : Obj) (R : It → Hp → Prop), H1 dd = some (.frz ob u) → R (J ob) H1 → iKeys (tVar i) σ H1 R) → (tLock (tFor (iKeys (tVar i)) tgt tb) D σ H ∨ tFor (iKeys (tVar i)) tgt tb D σ H) := by
      intro dd u J kds hx ud hk1 hk2 hrd hit hlo hkey
      subst hx
      rcases hrd with hd | ⟨_, ob, hd⟩
      · left
        obtain ⟨nX, hH⟩ := hm_some hd
        refine ⟨dd, u, hH, ?_, fun od => hkey _ od _ upd_same ?_⟩
        · cases u <;> first | trivial | cases ud
        by_cases hne : kds = []
        · subst hne
          cases hlo
          refine ⟨fun j m σ' H' => j = 0 ∧ σ' = σ ∧ H' = upd H dd (.frz od u), ⟨0, rfl, rfl, rfl⟩, ?_⟩
          rintro j m σ' H' ⟨rfl, rfl, rfl⟩
          left
          refine ⟨(hit od (fun _ => none)).stop (Y := fun _ => False) (fun _ _ z => nomatch z) (one_in upd_same), upd_same, ?_⟩
          have eq : upd (upd H dd (.frz od u)) dd u = H := by
            funext b
            by_cases eb : b = dd
            · rw [eb, upd_same, hH]
            · rw [upd_ne eb, upd_ne eb]
          show D.nx σ' (upd (upd H dd (.frz od u)) dd u)
          rw [eq]
          exact q _ _ _ R
        · have RL := R.lock hd ud od (hk1 hne) (hk2 hne)
          refine loop_core RL (one_in ((hm_in nX).trans upd_same)) (hit od _) hlo @l2 @m2 ?_
          cases o with
          | nx e => exact fun σ' H' O' R' => ⟨(R.unlock hd ud R').1, q _ _ _ (R.unlock hd ud R').2⟩
          | bk e => exact fun σ' H' O' R' => ⟨(R.unlock hd ud R').1, q _ _ _ (R.unlock hd ud R').2⟩
          | ct e => exact fun σ' H' O' R' => ⟨(R.unlock hd ud R').1, q _ _ _ (R.unlock hd ud R').2⟩
          | rt x =>
            intro v H' s1 hv
            have nO : ¬ O dd := fun z => nX (.inl z)
            have nA : ¬ A dd := fun z => nX (.inr z)
            have hd' : H' dd = some (.frz od u) := s1 _ _ (by rw [hm_in nO]; exact upd_same)
            refine ⟨hd', q v _ (fun b ob hb => ?_) ?_⟩
            · obtain ⟨z1, z2⟩ := R.ent b ob hb
              by_cases eb : b = dd
              · subst eb
                rw [hH] at z2
                cases z2
                exact upd_same
              · exact (upd_ne eb).trans (s1 b ob (by rw [hm_in z1]; exact (upd_ne eb).trans z2))
            · rw [hm_upd_out nA]
              exact at_unlock (fun a o na e => (upd_ne na).trans e) ((hm_in nA).trans hd') upd_same hv
      · right
        obtain ⟨nX, hH⟩ := hm_some hd
        exact hkey _ ob _ hH (loop_core R (one_in hd) (hit ob _) hlo @l2 @m2 q)
    cases h2 with
    | dk z1 z2 z3 =>
      rename_i dd ks vs ds
      have L := z3.length
      refine key (u := .dK (ks.zip vs)) (J := fun ob => Itk dd ob (ks.zip vs)) (kds := ks.map kD) rfl rfl (fun hn ks' vs' e z => hn (zip_nil1 z2 (HO.dK.inj e) z)) (fun _ ks' vs' e => by cases e) (z1.imp id fun ⟨w1, w2⟩ => ⟨fun z => w1 (by simpa using z), w2⟩) (fun ob S => iterK z2) (by rw [← e, zip_fst (by rw [List.length_map, z2, L])]) fun H1 ob R hh hr => ⟨_, h1, dd, ob, rfl, .inl ⟨_, hh, hr⟩⟩
    | dt z1 z2 z3 =>
      rename_i dd ks vs ds
      have L := z3.length
      refine key (u := .dT (ks.zip vs)) (J := fun ob => Itkt dd ob (ks.zip vs)) (kds := ks.map fun k => PyData.tuple (k.map kD)) rfl rfl (fun _ ks' vs' e => by cases e) (fun hn ks' vs' e z => hn (zip_nil2 z2 (HO.dT.inj e) z)) (z1.imp id fun ⟨w1, w2⟩ => ⟨fun z => w1 (by simpa using z), w2⟩) (fun ob S => iterT z2) (by rw [← e, zip_fst (by rw [List.length_map, z2, L])]) fun H1 ob R hh hr => ⟨_, h1, dd, ob, rfl, .inr ⟨_, hh, hr⟩⟩
  · cases e
end
end L2.Vs

set_option Elab.async false
set_option linter.all false
set_option maxRecDepth 100000
set_option maxHeartbeats 4000000
namespace L2.Vs
open PySem PySem.Spec PyProof.Rows L2 L2.Dx
def gCat (ga gb : GL) : GF := fun env => match ga env with
  | some xs => (match gb env with
    | some ys => if xs.length + ys.length ≤ 100000 then some (xs ++ ys) else none
    | none => none)
  | none => none
def gSlT (ga : G) (lo hi : Env → Option (Option Int)) : G := fun env => match ga env with
  | some (.tuple xs, b) => (match lo env with
    | some l => (match hi env with
      | some h => if HT.sIx xs.length 0 l = 0 ∧ HT.sIx xs.length xs.length h = xs.length then none else some (.tuple (cutD xs l h), b)
      | none => none)
    | none => none)
  | _ => none
section
variable {X : Cx} {e e1 e2 call : Expr} {g : G} {gl gl2 : GL} {pos : Pos}
theorem vf_cat (ha : VL X e1 gl) (hb : VL X e2 gl2) (hp : ∀ {t u}, PE X e1 t → PE X e2 u → PE X call (tOp rCat t u)) : VF X call (gCat gl gl2) := by
  obtain ⟨t, h1, h2⟩ := ha.ex
  obtain ⟨u, k1, k2⟩ := hb.ex
  refine ⟨_, hp h1 k1, fun {H0 A H σ env O} R {xs} e {Q} q => ?_⟩
  unfold gCat at e
  split at e
  · rename_i as s
    split at e
    · rename_i bs s2
      split at e
      · rename_i hl
        cases e
        refine h2 R s fun p vs H1 q1 hs hv => k2 (R.same q1) s2 fun p2 ws H2 q2 hs2 hw => ?_
        refine ⟨p, p2, vs, ws, rfl, rfl, q2 _ _ hs, hs2, ?_, fun d hd => ?_⟩
        · rw [hv.length, hw.length]
          exact Nat.le_trans hl (by decide)
        · have sn := same_new (o := .lst (vs ++ ws)) hd
          have s02 := q1.trans q2
          exact q _ _ _ (s02.trans sn) (s02.free hd) upd_same (((hv.same (hm_same q2)).append hw).same (hm_new sn hd))
      · cases e
    · cases e
  · cases e
theorem ve_slT {lo hi : Option Expr} {l h : Env → Option (Option Int)} (ha : VE X e g) (h1 : VO X lo l) (h2 : VO X hi h) (hp : ∀ {t u w}, PE X e t → PO X lo u → PO X hi w → PE X call (tSl (rSlT X.K) t u w)) : VE X call (gSlT g l h) := by
  obtain ⟨t, k1, k2⟩ := ha.ex
  obtain ⟨u, l1, l2⟩ := h1.ex
  obtain ⟨w, m1, m2⟩ := h2.ex
  refine ⟨_, hp k1 l1 m1, fun {H0 A H σ env O} R {d b} e {Q} q => ?_⟩
  unfold gSlT at e
  split at e
  · rename_i xs b1 s
    split at e
    · rename_i i s2
      split at e
      · rename_i j s3
        split at e
        · cases e
        · rename_i hne
          cases e
          refine k2 R s fun v H1 q1 hv => l2 (R.same q1) s2 fun H2 q2 => m2 (R.same (q1.trans q2)) s3 fun H3 q3 => ?_
          cases hv with
          | tup hs hvs =>
            rename_i a ws
            have L := hvs.length
            refine ⟨_, _, rfl, .of ((q2.trans q3) _ _ (hb_sub _ _ hs)), by rw [L]; exact hne, fun p hd => ?_⟩
            have sn := same_new (o := .tup (cutV ws i j)) hd
            have s03 := q1.trans (q2.trans q3)
            refine q _ _ (s03.trans sn) (.tup ?_ ((hvs.cut i j).same (hb_same ((q2.trans q3).trans sn))))
            have n := new_in (R.same s03) hd
            cases b
            · show Hm _ A p = _
              rw [hm_in fun z => n (.inr z)]
              exact upd_same
            · show Hm _ (orX O A) p = _
              rw [hm_in n]
              exact upd_same
      · cases e
    · cases e
  · cases e
end
end L2.Vs

set_option Elab.async false
set_option linter.all false
set_option maxRecDepth 100000
set_option maxHeartbeats 4000000
namespace L2.Dx
open PySem PySem.Spec PyProof.Rows L2
abbrev keyM (m : Str × Int) : List L2.Key := [.inr m.1, .inl m.2]
abbrev datM (m : Str × Int) : PyData := .tuple [.str m.1, .int m.2]
/-- m stands at b -/
def MAt (H : Hp) (m : Str × Int) (b : Addr) : Prop := H b = some (.tup [.str m.1, .int m.2])
noncomputable def sortM (ms : List (Str × Int)) : List (Str × Int) := ms.mergeSort (PySem.W.dataLe false datM)
theorem aliveM (a b : Str × Int) : PySem.W.alike (datM a) (datM b) = true := by simp [PySem.W.alike, PySem.W.alikeAll]
theorem eachM {h : Heap} {H : Hp} : ∀ {us : List Value} {ms : List (Str × Int)}, PySem.W.EachIs (fun v m => ∃ b, v = Value.ref b ∧ MAt H m b) us ms → ∃ bs : List Addr, us = bs.map Value.ref ∧ Paired (MAt H) ms bs
  | _, _, .nil => ⟨[], rfl, .nil⟩
  | _, _, .cons ⟨b, e, h1⟩ t => by
    obtain ⟨bs, e2, h2⟩ := eachM (h := h) t
    exact ⟨b :: bs, by rw [e, e2]; rfl, .cons h1 h2⟩
section
variable {X : Cx}
def rSortedDT : List V → Hp → VK → Prop := fun vs H Q => ∃ (d : Addr) (kvs : List (List L2.Key × V)) (ms : List (Str × Int)), vs = [V.ref d] ∧ Rd H d (.dT kvs) ∧ kvs.map (·.1) = ms.map keyM ∧
  ∀ (p : Addr) (bs : List Addr), H p = none → Paired (MAt H) (sortM ms) bs → Q (.ref p) (upd H p (.lst (bs.map V.ref)))
theorem cr_sortedDT (hc : X.calm = true) (hu : X.A.units + 64 < cLine) : CallR X (.builtin "sorted") rSortedDT := by
  intro pins s σ H xs us Q I r h
  obtain ⟨d, kvs, ms, rfl, hd, hkm, q⟩ := h
  obtain ⟨u, rfl, rx⟩ := vals1 r
  cases rx
  obtain ⟨z, hs, ks, pr, o, es, ep, ho, hx, hdt, he, hn⟩ := (show ObjOk X.prog X.w H s.heap d (.dT kvs) from hd.ok I.hok)
  have l1 : es.size = ks.length := size_of_entries he
  have l2 : kvs.length = ks.length := Paired.length pr
  have l3 : kvs.length = ms.length := by
    have := congrArg List.length hkm
    rwa [List.length_map, List.length_map] at this
  refine Calls.call_function_entry PyProof.Rows.kind_sorted PyProof.Rows.plain_sorted PyProof.Rows.entry_sorted (PyProof.Rows.args_sorted1 _) ?_
  unfold Builtin.«sorted»
  refine wpAny_bind (m := checkCount "sorted" 1 1 _) (wpAny_pure ?_)
  refine wpAny_bind (PySem.W.kdu_collect (A := X.A.in1) (kdl_raw hs hx hdt) (I.ok.hd hc) ho (by omega) fun h' tk acc hk hacc => ?_)
  have ea : acc.toList = ks.map fun x => Value.ref x.2.1 := by
    have hl : acc.toList.length = ks.length := by rw [Array.length_toList, hacc.1]; exact l1
    apply List.ext_getElem?
    intro j
    rw [List.getElem?_map]
    cases hj : acc.toList[j]? with
    | none =>
      have h1 := List.getElem?_eq_none_iff.mp hj
      rw [List.getElem?_eq_none (by omega)]
      all_goals rfl
    | some v =>
      obtain ⟨en, hen, hv⟩ := hacc.2 j v (by rw [← Array.getElem?_toList]; exact hj)
      have qe := entry_at he j
      rw [hen] at qe
      cases hb : ks[j]? with
      | none =>
        rw [hb] at qe
        exact nomatch (show some en = none from qe)
      | some b =>
        rw [hb] at qe
        have e2 : en = entryOfKey (tupleKind (mixKind X.prog X.w)) b := Option.some.inj qe
        rw [hv, e2]
        all_goals rfl
  have I1 : Inv X pins σ H { s with heap := h', toks := tk } := I.kept hk
  -- what the keys are
  have each : PySem.W.EachIs (fun v m => ∃ b, v = Value.ref b ∧ MAt H m b) acc.toList ms := by
    rw [ea]
    have go : ∀ {l : List (List L2.Key × V)} {m : List (List L2.Key × Addr × Value)} {ms : List (Str × Int)}, Paired (fun (p : List L2.Key × V) (q : List L2.Key × Addr × Value) => p.1 = q.1 ∧ H q.2.1 = some (.tup (p.1.map kV)) ∧ RelV p.2 q.2.2) l m → l.map (·.1) = ms.map keyM → PySem.W.EachIs (fun v m => ∃ b, v = Value.ref b ∧ MAt H m b) (m.map fun x => Value.ref x.2.1) ms := by
      intro l m ms pr
      induction pr generalizing ms with
      | nil =>
        intro e
        cases ms with
        | nil => exact .nil
        | cons _ _ => cases e
      | @cons p q ps qs hq t ih =>
        intro e
        cases ms with
        | nil => cases e
        | cons m ms =>
          rw [List.map_cons, List.map_cons, List.cons.injEq] at e
          refine .cons ⟨q.2.1, rfl, ?_⟩ (ih e.2)
          have := hq.2.1
          rw [e.1] at this
          exact this
    exact go pr hkm
  have hal : acc.toList.length = ms.length := each.length
  refine wpAny_bind (wpAny_newList ?_ (by rw [hal]; omega))
  have hoL : (h'.push (seqObj "list" acc.toList.toArray 0)).get? h'.objs.size = some (seqObj "list" acc.toList.toArray 0) := Heap.get?_push_size _ rfl
  show wpAny _ _ _ _ _ { s with heap := h'.push (seqObj "list" acc.toList.toArray 0), toks := tk }
  have reads : PySem.W.EachIs (fun v m => ∃ as, Reads (PySem.W.sortingHeap (h'.push (seqObj "list" acc.toList.toArray 0)) h'.objs.size acc.toList) v (datM m) as) acc.toList ms := each.mono fun v m hvm => by
    obtain ⟨b, rfl, hb⟩ := hvm
    obtain ⟨_, its, rv, o', g1, g2, n, g3⟩ := (show ObjOk X.prog X.w H h' b (.tup [.str m.1, .int m.2]) from I1.hok _ _ hb)
    have g1' := PySem.W.sortingHeap_old (vs := acc.toList) (Nat.ne_of_lt (Heap.lt_size g1)) (Heap.get?_push_of_some (seqObj "list" acc.toList.toArray 0) g1)
    obtain ⟨us1, us2, e1, ⟨t1, rfl⟩, ⟨t2, rfl⟩⟩ : ∃ u1 u2, its = [u1, u2] ∧ RelV (.str m.1) u1 ∧ RelV (.int m.2) u2 := by
      cases rv with
      | cons r1 r2 =>
        cases r2 with
        | cons r2 r3 =>
          cases r3
          exact ⟨_, _, rfl, r1, r2⟩
    subst e1
    exact ⟨_, .tuple g1' g2 g3 (.cons (.str _ _) (.cons (.int _ _) .nil))⟩
  have S := PySem.W.SortsAt.data (prog := X.prog) (w := X.w) (A := X.A.in1.in1) (s := { s with heap := PySem.W.sortingHeap (h'.push (seqObj "list" acc.toList.toArray 0)) h'.objs.size acc.toList, toks := tk }) (PySem.W.each_map datM reads) (PySem.W.AllAlike.of (enc := datM) aliveM) (PySem.W.Sortable.tuples (enc := datM) fun b => ⟨_, _, rfl⟩) (fun d hd => by
    obtain ⟨m, _, rfl⟩ := List.mem_map.mp hd
    show X.A.units + 1 + 1 + 1 < cLine
    omega)
  refine wpAny_bind (wpAny_holding (wpAny_call_entry PyProof.Rows.slot_list_sort ⟨_, hoL, rfl⟩ PyProof.Rows.entry_list_sort
    (PySem.W.list_sort_vals (s := { s with heap := h'.push (seqObj "list" acc.toList.toArray 0), toks := tk }) hoL S (by rw [hal]; omega) ⟨_, rfl, ?_⟩) (PyProof.Rows.args_list_sort _)))
  have sv := PySem.W.sortVals_data false each reads (PySem.W.AllAlike.of (enc := datM) aliveM)
  generalize PySem.W.sortVals _ false acc.toList acc.toList = out at sv ⊢
  obtain ⟨bs, rfl, hbs⟩ := eachM (h := h') sv
  obtain ⟨e', he'⟩ := PyProof.Rows.sortedHeap_at (vs := acc.toList) (out := (bs.map Value.ref).toArray) hoL
  have hbl : bs.length = ms.length := by rw [← Paired.length hbs]; exact (List.mergeSort_perm _ _).length_eq
  have hlen : (bs.map V.ref).length ≤ sizeLine := by rw [List.length_map]; omega
  refine wpAny_pure ⟨_, rfl, .ref h'.objs.size, upd H h'.objs.size (.lst (bs.map V.ref)), I1.laid (t' := tk) (fun b u e => ?_) (Nat.le_refl _)
    (show ObjOk X.prog X.w _ _ _ (.lst (bs.map V.ref)) from ⟨hlen, bs.map Value.ref, e', vals_refs bs, he'⟩), rfl, q _ bs (I1.hok.fresh (Nat.le_refl _)) hbs⟩
  have hb : b < h'.objs.size := Heap.lt_size e
  rw [PyProof.Rows.sortedHeap_old (Nat.ne_of_lt hb) (by rw [size_push']; exact Nat.lt_succ_of_lt hb)]
  exact Heap.get?_push_of_some _ e
end
end L2.Dx

set_option Elab.async false
set_option linter.all false
set_option maxRecDepth 100000
set_option maxHeartbeats 4000000
namespace L2.Dx
open PySem PySem.Spec PyProof.Rows L2
theorem str_ext {a b : Str} (h : a.cps.toList = b.cps.toList) : a = b := by
  obtain ⟨⟨x⟩⟩ := a
  obtain ⟨⟨y⟩⟩ := b
  simp only at h
  rw [h]
theorem str_tri (a b : Str) : a.cps.toList < b.cps.toList ∨ a = b ∨ b.cps.toList < a.cps.toList := by
  by_cases c : a.cps.toList < b.cps.toList
  · exact .inl c
  · by_cases d : b.cps.toList < a.cps.toList
    · exact .inr (.inr d)
    · exact .inr (.inl (str_ext (List.le_antisymm (List.not_lt.mp d) (List.not_lt.mp c))))
abbrev ltM (a b : Str × Int) : Prop := a.1.cps.toList < b.1.cps.toList ∨ (a.1 = b.1 ∧ a.2 < b.2)
theorem dataLtM (a b : Str × Int) : PySem.W.dataLt (datM a) (datM b) = decide (ltM a b) := by
  rw [PySem.W.dataLt_pair (by simp [PySem.W.alike]) (by simp [PySem.W.alike]), PySem.W.dataLt_str, PySem.W.dataLt_int]
  simp only [PyData.eqv, beq_iff_eq]
  by_cases h1 : a.1 = b.1
  · rw [if_pos h1]
    have n1 : ¬ a.1.cps.toList < b.1.cps.toList := by rw [h1]; exact List.lt_irrefl _
    by_cases h2 : a.2 = b.2
    · rw [if_pos h2]
      have : ¬ ltM a b := by rintro (z | z); exact n1 z; omega
      simp [this]
    · rw [if_neg h2]
      by_cases h3 : a.2 < b.2
      · have : ltM a b := .inr ⟨h1, h3⟩
        simp [this, h3]
      · have : ¬ ltM a b := by rintro (z | z); exact n1 z; omega
        simp [this, h3]
  · rw [if_neg h1]
    by_cases h3 : a.1.cps.toList < b.1.cps.toList
    · have : ltM a b := .inl h3
      simp [this, h3]
    · have : ¬ ltM a b := by rintro (z | z); exact h3 z; exact h1 z.1
      simp [this, h3]
theorem ltM_trans {a b c : Str × Int} (h : ltM a b) (k : ltM b c) : ltM a c := by
  rcases h with h | h
  · rcases k with k | k
    · exact .inl (List.lt_trans h k)
    · exact .inl (k.1 ▸ h)
  · rcases k with k | k
    · exact .inl (h.1 ▸ k)
    · exact .inr ⟨h.1.trans k.1, by omega⟩
theorem ltM_irrefl (a : Str × Int) : ¬ ltM a a := by
  rintro (z | z)
  · exact List.lt_irrefl _ z
  · omega
theorem ltM_tri (a b : Str × Int) : ltM a b ∨ a = b ∨ ltM b a := by
  rcases str_tri a.1 b.1 with h | h | h
  · exact .inl (.inl h)
  · rcases Int.lt_trichotomy a.2 b.2 with k | k | k
    · exact .inl (.inr ⟨h, k⟩)
    · exact .inr (.inl (Prod.ext h k))
    · exact .inr (.inr (.inr ⟨h.symm, k⟩))
  · exact .inr (.inr (.inl h))
theorem dataLeM (a b : Str × Int) : PySem.W.dataLe false datM a b = !decide (ltM b a) := by
  show (!PySem.W.dataLt (datM b) (datM a)) = _
  rw [dataLtM]
/-- the messages in ascending order, in whatever order they stood -/
theorem sortM_eq {L ms : List (Str × Int)} (h : L.Pairwise ltM) (p : L.Perm ms) : sortM ms = L := by
  refine List.Perm.eq_of_pairwise (le := fun a b => PySem.W.dataLe false datM a b = true) ?_ ?_ ?_ ((List.mergeSort_perm ms _).trans p.symm)
  · intro a b _ _ h1 h2
    rw [dataLeM] at h1 h2
    simp only [Bool.not_eq_true', decide_eq_false_iff_not] at h1 h2
    rcases ltM_tri a b with c | c | c
    · exact absurd c h2
    · exact c
    · exact absurd c h1
  · refine List.pairwise_mergeSort (le := PySem.W.dataLe false datM) (fun a b c h1 h2 => ?_) (fun a b => ?_) ms
    · rw [dataLeM] at h1 h2 ⊢
      simp only [Bool.not_eq_true', decide_eq_false_iff_not] at h1 h2 ⊢
      intro z
      rcases ltM_tri a b with c1 | c1 | c1
      · exact h2 (ltM_trans z c1)
      · exact h2 (c1 ▸ z)
      · exact h1 c1
    · rw [dataLeM, dataLeM]
      by_cases c : ltM b a
      · have : ¬ ltM a b := fun z => ltM_irrefl _ (ltM_trans c z)
        simp [this]
      · simp [c]
  · refine h.imp fun {a b} l => ?_
    rw [dataLeM]
    simp only [Bool.not_eq_true', decide_eq_false_iff_not]
    exact fun z => ltM_irrefl _ (ltM_trans l z)
end L2.Dx

set_option Elab.async false
set_option linter.all false
set_option maxRecDepth 100000
set_option maxHeartbeats 4000000
namespace L2.Dx
open PySem PySem.Spec PyProof.Rows L2
theorem stored_nodup {K : Type} [DecidableEq K] : ∀ (ps xs : List (K × Addr × Value)), ((xs ++ ps).map (·.1)).Nodup → storedAllH xs ps = xs ++ ps
  | [], xs, _ => by rw [List.append_nil]; rfl
  | p :: ps, xs, h => by
    have hn : atKey xs p.1 = none := by
      unfold atKey
      rw [Option.map_eq_none_iff, List.find?_eq_none]
      intro x hx
      simp only [decide_eq_true_eq]
      intro e
      rw [List.map_append, List.nodup_append] at h
      exact h.2.2 x.1 (List.mem_map_of_mem hx) p.1 (by simp) e
    have e : storedAllH xs (p :: ps) = storedAllH (storedH xs p.1 p.2.1 p.2.2) ps := rfl
    rw [e, storedH_new hn, stored_nodup ps (xs ++ [(p.1, p.2.1, p.2.2)]) (by rw [List.append_assoc]; exact h), List.append_assoc]
    rfl
/-- a pair (its address), its key's address, the key and what it is paired with -/
abbrev Trip := Addr × Addr × (List L2.Key × V)
section
variable {X : Cx}
theorem call_dictT (hcalm : X.calm = true) (hu : X.A.units + 64 < cLine) : CallR X (.type "dict") (fun xs H Q => ∃ (a : Addr) (ts : List Trip), xs = [.ref a] ∧ SqL X.K H a (ts.map fun t => V.ref t.1) ∧ (∀ t ∈ ts, SqT X.K H t.1 [.ref t.2.1, t.2.2.2] ∧ H t.2.1 = some (.tup (t.2.2.1.map kV))) ∧ (ts.map fun t => t.2.2.1).Nodup ∧
    ∀ p, H p = none → Q (.ref p) (upd H p (.dT (ts.map fun t => t.2.2)))) := by
  intro pins s σ H xs us Q I r q
  obtain ⟨a, ts, ex, hq, hts, hnd, q⟩ := q
  subst ex
  obtain ⟨u, eu, rx⟩ := vals1 r
  subst eu
  cases rx
  obtain ⟨its, rv, pl, hz⟩ := I.list hq
  have ei : its = (ts.map (·.1)).map Value.ref := refs_at (ps := ts.map (·.1)) (by rw [List.map_map]; exact rv)
  subst ei
  rw [List.length_map] at hz
  obtain ⟨o, n, ho, hc, hd, hdat⟩ := pl
  -- the pairs
  have key : ∀ {ts : List Trip}, (∀ t ∈ ts, SqT X.K H t.1 [.ref t.2.1, t.2.2.2] ∧ H t.2.1 = some (.tup (t.2.2.1.map kV))) → ∃ us : List Value, Paired (fun (t : Trip) u => RelV t.2.2.2 u ∧ IsTup s.heap t.1 #[.ref t.2.1, u]) ts us := by
    intro ts
    induction ts with
    | nil => exact fun _ => ⟨[], .nil⟩
    | cons t ts ih =>
      intro h
      obtain ⟨us, hus⟩ := ih fun t' ht => h t' (List.mem_cons_of_mem _ ht)
      obtain ⟨its, rv, htp, _⟩ := I.tuple (h t List.mem_cons_self).1
      obtain ⟨u, y, ei, ru, ry⟩ := vals2 rv
      subst ei
      cases ru
      exact ⟨y :: us, .cons ⟨ry, htp⟩ hus⟩
  obtain ⟨us, hus⟩ := key hts
  have lus : ts.length = us.length := Paired.length hus
  have at_ : ∀ {j : Nat} {t : Trip} {u : Value}, ts[j]? = some t → us[j]? = some u → RelV t.2.2.2 u ∧ IsTup s.heap t.1 #[.ref t.2.1, u] := by
    have go : ∀ {ts : List Trip} {us : List Value}, Paired (fun (t : Trip) u => RelV t.2.2.2 u ∧ IsTup s.heap t.1 #[.ref t.2.1, u]) ts us → ∀ {j : Nat} {t : Trip} {u : Value}, ts[j]? = some t → us[j]? = some u → RelV t.2.2.2 u ∧ IsTup s.heap t.1 #[.ref t.2.1, u] := by
      intro ts us p
      induction p with
      | nil => intro j t u h; simp at h
      | cons h _ ih =>
        intro j t u h1 h2
        cases j with
        | zero => cases h1; cases h2; exact h
        | succ j => exact ih (by simpa using h1) (by simpa using h2)
    exact fun {_ _ _} h1 h2 => go hus h1 h2
  let ps : List (List L2.Key × Addr × Value) := List.zipWith (fun (t : Trip) u => (t.2.2.1, t.2.1, u)) ts us
  have lps : ps.length = ts.length := by
    show (List.zipWith _ ts us).length = _
    rw [List.length_zipWith]
    omega
  have getps : ∀ j : Nat, ps[j]? = match (ts[j]? : Option Trip), (us[j]? : Option Value) with | some t, some u => some (t.2.2.1, t.2.1, u) | _, _ => none := fun j => by
    show (List.zipWith _ ts us)[j]? = _
    rw [List.getElem?_zipWith]
    cases ts[j]? <;> cases us[j]? <;> rfl
  have isK : ∀ h', (∀ b o, b ≠ s.heap.objs.size → b ∉ ([] : List Addr) → s.heap.get? b = some o → h'.get? b = some o) → ∀ x ∈ ps, (tupleKind (mixKind X.prog X.w)).is h' x.1 x.2.1 := by
    intro h' hk x hx
    obtain ⟨j, hj⟩ := List.mem_iff_getElem?.mp hx
    rw [getps j] at hj
    cases h1 : ts[j]? with
    | none => rw [h1] at hj; cases hj
    | some t =>
      cases h2 : us[j]? with
      | none => rw [h1, h2] at hj; cases hj
      | some u =>
        rw [h1, h2] at hj
        cases hj
        obtain ⟨o', its, n, g1, g2, g3, g4⟩ := key_of I.hok (hts t (List.mem_of_getElem? h1)).2
        exact ⟨o', its, n, hk _ _ (Nat.ne_of_lt (Heap.lt_size g1)) (by simp) g1, g2, g3, g4⟩
  have nodup : (ps.map (·.1)).Nodup := by
    have : ps.map (·.1) = ts.map fun t => t.2.2.1 := by
      apply List.ext_getElem?
      intro j
      rw [List.getElem?_map, List.getElem?_map, getps j]
      cases h1 : ts[j]? with
      | none => rfl
      | some t =>
        have : ∃ u, us[j]? = some u := ⟨_, List.getElem?_eq_getElem (by rw [← lus]; exact (List.getElem?_eq_some_iff.mp h1).1)⟩
        obtain ⟨u, h2⟩ := this
        rw [h2]
        rfl
    rw [this]
    exact hnd
  have stored : storedAllH [] ps = ps := by simpa using stored_nodup ps [] (by simpa using nodup)
  refine call_dict_pairsH (knd := tupleKind (mixKind X.prog X.w)) (ps := ps) (PairArg.list a ((ts.map (·.1)).map Value.ref).toArray (fun j => ((ts[j]?).map (·.1)).getD 0) (ps.map fun x => (Value.ref x.2.1, x.2.2))) (I.ok.hd hcalm) (by show X.A.units + 1 + 1 < cLine; omega) ⟨⟨o, n, ho, hc, hd, hdat⟩, ?_, ?_⟩ ⟨by rw [List.length_map], ?_⟩ isK (by rw [List.length_map, lps]; exact hz) fun h' tk hd' k => ?_
  · rw [List.length_map, lps]; simp
  · intro j k v hj
    rw [List.getElem?_map, getps j] at hj
    cases h1 : ts[j]? with
    | none => rw [h1] at hj; cases hj
    | some t =>
      cases h2 : us[j]? with
      | none => rw [h1, h2] at hj; cases hj
      | some u =>
        rw [h1, h2] at hj
        cases hj
        refine ⟨by simp [h1], ?_⟩
        obtain ⟨_, o', g1, g2, n', g3⟩ := at_ h1 h2
        exact .inl ⟨o', by simpa [h1] using g1, g2, n', g3⟩
  · intro i key v hr
    have hr : (ps.map fun x => (Value.ref x.2.1, x.2.2))[i]? = some (key, v) := hr
    rw [List.getElem?_map] at hr
    cases h1 : ps[i]? with
    | none => rw [h1] at hr; cases hr
    | some x =>
      rw [h1] at hr
      cases hr
      exact ⟨x.1, x.2.1, rfl, rfl⟩
  · have hm : (s.heap.objs.size == sysModules) = false := beq_eq_false_iff_ne.mpr (Nat.ne_of_gt I.big)
    rw [stored] at hd'
    obtain ⟨od, es, ep, d1, d2, d3, d4, _, d5⟩ := hd'
    have hfree := I.hok.fresh (Nat.le_refl s.heap.objs.size)
    refine ⟨.ref s.heap.objs.size, upd H s.heap.objs.size (.dT (ts.map fun t => t.2.2)), I.laid (t' := tk) (fun b u e => k b u (by simp) e) (Nat.le_refl _) (show ObjOk X.prog X.w _ _ _ (.dT (ts.map fun t => t.2.2)) from ⟨by rw [List.length_map]; exact hz, hm, ps, ?_, od, es, ep, d1, d2, d3, d4, d5⟩), rfl, q _ hfree⟩
    have go : ∀ {l : List Trip} {us : List Value}, Paired (fun (t : Trip) u => RelV t.2.2.2 u ∧ IsTup s.heap t.1 #[.ref t.2.1, u]) l us → (∀ t ∈ l, H t.2.1 = some (.tup (t.2.2.1.map kV))) → Paired (fun (p : List L2.Key × V) (q : List L2.Key × Addr × Value) => p.1 = q.1 ∧ (upd H s.heap.objs.size (.dT (ts.map fun t => t.2.2))) q.2.1 = some (.tup (p.1.map kV)) ∧ RelV p.2 q.2.2) (l.map fun t => t.2.2) (List.zipWith (fun (t : Trip) u => (t.2.2.1, t.2.1, u)) l us) := by
      intro l us p
      induction p with
      | nil => exact fun _ => .nil
      | @cons t u l us h _ ih =>
        intro hh
        have ht := hh t List.mem_cons_self
        exact .cons ⟨rfl, (upd_ne (ne_of_none ht hfree)).trans ht, h.1⟩ (ih fun t' h' => hh t' (List.mem_cons_of_mem _ h'))
    exact go hus fun t ht => (hts t ht).2
end
end L2.Dx

set_option Elab.async false
set_option linter.all false
set_option maxRecDepth 100000
set_option maxHeartbeats 4000000
/-! d == e and d != e of dicts with tuple keys -/
namespace L2.Dx
open PySem PySem.Spec PyProof.Rows L2
section
variable {P : Program} {w : World} {K : Type} [DecidableEq K] {knd : HeapKind P w K} {A : Around} {s : Shared} {E : Value → Shared → Prop}
/-- the entries of the first one, by what the second one has for their keys -/
def HitsT (P : Program) (w : World) (A : Around) (s : Shared) (xs ys : List (K × Addr × Value)) (e : Nat → Bool) : Prop :=
  ∀ (i : Nat) (k : K) (p : Addr) (v : Value), xs[i]? = some (k, p, v) → (∃ (j : Nat) (q : Addr) (y : Value), ys[j]? = some (k, q, y) ∧ SeqAt.EqP P w A s v y (e i)) ∨ ((∀ (j : Nat) (q : Addr × Value), ys[j]? ≠ some (k, q)) ∧ e i = false)
theorem samePairsT {nm : String} {a b : Addr} {oa ob : Obj} {ea eb : Array DictEntry} {epa epb : Nat} {xs ys : List (K × Addr × Value)} {e : Nat → Bool} {Q : Bool → Shared → Prop}
    (hra : knd.room A) (za : (a == sysModules) = false) (zb : (b == sysModules) = false)
    (ha : s.heap.get? a = some oa) (da : oa.data = .dict ea epa) (la : ea.toList = xs.map (entryOfKey knd)) (ka : ∀ x ∈ xs, knd.is s.heap x.1 x.2.1)
    (hb : s.heap.get? b = some ob) (db : ob.data = .dict eb epb) (lb : eb.toList = ys.map (entryOfKey knd)) (kb : ∀ x ∈ ys, knd.is s.heap x.1 x.2.1) (nb : (ys.map (·.1)).Nodup)
    (h : xs.length = ys.length → HitsT P w A s xs ys e) (q : Q (decide (xs.length = ys.length) && (List.range xs.length).all e) s) : wpAny (model P w) A (Builtin.Dict.samePairs nm a b) Q E s := by
  have na : ea.size = xs.length := by rw [← Array.length_toList, la, List.length_map]
  have nb' : eb.size = ys.length := by rw [← Array.length_toList, lb, List.length_map]
  unfold Builtin.Dict.samePairs Builtin.Dict.showsAll
  rw [za, zb]
  refine wpAny_bind (wpAny_pure (wpAny_bind (wpAny_pure (wpAny_bind (wpAny_dictEntries ha da (wpAny_bind (wpAny_dictEntries hb db ?_)))))))
  rw [na, nb']
  by_cases hn : xs.length = ys.length
  · rw [decide_eq_true hn, Bool.true_and] at q
    have hits := h hn
    rw [if_neg (by simp [hn])]
    refine wpAny_bind (wpAny_dictEpoch ha da (wpAny_bind ?_))
    rw [Std.Legacy.Range.forIn_eq_forIn_range']
    refine wpAny_forIn_list _ (fun rest b' s' => s' = s ∧ b' = (none, ()) ∧ ∃ i, i ≤ xs.length ∧ rest = List.range' i (xs.length - i) 1 ∧ (List.range i).all e = true) _ ?_ ?_ _ _ ⟨rfl, rfl, 0, Nat.zero_le _, ?_, rfl⟩
    · rintro x rest b' s' ⟨rfl, rfl, i, hi, hr, hall⟩
      have hlt : i < xs.length := by
        rcases Nat.lt_or_ge i xs.length with c | c
        · exact c
        · rw [show xs.length - i = 0 by omega] at hr; cases hr
      rw [show xs.length - i = (xs.length - (i + 1)) + 1 by omega, List.range'_succ] at hr
      obtain ⟨rfl, rfl⟩ := List.cons.inj hr
      obtain ⟨⟨k, p, v⟩, hx⟩ : ∃ z, xs[x]? = some z := ⟨_, List.getElem?_eq_getElem hlt⟩
      have hex : ea[x]? = some (entryOfKey knd (k, p, v)) := by
        rw [← Array.getElem?_toList, la, List.getElem?_map, hx]
        rfl
      have stepF : e x = false → (List.range xs.length).all e = false := fun z => by
        rw [List.all_eq_false]
        exact ⟨x, List.mem_range.mpr hlt, by simp [z]⟩
      refine wpAny_bind (wpAny_dictEntries ha da ?_)
      rw [hex]
      refine wpAny_bind (wpAny_holding (wpAny_bind (wpAny_dictFind_heap (k := k) hra (ka _ (List.mem_of_getElem? hx)) hb db lb kb nb (fun hno => ?_) (fun j z hj => ?_))))
      · refine wpAny_pure ?_
        have ez : e x = false := by
          rcases hits x k p v hx with ⟨j, q', y, hy, _⟩ | ⟨_, h2⟩
          · exact absurd hy (hno j (q', y))
          · exact h2
        rw [stepF ez] at q
        exact wpAny_pure (wpAny_pure q)
      · obtain ⟨q', y, hj', heq⟩ : ∃ q' y, ys[j]? = some (k, q', y) ∧ SeqAt.EqP P w A s' v y (e x) := by
          rcases hits x k p v hx with ⟨j2, q', y, hy, h2⟩ | ⟨h1, _⟩
          · have : j2 = j := by
              have e1 : (ys.map (·.1))[j2]? = some k := by rw [List.getElem?_map, hy]; rfl
              have e2 : (ys.map (·.1))[j]? = some k := by rw [List.getElem?_map, hj]; rfl
              exact (List.getElem?_inj (List.getElem?_eq_some_iff.mp e1).1 nb).mp (e1.trans e2.symm)
            subst this
            exact ⟨q', y, hy, h2⟩
          · exact absurd hj (h1 j z)
        have hey : eb[j]? = some (entryOfKey knd (k, q', y)) := by
          rw [← Array.getElem?_toList, lb, List.getElem?_map, hj']
          rfl
        refine wpAny_bind (wpAny_dictEntries hb db ?_)
        rw [hey]
        refine wpAny_holding (heq _ _ ?_)
        cases ez : e x with
        | false =>
          rw [stepF ez] at q
          exact wpAny_pure (wpAny_pure q)
        | true =>
          refine wpAny_bind (wpAny_dictEpoch ha da ?_)
          rw [if_neg (by simp)]
          refine wpAny_pure ⟨rfl, rfl, x + 1, hlt, rfl, ?_⟩
          rw [List.range_succ, List.all_append, hall]
          simp [ez]
    · rintro b' s' ⟨rfl, rfl, i, hi, hr, hall⟩
      have : i = xs.length := by
        have := congrArg List.length hr
        rw [List.length_range'] at this
        simp at this
        omega
      subst this
      rw [hall] at q
      exact wpAny_pure q
    · simp
  · rw [decide_eq_false hn, Bool.false_and] at q
    rw [if_pos (by simp [hn])]
    exact wpAny_bind (wpAny_rule (wpAny_pure q))
end
end L2.Dx

set_option Elab.async false
set_option linter.all false
set_option maxRecDepth 100000
set_option maxHeartbeats 4000000
/-! d == e of dicts as data, with tuple keys -/
namespace L2.Dx
open PySem PySem.Spec PyProof.Rows L2
section
variable {P : Program} {w : World} {K : Type} [DecidableEq K] {knd : HeapKind P w K} {A : Around} {s : Shared} {E : Value → Shared → Prop}
theorem meets_eqT {a b : Addr} {xs ys : List (K × Addr × Value)} {e : Nat → Bool} {B : Builtin} {neg : Bool} (hB : (neg = false ∧ B = Builtin.«dict.__eq__») ∨ (neg = true ∧ B = Builtin.«dict.__ne__»)) :
    MeetsIn P w (B { pos := [.ref a, .ref b] }) fun A R s => knd.room A.in1 ∧ (a == sysModules) = false ∧ (b == sysModules) = false ∧ Heap.DictOfH knd s.heap a xs ∧ Heap.DictOfH knd s.heap b ys ∧
      (xs.length = ys.length → HitsT P w A.in1 s xs ys e) ∧ R (.ok (.ret (.bool (neg != (decide (xs.length = ys.length) && (List.range xs.length).all e))))) s := by
  intro A R s ⟨hra, za, zb, ⟨oa, ea, epa, ha, xa, da, la, ka, na⟩, ⟨ob, eb, epb, hb, xb, db, lb, kb, nb⟩, h, q⟩
  have ta : s.TypeIs (.ref a) "dict" := ⟨oa, ha, xa.1⟩
  have tb : s.TypeIs (.ref b) "dict" := ⟨ob, hb, xb.1⟩
  rcases hB with ⟨rfl, rfl⟩ | ⟨rfl, rfl⟩
  · refine wpAny_bind (wpAny_bind (wpAny_notOrdered_dict ta (wpAny_bind (wpAny_pure (wpAny_pure ?_)))))
    refine wpAny_bind (wpAny_isInstance tb isSubtype_dict_dict ?_)
    refine wpAny_bind (wpAny_pure (wpAny_bind (wpAny_pure (wpAny_bind (samePairsT hra za zb ha da la ka hb db lb kb nb h ?_)))))
    refine wpAny_pure ?_
    simpa using q
  · refine wpAny_bind (wpAny_bind (wpAny_notOrdered_dict ta (wpAny_bind (wpAny_pure (wpAny_pure ?_)))))
    refine wpAny_bind (wpAny_isInstance tb isSubtype_dict_dict ?_)
    refine wpAny_bind (wpAny_pure (wpAny_bind (wpAny_pure (wpAny_bind (samePairsT hra za zb ha da la ka hb db lb kb nb h ?_)))))
    refine wpAny_pure ?_
    simpa using q
theorem rcT {a b : Addr} {xs ys : List (K × Addr × Value)} {e : Nat → Bool} {neg : Bool} {Q : Value → Shared → Prop} (hu : A.units < cLine) (hra : knd.room A.in1) (za : (a == sysModules) = false) (zb : (b == sysModules) = false) (ha : Heap.DictOfH knd s.heap a xs) (hb : Heap.DictOfH knd s.heap b ys)
    (h : xs.length = ys.length → HitsT P w A.in1 s xs ys e) (q : Q (.bool (neg != (decide (xs.length = ys.length) && (List.range xs.length).all e))) s) : wpAny (model P w) A (compareOp (if neg = true then .NotEq else .Eq) (.ref a) (.ref b)) Q E s := by
  have ha' := ha
  have hb' := hb
  obtain ⟨oa, ea, epa, ga, xa, da, la, ka, na⟩ := ha
  obtain ⟨ob, eb, epb, gb, xb, db, lb, kb, nb⟩ := hb
  have ta : s.TypeIs (.ref a) "dict" := ⟨oa, ga, xa.1⟩
  have tb : s.TypeIs (.ref b) "dict" := ⟨ob, gb, xb.1⟩
  cases neg with
  | false =>
    show wpAny (model P w) A (richCompare .Eq (.ref a) (.ref b)) Q E s
    exact wpAny_richCompare_same_room ta tb F.slot_dict_eq (call_meetsIn F.slot_dict_eq ta F.entry_dict_eq (F.args_dict_eq_2 _ _) (meets_eqT (.inl ⟨rfl, rfl⟩)) ⟨hra, za, zb, ha', hb', h, ⟨(fun z => nomatch z), q⟩⟩) hu
  | true =>
    show wpAny (model P w) A (richCompare .NotEq (.ref a) (.ref b)) Q E s
    exact wpAny_richCompare_same_room ta tb F.slot_dict_ne (call_meetsIn F.slot_dict_ne ta F.entry_dict_ne (F.args_dict_ne_2 _ _) (meets_eqT (.inr ⟨rfl, rfl⟩)) ⟨hra, za, zb, ha', hb', h, ⟨(fun z => nomatch z), q⟩⟩) hu
end
end L2.Dx
namespace L2.Vs
open PySem PySem.Spec PyProof.Rows L2 L2.Dx
/-- d == e, d != e of dicts whose keys are tuples -/
def tkB (d : PyData) : Bool := match keyX d with
  | some (.inr _) => true
  | _ => false
theorem tkB_of {d : PyData} (h : tkB d = true) : ∃ ks : List Key, d = .tuple (ks.map kD) := by
  unfold tkB at h
  split at h
  · rename_i ks e
    cases d with
    | tuple xs =>
      refine ⟨ks, ?_⟩
      have e : (keysD xs).map Sum.inr = some (Sum.inr ks : KX) := e
      obtain ⟨ks', e1, e2⟩ := Option.map_eq_some_iff.mp e
      cases e2
      congr 1
      have : ∀ {xs : List PyData} {ks : List Key}, keysD xs = some ks → xs = ks.map kD := by
        intro xs
        induction xs with
        | nil => intro ks h; cases h; rfl
        | cons x xs ih =>
          intro ks h
          unfold keysD at h
          split at h
          · rename_i k ks' e1 e2
            cases h
            rw [List.map_cons, ← ih e2]
            congr 1
            cases x <;> cases e1 <;> rfl
          · cases h
      exact this e1
    | none => cases e
    | bool b => cases e
    | int i => cases e
    | str x => cases e
    | list x => cases e
    | dict x => cases e
  · cases h
def okV (p : PyData × PyData) : Bool := tkB p.1 && p.2.plain && decide (p.2.depth ≤ 60)
def hitB (kws : List (PyData × PyData)) (p : PyData × PyData) : Bool := match kws.find? fun q => decide (keyX q.1 = keyX p.1) with
  | some q => PyData.eqv p.2 q.2
  | none => false
def deqD (neg : Bool) (a b : PyData) : Option PyData := match a, b with
  | .dict kvs, .dict kws => if (kvs.all okV && kws.all okV) = true then some (.bool (neg != (decide (kvs.length = kws.length) && kvs.all (hitB kws)))) else none
  | _, _ => none
def rDeqX (K : PySem.W.Frag) (neg : Bool) : R2 := fun x y H Q => ∃ kvs kws, At K H x (.dict kvs) ∧ At K H y (.dict kws) ∧ (kvs.all okV && kws.all okV) = true ∧ Q (.bl (neg != (decide (kvs.length = kws.length) && kvs.all (hitB kws)))) H
theorem o2_deq {K : PySem.W.Frag} {neg : Bool} : O2 K (rDeqX K neg) (deqD neg) := by
  intro H x y a b c ha hb e Q q
  unfold deqD at e
  split at e
  · split at e
    · rename_i h
      cases e
      exact ⟨_, _, ha, hb, h, q _ fun _ => .bl _⟩
    · cases e
  · cases e
section
variable {X : Cx} {pins : List (Addr × Obj)} {σ : St} {H : Hp} {s : Shared}
theorem raw_dt (I : Inv X pins σ H s) {v : V} {u : Value} {kvs : List (PyData × PyData)} (h : At X.K H v (.dict kvs)) (r : RelV v u) (hk : ∀ p ∈ kvs, tkB p.1 = true) :
    ∃ a xs, u = .ref a ∧ (a == sysModules) = false ∧ Heap.DictOfH (tupleKind (mixKind X.prog X.w)) s.heap a xs ∧ xs.length = kvs.length ∧ ∀ (i : Nat) (k : List Key) (p : Addr) (val : Value), xs[i]? = some (k, p, val) → ∃ d as, kvs[i]? = some (.tuple (k.map kD), d) ∧ Reads s.heap val d as := by
  cases h with
  | dk hs hl ha =>
    rename_i a ks vs ds
    cases r
    cases ks with
    | cons k ks =>
      exfalso
      have L := ha.length
      cases vs with
      | nil => cases hl
      | cons v vs =>
        cases ds with
        | nil => cases L
        | cons d ds =>
          have := hk (kD k, d) (by simp)
          unfold tkB at this
          rw [keyX_kD] at this
          cases this
    | nil =>
      rcases hs with hs | ⟨z, _⟩
      · have I2 := inv_swap (o' := .dT []) I hs rfl fun _ z => kt_empty z
        obtain ⟨_, y, xs, kt, hd⟩ := dt_rd I2.hok (.inl upd_same : Rd _ _ _)
        cases kt
        exact ⟨_, [], rfl, y, hd, rfl, fun i k p val z => by simp at z⟩
      · exact absurd rfl z
  | dt hs hl ha =>
    rename_i a ks vs ds
    cases r
    obtain ⟨_, y, xs, kt, hd⟩ := dt_rd I.hok hs.rd
    have L := ha.length
    have kl : xs.length = (ks.zip vs).length := by
      have : ∀ {l : List (List Key × V)} {m : List (List Key × Addr × Value)}, KT H l m → l.length = m.length := by
        intro l m q
        induction q with
        | nil => rfl
        | cons _ _ ih => simp [ih]
      exact (this kt).symm
    refine ⟨a, xs, rfl, y, hd, ?_, fun i k p val hx => ?_⟩
    · rw [kl, List.length_zip, List.length_zip, List.length_map]
      omega
    · have : ∀ {l : List (List Key × V)} {m : List (List Key × Addr × Value)} {i : Nat}, KT H l m → m[i]? = some (k, p, val) → ∃ v, l[i]? = some (k, v) ∧ RelV v val := by
        intro l m i q
        induction q generalizing i with
        | nil => intro z; simp at z
        | @cons p' q' ps qs hq t ih =>
          intro z
          cases i with
          | zero =>
            simp at z
            subst z
            obtain ⟨e1, e2, e3⟩ := hq
            obtain ⟨k', v'⟩ := p'
            simp at e1
            subst e1
            exact ⟨v', rfl, e3⟩
          | succ i =>
            obtain ⟨v, h1, h2⟩ := ih (i := i) (by simpa using z)
            exact ⟨v, by simpa using h1, h2⟩
      obtain ⟨v, h1, h2⟩ := this kt hx
      rw [List.getElem?_zip_eq_some] at h1
      obtain ⟨d, g1, g2⟩ := ha.getV h1.2
      obtain ⟨as, g3⟩ := g2.reads I h2
      refine ⟨d, as, ?_, g3⟩
      rw [List.getElem?_zip_eq_some, List.getElem?_map, h1.1]
      exact ⟨rfl, g1⟩
end
theorem op_deqX {X : Cx} (neg : Bool) (hu : X.A.units + 64 < cLine) : OpR X (compareOp (if neg = true then .NotEq else .Eq)) (rDeqX X.K neg) := by
  intro pins s σ H x y v u Q I rx ry h
  obtain ⟨kvs, kws, hx, hy, hok, q⟩ := h
  rw [Bool.and_eq_true, List.all_eq_true, List.all_eq_true] at hok
  have ok1 : ∀ p ∈ kvs, tkB p.1 = true ∧ p.2.plain = true ∧ p.2.depth ≤ 60 := fun p hp => by
    have := hok.1 p hp
    unfold okV at this
    simp only [Bool.and_eq_true, decide_eq_true_eq] at this
    exact ⟨this.1.1, this.1.2, this.2⟩
  have ok2 : ∀ p ∈ kws, tkB p.1 = true ∧ p.2.plain = true ∧ p.2.depth ≤ 60 := fun p hp => by
    have := hok.2 p hp
    unfold okV at this
    simp only [Bool.and_eq_true, decide_eq_true_eq] at this
    exact ⟨this.1.1, this.1.2, this.2⟩
  obtain ⟨a, xs, rfl, za, da, la, fa⟩ := raw_dt I hx rx fun p hp => (ok1 p hp).1
  obtain ⟨b, ys, rfl, zb, db, lb, fb⟩ := raw_dt I hy ry fun p hp => (ok2 p hp).1
  have key : ∀ {l : List (PyData × PyData)} {zs : List (List Key × Addr × Value)}, zs.length = l.length → (∀ (i : Nat) (k : List Key) (p : Addr) (val : Value), zs[i]? = some (k, p, val) → ∃ d as, l[i]? = some (.tuple (k.map kD), d) ∧ Reads s.heap val d as) →
      ∀ k : List Key, match l.find? fun q => decide (keyX q.1 = some (.inr k)) with
        | some q => ∃ (j : Nat) (p : Addr) (val : Value) (as : List Addr), zs[j]? = some (k, p, val) ∧ Reads s.heap val q.2 as ∧ q ∈ l
        | none => ∀ (j : Nat) (q : Addr × Value), zs[j]? ≠ some (k, q) := by
    intro l zs ln fz k
    cases e : l.find? fun q => decide (keyX q.1 = some (.inr k)) with
    | some q =>
      have h1 := List.find?_some e
      have h2 := List.mem_of_find?_eq_some e
      obtain ⟨j, hj⟩ := List.mem_iff_getElem?.mp h2
      have jl : j < zs.length := by rw [ln]; exact (List.getElem?_eq_some_iff.mp hj).1
      obtain ⟨⟨k', p, val⟩, hz⟩ : ∃ z, zs[j]? = some z := ⟨_, List.getElem?_eq_getElem jl⟩
      obtain ⟨d, as, g1, g2⟩ := fz j k' p val hz
      rw [hj] at g1
      cases g1
      simp only [decide_eq_true_eq] at h1
      rw [keyX_tup] at h1
      have : k' = k := Sum.inr.inj (Option.some.inj h1)
      subst this
      exact ⟨j, p, val, as, hz, g2, h2⟩
    | none =>
      intro j q hz
      obtain ⟨d, as, g1, g2⟩ := fz j k q.1 q.2 hz
      have := List.find?_eq_none.mp e _ (List.mem_of_getElem? g1)
      rw [keyX_tup] at this
      simp at this
  let e : Nat → Bool := fun i => match kvs[i]? with | some p => hitB kws p | none => false
  have hits : HitsT X.prog X.w X.A.in1 s xs ys e := by
    intro i k p val hi
    obtain ⟨d, as, g1, g2⟩ := fa i k p val hi
    have ei : e i = hitB kws (.tuple (k.map kD), d) := by
      show (match kvs[i]? with | some p => hitB kws p | none => false) = _
      rw [g1]
    have := key lb fb k
    rw [ei]
    unfold hitB
    rw [keyX_tup]
    cases c : kws.find? fun q => decide (keyX q.1 = some (.inr k)) with
    | some q' =>
      rw [c] at this
      obtain ⟨j, p', val', as', h1, h2, h3⟩ := this
      refine .inl ⟨j, p', val', h1, ?_⟩
      have m1 := ok1 _ (List.mem_of_getElem? g1)
      have m2 := ok2 _ h3
      exact SeqAt.eqAt_plain _ _ _ _ _ _ _ _ g2 h2 m1.2.1 m2.2.1 (by
        have : min d.depth q'.2.depth ≤ 60 := Nat.le_trans (Nat.min_le_left _ _) m1.2.2
        have h5 : X.A.in1.units ≤ X.A.units + 1 := Nat.le_refl _
        omega) _ _
    | none =>
      rw [c] at this
      exact .inr ⟨this, rfl⟩
  have hall : (List.range xs.length).all e = kvs.all (hitB kws) := by
    rw [la, Bool.eq_iff_iff, List.all_eq_true, List.all_eq_true]
    constructor
    · intro z p hp
      obtain ⟨i, hi⟩ := List.mem_iff_getElem?.mp hp
      have := z i (List.mem_range.mpr (List.getElem?_eq_some_iff.mp hi).1)
      simp only [e, hi] at this
      exact this
    · intro z i hi
      obtain ⟨p, hp⟩ : ∃ p, kvs[i]? = some p := ⟨_, List.getElem?_eq_getElem (List.mem_range.mp hi)⟩
      simp only [e, hp]
      exact z p (List.mem_of_getElem? hp)
  refine rcT (e := e) (knd := tupleKind (mixKind X.prog X.w)) (by omega) (show X.A.in1.units < cLine by
    have h5 : X.A.in1.units ≤ X.A.units + 1 := Nat.le_refl _
    omega) za zb da db (fun _ => hits) ⟨.bl _, H, I, rfl, ?_⟩
  rw [hall, la, lb]
  exact q
end L2.Vs

set_option Elab.async false
set_option linter.all false
set_option maxRecDepth 100000
set_option maxHeartbeats 4000000
/-! dicts of a def's own: {}, d[k] = v -/
namespace L2.Vs
open PySem PySem.Spec PyProof.Rows L2 L2.Dx
def gNewT (i : Nat) (t : Bool) : GS := fun env => some (.nx (env.set i (.dct t [])))
/-- the pairs with one more, or one changed -/
def putD (kvs : List (PyData × PyData)) (k v : PyData) : List (PyData × PyData) := if (kvs.any fun p => decide (keyX p.1 = keyX k)) = true then kvs.map fun p => if keyX p.1 = keyX k then (p.1, v) else p else kvs ++ [(k, v)]
def gDput (i : Nat) (gk gv : G) : GS := fun env => match gv env with
  | some (v, true) => (match gk env with
    | some (k, _) => (match env[i]? with
      | some (.dct t kvs) => if kvs.length ≤ 100000 ∧ tkB k = t ∧ (keyX k).isSome = true then some (.nx (env.set i (.dct t (putD kvs k v)))) else none
      | _ => none)
    | none => none)
  | _ => none
section
variable {X : Cx} {st : Stmt} {ek ev : Expr} {gk gv : G}
theorem vs_newT {i : Nat} (hp : PS X st (tAsg tDNewT (gName i))) : VS X st (gNewT i true) := by
  refine ⟨_, hp, fun {H0 A H σ env O} R {o} e {D} q => ?_⟩
  cases e
  intro p hp0
  have sn := same_new (o := .dT []) hp0
  exact q _ _ _ (R.newT sn hp0 upd_same ⟨[], [], [], rfl, rfl, .nil, rfl⟩)
theorem vs_newK {i : Nat} (hp : PS X st (tAsg tDNewK (gName i))) : VS X st (gNewT i false) := by
  refine ⟨_, hp, fun {H0 A H σ env O} R {o} e {D} q => ?_⟩
  cases e
  intro p hp0
  have sn := same_new (o := .dK []) hp0
  exact q _ _ _ (R.newT sn hp0 upd_same ⟨[], [], [], rfl, rfl, .nil, rfl⟩)
theorem zip_any {κ : Type} {enc : κ → PyData} {p : PyData → Bool} {q : κ → Bool} (h : ∀ k, p (enc k) = q k) : ∀ {ks : List κ} {vs : List V} {ds : List PyData}, ks.length = vs.length → vs.length = ds.length → (((ks.map enc).zip ds).any fun x => p x.1) = ((ks.zip vs).any fun x => q x.1)
  | [], _, _, _, _ => by simp
  | k :: ks, v :: vs, d :: ds, h1, h2 => by
    rw [List.map_cons, List.zip_cons_cons, List.zip_cons_cons, List.any_cons, List.any_cons, h k, zip_any h (by simpa using h1) (by simpa using h2)]
theorem putD_at {κ : Type} [DecidableEq κ] {K : PySem.W.Frag} {H : Hp} {enc : κ → PyData} (hi : ∀ a b, (keyX (enc a) = keyX (enc b)) ↔ a = b) {k : κ} {v : V} {d : PyData} (hv : At K H v d) {ks : List κ} {vs : List V} {ds : List PyData} (hl : ks.length = vs.length) (ha : AtAll K H vs ds) :
    ∃ (ks' : List κ) (vs' : List V) (ds' : List PyData), putK (ks.zip vs) k v = ks'.zip vs' ∧ ks'.length = vs'.length ∧ AtAll K H vs' ds' ∧ putD ((ks.map enc).zip ds) (enc k) d = (ks'.map enc).zip ds' := by
  have L := ha.length
  unfold putK putD
  rw [zip_any (p := fun x => decide (keyX x = keyX (enc k))) (q := fun a => decide (a = k)) (fun a => decide_eq_decide.mpr (hi a k)) hl L]
  split
  · have : ∀ {ks : List κ} {vs : List V} {ds : List PyData}, ks.length = vs.length → AtAll K H vs ds → ∃ vs' ds', (ks.zip vs).map (fun kv => if kv.1 = k then (kv.1, v) else kv) = ks.zip vs' ∧ ks.length = vs'.length ∧ AtAll K H vs' ds' ∧ ((ks.map enc).zip ds).map (fun p => if keyX p.1 = keyX (enc k) then (p.1, d) else p) = (ks.map enc).zip ds' := by
      intro ks
      induction ks with
      | nil => intro vs ds h1 h2; cases h2 with
        | nil => exact ⟨[], [], by simp, rfl, .nil, by simp⟩
        | cons _ _ => cases h1
      | cons a ks ih =>
        intro vs ds h1 h2
        cases h2 with
        | nil => cases h1
        | cons g1 g2 =>
          rename_i v0 vs0 d0 ds0
          obtain ⟨vs', ds', z1, z2, z3, z4⟩ := ih (by simpa using h1) g2
          by_cases c : a = k
          · refine ⟨v :: vs', d :: ds', ?_, by simp [z2], .cons hv z3, ?_⟩
            · simp [c, z1]
            · simp [c, z4]
          · have c2 : ¬ keyX (enc a) = keyX (enc k) := fun z => c ((hi a k).mp z)
            refine ⟨v0 :: vs', d0 :: ds', ?_, by simp [z2], .cons g1 z3, ?_⟩
            · simp [c, z1]
            · simp [c2, z4]
    obtain ⟨vs', ds', z1, z2, z3, z4⟩ := this hl ha
    exact ⟨ks, vs', ds', z1, z2, z3, z4⟩
  · refine ⟨ks ++ [k], vs ++ [v], ds ++ [d], ?_, by simp [hl], ha.append (.one hv), ?_⟩
    · rw [List.zip_append hl]
      rfl
    · rw [List.map_append, List.zip_append (by rw [List.length_map, hl, L])]
      rfl
theorem keyX_kD_inj (a b : Key) : (keyX (kD a) = keyX (kD b)) ↔ a = b := by
  rw [keyX_kD, keyX_kD]
  exact ⟨fun z => Sum.inl.inj (Option.some.inj z), fun z => by rw [z]⟩
theorem keyX_tup_inj (a b : List Key) : (keyX (.tuple (a.map kD)) = keyX (.tuple (b.map kD))) ↔ a = b := by
  rw [keyX_tup, keyX_tup]
  exact ⟨fun z => Sum.inr.inj (Option.some.inj z), fun z => by rw [z]⟩
theorem key_kD {k : PyData} (h : tkB k = false) (h2 : (keyX k).isSome = true) : ∃ a : Key, k = kD a := by
  cases k with
  | int i => exact ⟨.inl i, rfl⟩
  | str x => exact ⟨.inr x, rfl⟩
  | tuple xs =>
    exfalso
    unfold tkB at h
    obtain ⟨y, hy⟩ := Option.isSome_iff_exists.mp h2
    rw [hy] at h
    have : (keysD xs).map Sum.inr = some y := hy
    obtain ⟨ks, _, rfl⟩ := Option.map_eq_some_iff.mp this
    cases h
  | none => cases h2
  | bool b => cases h2
  | list x => cases h2
  | dict x => cases h2
theorem vs_dput {i : Nat} (hk : VE X ek gk) (hv : VE X ev gv) (hp : ∀ {t u}, PE X ek t → PE X ev u → PS X st (sDPut (tVar i) t u)) : VS X st (gDput i gk gv) := by
  obtain ⟨t, k1, k2⟩ := hk.ex
  obtain ⟨u, l1, l2⟩ := hv.ex
  refine ⟨_, hp k1 l1, fun {H0 A H σ env O} R {o} e {D} q => ?_⟩
  unfold gDput at e
  split at e
  · rename_i dv sv
    split at e
    · rename_i dk bk sk
      split at e
      · rename_i tt kvs s
        split at e
        · rename_i hc
          obtain ⟨hl, ht, hsome⟩ := hc
          cases e
          refine l2 R sv fun v H1 s1 hv1 => ?_
          obtain ⟨a, oo, g1, g2, g3, g4⟩ := (R.same s1).dct s
          refine ⟨.ref a, g1, k2 (R.same s1) sk fun y H2 s2 hy => ?_⟩
          have R2 := (R.same s1).same s2
          have g4 := g4.same (hm_same s2)
          have hv2 : At X.K (Hm H2 (orX O A)) v dv := hv1.same (hm_same s2)
          have hy := hy.same (hb_sub (b := bk) (H := H2) (O := O) (A := A))
          have g3 := s2 _ _ g3
          cases tt with
          | true =>
            obtain ⟨ks, vs, ds, rfl, z2, z3, rfl⟩ := g4
            obtain ⟨kk, rfl⟩ := tkB_of ht
            obtain ⟨ks', vs', ds', w1, w2, w3, w4⟩ := putD_at keyX_tup_inj (k := kk) hv2 z2 z3
            have hyt : ∃ b, y = .ref b ∧ H2 b = some (.tup (kk.map kV)) := by
              cases hy with
              | tup h1 h2 =>
                have : ∀ {ks : List Key} {vs : List V}, AtAll X.K H2 vs (ks.map kD) → vs = ks.map kV := by
                  intro ks
                  induction ks with
                  | nil => intro vs z; cases z; rfl
                  | cons k ks ih =>
                    intro vs z
                    cases z with
                    | cons z1 z2 =>
                      rw [ih z2]
                      cases k with
                      | inl i => cases z1; rfl
                      | inr x => cases z1; rfl
                rw [this h2] at h1
                exact ⟨_, rfl, h1⟩
            obtain ⟨b, rfl, hb⟩ := hyt
            have len : (ks.zip vs).length < sizeLine := by
              have L := z3.length
              rw [List.length_zip, List.length_map] at hl
              rw [List.length_zip]
              exact Nat.lt_of_le_of_lt (show min ks.length vs.length ≤ 100000 by omega) (by decide)
            refine ⟨a, _, rfl, .inr ⟨_, kk, b, g3, rfl, hb, len, rfl⟩, ?_⟩
            refine q _ _ _ (R2.writeT s g1 ?_)
            rw [w1]
            exact ⟨ks', vs', ds', rfl, w2, w3, w4⟩
          | false =>
            obtain ⟨ks, vs, ds, rfl, z2, z3, rfl⟩ := g4
            obtain ⟨kk, rfl⟩ := key_kD ht hsome
            obtain ⟨ks', vs', ds', w1, w2, w3, w4⟩ := putD_at keyX_kD_inj (k := kk) hv2 z2 z3
            have hyt : y = kV kk := by
              cases kk with
              | inl i => cases hy; rfl
              | inr x => cases hy; rfl
            subst hyt
            have len : (ks.zip vs).length < sizeLine := by
              have L := z3.length
              rw [List.length_zip, List.length_map] at hl
              rw [List.length_zip]
              exact Nat.lt_of_le_of_lt (show min ks.length vs.length ≤ 100000 by omega) (by decide)
            refine ⟨a, _, rfl, .inl ⟨_, kk, g3, rfl, len, rfl⟩, ?_⟩
            refine q _ _ _ (R2.writeT s g1 ?_)
            rw [w1]
            exact ⟨ks', vs', ds', rfl, w2, w3, w4⟩
        · cases e
      · cases e
    · cases e
  · cases e
theorem op_deq (hu : X.A.units + 64 < cLine) : OpR X (compareOp .Eq) (rDeqX X.K false) := op_deqX false hu
theorem op_dne (hu : X.A.units + 64 < cLine) : OpR X (compareOp .NotEq) (rDeqX X.K true) := op_deqX true hu
end
end L2.Vs

set_option Elab.async false
set_option linter.all false
set_option maxRecDepth 100000
set_option maxHeartbeats 4000000
namespace KA
open PySem PySem.Spec PyProof.Rows L2 L2.Dx Kx
abbrev msOf (t : Msg) : Str × Int := (t.1, ((t.2.1 : Nat) : Int))
theorem msgsOf_pw {x : Str} {l : List Nat} : (msgsOf x l).Pairwise fun t u => ltM (msOf t) (msOf u) := by
  unfold msgsOf
  rw [List.pairwise_map]
  have go : ∀ (l : List Nat) (k : Nat), (numFrom k l).Pairwise fun p q => p.1 < q.1 := by
    intro l
    induction l with
    | nil => exact fun _ => .nil
    | cons j t ih =>
      intro k
      refine .cons (fun q hq => ?_) (ih (k + 1))
      obtain ⟨a, b⟩ := q
      have := (numFrom_mem (k := 0) hq).1
      show k < a
      omega
  exact (go l 1).imp fun {p q} h => .inr ⟨rfl, by show ((p.1 : Nat) : Int) < (q.1 : Nat); omega⟩
theorem all_pw {S : Str → List Nat} : ∀ {nodes : List Str}, nodes.Pairwise ltS → (allMsgs nodes S).Pairwise fun t u => ltM (msOf t) (msOf u)
  | [], _ => .nil
  | x :: r, h => by
    unfold allMsgs
    rw [List.flatMap_cons, List.pairwise_append]
    refine ⟨msgsOf_pw, all_pw (List.pairwise_cons.mp h).2, fun t ht u hu => ?_⟩
    have h1 := (msgsOf_mem ht).1
    have h2 := (all_mem (nodes := r) hu).1
    exact .inl (by show t.1.cps.toList < u.1.cps.toList; rw [h1]; exact (List.pairwise_cons.mp h).1 _ h2)
theorem all_nodup {nodes : List Str} {S : Str → List Nat} (h : nodes.Pairwise ltS) : (allMsgs nodes S).Nodup := (all_pw h).imp fun {a b} l (e : a = b) => ltM_irrefl _ (by rw [e] at l; exact l)
/-- the messages in the order of their sends -/
def sentMsgs (nodes : List Str) (es : List Ev) : Nat → List Msg
  | 0 => []
  | k + 1 => sentMsgs nodes es k ++ (match es[k]? with
    | some (.snd x _) => [(x, ((Rs.upto nodes es k).sends x).length + 1, k)]
    | _ => [])
theorem sent_place {nodes : List Str} {es : List Ev} {t : Msg} : ∀ {k : Nat}, t ∈ sentMsgs nodes es k → t.2.2 < k
  | k + 1, h => by
    rcases List.mem_append.mp (show t ∈ sentMsgs nodes es k ++ _ from h) with h | h
    · have := sent_place h
      omega
    · cases hk : es[k]? with
      | none => rw [hk] at h; cases h
      | some e =>
        rw [hk] at h
        cases e with
        | opn _ _ _ => cases h
        | snd x rs =>
          rw [List.mem_singleton.mp h]
          show k < k + 1
          omega
theorem all_iff {nodes : List Str} {S : Str → List Nat} {t : Msg} : t ∈ allMsgs nodes S ↔ t.1 ∈ nodes ∧ 1 ≤ t.2.1 ∧ (S t.1)[t.2.1 - 1]? = some t.2.2 := by
  constructor
  · intro h
    obtain ⟨h1, h2, _, h4⟩ := all_mem h
    exact ⟨h1, h2, h4⟩
  · rintro ⟨h1, h2, h3⟩
    unfold allMsgs
    refine List.mem_flatMap.mpr ⟨t.1, h1, ?_⟩
    unfold msgsOf
    refine List.mem_map.mpr ⟨(t.2.1, t.2.2), ?_, rfl⟩
    have go : ∀ (l : List Nat) (k a b : Nat), k ≤ a → l[a - k]? = some b → (a, b) ∈ numFrom k l := by
      intro l
      induction l with
      | nil => intro k a b _ h; simp at h
      | cons j t ih =>
        intro k a b hk h
        by_cases e : a = k
        · subst e
          rw [Nat.sub_self] at h
          cases h
          exact List.mem_cons_self
        · rw [show a - k = a - (k + 1) + 1 by omega, List.getElem?_cons_succ] at h
          exact List.mem_cons_of_mem _ (ih (k + 1) a b (by omega) h)
    exact go _ 1 _ _ h2 h3
theorem sent_iff {nodes : List Str} {es : List Ev} {t : Msg} : ∀ {k : Nat}, OkTo nodes es k → (t ∈ sentMsgs nodes es k ↔ t ∈ allMsgs nodes (Rs.upto nodes es k).sends)
  | 0, _ => by
    rw [all_iff]
    constructor
    · intro h; cases h
    · rintro ⟨_, _, h⟩
      cases h
  | k + 1, ok => by
    have ih := @sent_iff nodes es t k fun j hj => ok j (by omega)
    show t ∈ sentMsgs nodes es k ++ _ ↔ _
    rw [List.mem_append, ih]
    cases hk : es[k]? with
    | none =>
      rw [upto_none hk]
      simp
    | some e =>
      rw [upto_succ hk]
      cases e with
      | opn y s n =>
        show _ ∨ t ∈ [] ↔ t ∈ allMsgs nodes (Rs.upto nodes es k).sends
        simp
      | snd x rs =>
        have hx : x ∈ nodes := (ok k (by omega) _ hk).1
        show _ ∨ t ∈ [(x, ((Rs.upto nodes es k).sends x).length + 1, k)] ↔ t ∈ allMsgs nodes (fun y => if y = x then (Rs.upto nodes es k).sends x ++ [k] else (Rs.upto nodes es k).sends y)
        rw [all_iff, all_iff, List.mem_singleton]
        by_cases c : t.1 = x
        · rw [if_pos c, ← c]
          constructor
          · rintro (⟨h1, h2, h3⟩ | h)
            · refine ⟨h1, h2, ?_⟩
              rw [List.getElem?_append_left (List.getElem?_eq_some_iff.mp h3).1]
              exact h3
            · have e1 : t.2.1 = ((Rs.upto nodes es k).sends t.1).length + 1 := congrArg (·.2.1) h
              have e2 : t.2.2 = k := congrArg (·.2.2) h
              rw [e1, e2]
              refine ⟨c ▸ hx, by omega, ?_⟩
              simp
          · rintro ⟨h1, h2, h3⟩
            by_cases d : t.2.1 - 1 < ((Rs.upto nodes es k).sends t.1).length
            · rw [List.getElem?_append_left d] at h3
              exact .inl ⟨h1, h2, h3⟩
            · right
              rw [List.getElem?_append_right (by omega)] at h3
              have h4 := (List.getElem?_eq_some_iff.mp h3).1
              simp at h4
              rw [show t.2.1 - 1 - ((Rs.upto nodes es k).sends t.1).length = 0 by omega] at h3
              have h5 : k = t.2.2 := by simpa using h3
              refine Prod.ext rfl (Prod.ext ?_ h5.symm)
              show t.2.1 = _ + 1
              omega
        · rw [if_neg c]
          constructor
          · rintro (h | h)
            · exact h
            · exact absurd (congrArg (·.1) h) c
          · exact .inl
theorem sent_nodup {nodes : List Str} {es : List Ev} : ∀ k : Nat, (sentMsgs nodes es k).Nodup
  | 0 => .nil
  | k + 1 => by
    show (sentMsgs nodes es k ++ _).Nodup
    rw [List.nodup_append]
    refine ⟨sent_nodup k, ?_, fun t ht u hu e => ?_⟩
    · cases es[k]? with
      | none => exact .nil
      | some e => cases e <;> simp
    · have h1 := sent_place ht
      cases hk : es[k]? with
      | none => rw [hk] at hu; cases hu
      | some e' =>
        rw [hk] at hu
        cases e' with
        | opn _ _ _ => cases hu
        | snd x rs =>
          have h2 := List.mem_singleton.mp hu
          rw [e, h2] at h1
          exact absurd h1 (Nat.lt_irrefl _)
theorem sent_sort {nodes : List Str} {es : List Ev} (hn : NodesOk nodes) (ok : RunOk nodes es) : sortM ((sentMsgs nodes es es.length).map msOf) = (allMsgs nodes (rsOf nodes es).sends).map msOf := by
  refine sortM_eq ?_ (List.Perm.map _ ?_)
  · rw [List.pairwise_map]
    exact all_pw hn.asc
  · exact ((List.perm_ext_iff_of_nodup (all_nodup hn.asc) (sent_nodup _)).mpr fun t => (sent_iff ok).symm)
end KA
namespace KA
open PySem PySem.Spec PyProof.Rows L2 L2.Dx Kx
/-- a dict from the messages L to the pairs (place of the send, its list of receivers) -/
structure SentAt (H : Hp) (D : Addr) (as : List Addr) (L : List Msg) (g : Msg → Addr) : Prop where
  at' : H D = some (.dT (L.map fun t => (keyOf t, V.ref (g t))))
  own : ∀ t ∈ L, ∃ l a, as[t.2.2]? = some a ∧ H a = some (.tup [.str "send", .str t.1, .ref l]) ∧ H (g t) = some (.tup [.int ((t.2.2 : Nat) : Int), .ref l])
theorem SentAt.same {H H' : Hp} {D : Addr} {as : List Addr} {L : List Msg} {g : Msg → Addr} (S : SentAt H D as L g) (s : Same H H') : SentAt H' D as L g :=
  ⟨s _ _ S.at', fun t ht => (S.own t ht).elim fun l ⟨a, h1, h2, h3⟩ => ⟨l, a, h1, s _ _ h2, s _ _ h3⟩⟩
theorem sent_key {nodes : List Str} {es : List Ev} {k : Nat} (ok : OkTo nodes es k) {t u : Msg} (ht : t ∈ sentMsgs nodes es k) (hu : u ∈ sentMsgs nodes es k) (e : keyOf t = keyOf u) : t = u :=
  key_inj ((sent_iff ok).mp ht) ((sent_iff ok).mp hu) e
theorem SentAt.put {nodes : List Str} {es : List Ev} {H : Hp} {D p l a : Addr} {as : List Addr} {k : Nat} {x : Str} {rs : List Str} {g : Msg → Addr} (S : SentAt H D as (sentMsgs nodes es k) g) (ok : OkTo nodes es (k + 1)) (he : es[k]? = some (.snd x rs))
    (ha : as[k]? = some a) (hl : H a = some (.tup [.str "send", .str x, .ref l])) (hp : H p = some (.tup [.int ((k : Nat) : Int), .ref l])) :
    SentAt (upd H D (.dT (putK ((sentMsgs nodes es k).map fun t => (keyOf t, V.ref (g t))) (keyOf (x, ((Rs.upto nodes es k).sends x).length + 1, k)) (.ref p)))) D as (sentMsgs nodes es (k + 1)) (fun t => if t.2.2 = k then p else g t) := by
  have e1 : sentMsgs nodes es (k + 1) = sentMsgs nodes es k ++ [(x, ((Rs.upto nodes es k).sends x).length + 1, k)] := by
    show sentMsgs nodes es k ++ (match es[k]? with
      | some (.snd x _) => [(x, ((Rs.upto nodes es k).sends x).length + 1, k)]
      | _ => []) = _
    rw [he]
  have new : (x, ((Rs.upto nodes es k).sends x).length + 1, k) ∈ sentMsgs nodes es (k + 1) := by rw [e1]; simp
  have out : ∀ t ∈ sentMsgs nodes es k, keyOf t ≠ keyOf (x, ((Rs.upto nodes es k).sends x).length + 1, k) := fun t ht e => by
    have h1 : t ∈ sentMsgs nodes es (k + 1) := by rw [e1]; exact List.mem_append_left _ ht
    have h2 := sent_key ok h1 new e
    have h3 := sent_place ht
    rw [h2] at h3
    exact Nat.lt_irrefl _ h3
  have ne : ∀ {b : Addr} {xs : List V}, H b = some (.tup xs) → b ≠ D := fun h => ne_of h S.at' (by intro z; cases z)
  refine ⟨?_, fun t ht => ?_⟩
  · rw [upd_same, putK_new _ (valT_out out), e1, List.map_append]
    congr 2
    congr 1
    · refine List.map_congr_left fun t ht => ?_
      rw [if_neg (Nat.ne_of_lt (sent_place ht))]
    · simp
  · rw [e1] at ht
    rcases List.mem_append.mp ht with ht | ht
    · obtain ⟨l', a', h1, h2, h3⟩ := S.own t ht
      refine ⟨l', a', h1, (upd_ne (ne h2)).trans h2, ?_⟩
      show upd H D _ (if t.2.2 = k then p else g t) = _
      rw [if_neg (Nat.ne_of_lt (sent_place ht))]
      exact (upd_ne (ne h3)).trans h3
    · rw [List.mem_singleton.mp ht]
      refine ⟨l, a, ha, (upd_ne (ne hl)).trans hl, ?_⟩
      show upd H D _ (if k = k then p else _) = _
      rw [if_pos rfl]
      exact (upd_ne (ne hp)).trans hp
end KA

set_option Elab.async false
set_option linter.all false
set_option maxRecDepth 100000
set_option maxHeartbeats 4000000
namespace L2.Dx
open PySem PySem.Spec PyProof.Rows L2
/-- a list comprehension over enumerate(xs) -/
theorem lc_enum {K : PySem.W.Frag} {a : Addr} {xs : List V} {g : TG} {tt : TT} {te : TE} {vs : List Nat} {σ : St} {H1 : Hp} {D : Addr} {Qd : Hp → Prop} (Pv : Nat → Hp → Prop) (h0 : Pv 0 (upd H1 D (.lst []))) (hl : ∀ i H, i ≤ xs.length → Pv i H → SqL K H a xs)
    (hs : ∀ i x H T, xs[i]? = some x → Pv i H → H T = none → g (.ref T) (wipe σ vs) (upd H T (.tup [.int (i : Nat), x])) fun σ2 H2 => wipe σ2 vs = wipe σ vs ∧ tt σ2 H2 fun b H3 =>
      if b = true then te σ2 H3 fun y H4 => ∃ acc, H4 D = some (.lst acc) ∧ acc.length < sizeLine ∧ Pv (i + 1) (upd H4 D (.lst (acc ++ [y]))) else Pv (i + 1) H3) (hd : ∀ H, Pv xs.length H → Qd H) :
    ∃ W : Nat → Nat → Hp → Prop, (∃ m, W 0 m (upd H1 D (.lst []))) ∧ ∀ i m H, W i m H →
      ((Ite K a).stop i H ∧ Qd H) ∨ ((Ite K a).go i H ∧ ∃ Nx : Hp → Prop, (∀ H', Nx H' → ∃ m', m' < m ∧ W (i + 1) m' H') ∧ ∀ v H', (Ite K a).yld i H v H' → g v (wipe σ vs) H' fun σ2 H2 => wipe σ2 vs = wipe σ vs ∧ tt σ2 H2 fun b H3 =>
        if b = true then te σ2 H3 fun y H4 => ∃ acc, H4 D = some (.lst acc) ∧ acc.length < sizeLine ∧ Nx (upd H4 D (.lst (acc ++ [y]))) else Nx H3) := by
  refine ⟨fun i m H => m = xs.length - i ∧ i ≤ xs.length ∧ Pv i H, ⟨_, rfl, Nat.zero_le _, h0⟩, fun i m H ⟨em, hi, p⟩ => ?_⟩
  subst em
  rcases Nat.lt_or_ge i xs.length with lt | ge
  · refine .inr ⟨⟨xs, xs[i], hl i H hi p, List.getElem?_eq_getElem lt⟩, Pv (i + 1), fun H' p' => ⟨_, by omega, rfl, lt, p'⟩, fun v H' ⟨T, x, ev, nT, eH, y⟩ => ?_⟩
    subst ev eH
    exact hs i x _ T (y xs (hl i _ hi p)) p nT
  · have e : xs.length = i := Nat.le_antisymm ge hi
    subst e
    exact .inl ⟨⟨xs, hl _ H hi p, Nat.le_refl _⟩, hd H p⟩
theorem Paired.fn {α β γ : Type} [DecidableEq α] [Inhabited γ] {R : β → γ → Prop} (f : α → β) : ∀ {L : List α} {bs : List γ}, Paired R (L.map f) bs → L.Nodup → ∃ k : α → γ, bs = L.map k ∧ ∀ t ∈ L, R (f t) (k t)
  | [], bs, h, _ => by
    have h : Paired R [] bs := h
    cases h
    exact ⟨fun _ => default, rfl, fun t ht => nomatch ht⟩
  | a :: L, bs, h, nd => by
    have h : Paired R (f a :: L.map f) bs := h
    cases h with
    | @cons _ b _ bs h1 h2 =>
      obtain ⟨k, e, hk⟩ := Paired.fn f h2 (List.nodup_cons.mp nd).2
      have na := (List.nodup_cons.mp nd).1
      refine ⟨fun t => if t = a then b else k t, ?_, fun t ht => ?_⟩
      · rw [List.map_cons, if_pos rfl, e]
        congr 1
        exact List.map_congr_left fun t ht => (if_neg fun z : t = a => na (by rw [← z]; exact ht)).symm
      · by_cases c : t = a
        · show R (f t) (if t = a then b else k t)
          rw [if_pos c, c]
          exact h1
        · show R (f t) (if t = a then b else k t)
          rw [if_neg c]
          exact hk t ((List.mem_cons.mp ht).resolve_left c)
/-- data that is small enough to be shown -/
structure Sm (d : PyData) (k w : Nat) : Prop where
  sh : d.showable = true
  sl : d.leavesShort 13 = true
  dp : d.depth ≤ k
  wt : d.weight ≤ w
theorem Sm.shown {d : PyData} {k w : Nat} (h : Sm d k w) (hk : k ≤ 50) (hw : w ≤ 1048576) : ShownOk d := ⟨h.sh, Nat.le_trans h.dp hk, PyData.shown_fits (B := 13) (by decide) (by decide) h.sl (Nat.le_trans h.wt (Nat.le_trans hw (by decide)))⟩
theorem Sm.mono {d : PyData} {k w k' w' : Nat} (h : Sm d k w) (hk : k ≤ k') (hw : w ≤ w') : Sm d k' w' := ⟨h.sh, h.sl, Nat.le_trans h.dp hk, Nat.le_trans h.wt hw⟩
theorem sm_all {k w : Nat} : ∀ {ds : List PyData}, (∀ d ∈ ds, Sm d k w) → PyData.showableAll ds = true ∧ PyData.leavesShortAll 13 ds = true ∧ PyData.depthAll ds ≤ k ∧ PyData.weightAll ds ≤ ds.length * (w + 1)
  | [], _ => ⟨rfl, rfl, Nat.zero_le _, Nat.zero_le _⟩
  | d :: ds, h => by
    obtain ⟨h1, h2, h3, h4⟩ := sm_all (ds := ds) fun d hd => h d (List.mem_cons_of_mem _ hd)
    obtain ⟨g1, g2, g3, g4⟩ := h d List.mem_cons_self
    refine ⟨?_, ?_, ?_, ?_⟩
    · show (d.showable && PyData.showableAll ds) = true
      rw [g1, h1]; rfl
    · show (d.leavesShort 13 && PyData.leavesShortAll 13 ds) = true
      rw [g2, h2]; rfl
    · show max d.depth (PyData.depthAll ds) ≤ k
      omega
    · show d.weight + 1 + PyData.weightAll ds ≤ (ds.length + 1) * (w + 1)
      rw [Nat.succ_mul]
      omega
theorem Sm.list {k w n : Nat} {ds : List PyData} (h : ∀ d ∈ ds, Sm d k w) (hn : ds.length ≤ n) : Sm (.list ds) (k + 1) (n * (w + 1)) := by
  obtain ⟨h1, h2, h3, h4⟩ := sm_all h
  exact ⟨h1, h2, Nat.succ_le_succ h3, Nat.le_trans h4 (Nat.mul_le_mul_right _ hn)⟩
theorem Sm.tuple {k w n : Nat} {ds : List PyData} (h : ∀ d ∈ ds, Sm d k w) (hn : ds.length ≤ n) : Sm (.tuple ds) (k + 1) (n * (w + 1)) := by
  obtain ⟨h1, h2, h3, h4⟩ := sm_all h
  exact ⟨h1, h2, Nat.succ_le_succ h3, Nat.le_trans h4 (Nat.mul_le_mul_right _ hn)⟩
theorem sm_kv {k w : Nat} : ∀ {ds : List (PyData × PyData)}, (∀ d ∈ ds, Sm d.1 k w ∧ Sm d.2 k w) → PyData.showableKv ds = true ∧ PyData.leavesShortKv 13 ds = true ∧ PyData.depthKv ds ≤ k ∧ PyData.weightKv ds ≤ ds.length * (2 * w + 2)
  | [], _ => ⟨rfl, rfl, Nat.zero_le _, Nat.zero_le _⟩
  | (a, b) :: ds, h => by
    obtain ⟨h1, h2, h3, h4⟩ := sm_kv (ds := ds) fun d hd => h d (List.mem_cons_of_mem _ hd)
    obtain ⟨⟨g1, g2, g3, g4⟩, ⟨f1, f2, f3, f4⟩⟩ := h (a, b) List.mem_cons_self
    refine ⟨?_, ?_, ?_, ?_⟩
    · show (a.showable && b.showable && PyData.showableKv ds) = true
      rw [show a.showable = true from g1, show b.showable = true from f1, h1]; rfl
    · show (a.leavesShort 13 && b.leavesShort 13 && PyData.leavesShortKv 13 ds) = true
      rw [show a.leavesShort 13 = true from g2, show b.leavesShort 13 = true from f2, h2]; rfl
    · show max (max a.depth b.depth) (PyData.depthKv ds) ≤ k
      have g3 : a.depth ≤ k := g3
      have f3 : b.depth ≤ k := f3
      omega
    · show a.weight + b.weight + 2 + PyData.weightKv ds ≤ (ds.length + 1) * (2 * w + 2)
      have g4 : a.weight ≤ w := g4
      have f4 : b.weight ≤ w := f4
      rw [Nat.succ_mul]
      omega
theorem Sm.dict {k w n : Nat} {ds : List (PyData × PyData)} (h : ∀ d ∈ ds, Sm d.1 k w ∧ Sm d.2 k w) (hn : ds.length ≤ n) : Sm (.dict ds) (k + 1) (n * (2 * w + 2)) := by
  obtain ⟨h1, h2, h3, h4⟩ := sm_kv h
  exact ⟨h1, h2, Nat.succ_le_succ h3, Nat.le_trans h4 (Nat.mul_le_mul_right _ hn)⟩
theorem Sm.non : Sm .none 0 12 := ⟨rfl, rfl, Nat.zero_le _, Nat.zero_le _⟩
theorem Sm.nat {n : Nat} (h : n ≤ 1000) : Sm (.int (n : Nat)) 0 12 := by
  have k : (List.range 1001).all (fun n => PyData.showable (.int (n : Nat)) && PyData.leavesShort 13 (.int (n : Nat)) && decide (PyData.weight (.int (n : Nat)) ≤ 12)) = true := by decide +kernel
  rw [List.all_eq_true] at k
  have := k n (List.mem_range.mpr (by omega))
  simp only [Bool.and_eq_true, decide_eq_true_eq] at this
  exact ⟨this.1.1, this.1.2, Nat.zero_le _, this.2⟩
end L2.Dx
namespace KA
open PySem PySem.Spec PyProof.Rows L2 L2.Dx Kx
theorem sm_name {z : Str} (h : NameOk z) : Sm (.str z) 0 12 := by
  refine ⟨rfl, ?_, Nat.zero_le _, Nat.le_trans h.hi (by decide)⟩
  show (z.cps.toList.all fun c => decide (c < 16 ^ 8)) = true
  rw [List.all_eq_true]
  intro c hc
  have := h.az c hc
  rw [decide_eq_true_eq]
  exact Nat.lt_of_le_of_lt this.2 (by decide)
theorem sm_names {rs : List Str} (h : ∀ r ∈ rs, NameOk r) (hl : rs.length ≤ 13) : Sm (.list (rs.map PyData.str)) 1 169 := Sm.list (w := 12) (n := 13) (fun d hd => by
  obtain ⟨r, hr, rfl⟩ := List.mem_map.mp hd
  exact sm_name (h r hr)) (by rw [List.length_map]; exact hl)
/-- an event as data -/
def evD : Ev → PyData
  | .snd x rs => .tuple [.str "send", .str x, .list (rs.map .str)]
  | .opn x s n => .tuple [.str "open", .str x, .tuple [.str s, .int n]]
theorem NameOk.send : NameOk "send" := pool_name _ (by decide +kernel)
theorem NameOk.open' : NameOk "open" := pool_name _ (by decide +kernel)
theorem nd_len : ∀ {l m : List Str}, l.Nodup → (∀ x ∈ l, x ∈ m) → l.length ≤ m.length
  | [], _, _, _ => Nat.zero_le _
  | a :: l, m, nd, h => by
    have ha := h a List.mem_cons_self
    have nd := List.nodup_cons.mp nd
    have := nd_len (l := l) (m := m.erase a) nd.2 fun x hx => (List.mem_erase_of_ne (fun z => nd.1 (by rw [← z]; exact hx))).mpr (h x (List.mem_cons_of_mem _ hx))
    rw [List.length_erase_of_mem ha] at this
    have := List.length_pos_of_mem ha
    rw [List.length_cons]
    omega
/-- what a run's reading tells of its events -/
theorem ev_facts {nodes : List Str} {es : List Ev} (hn : NodesOk nodes) (ok : RunOk nodes es) {i : Nat} {e : Ev} (he : es[i]? = some e) : match e with
    | .snd x rs => x ∈ nodes ∧ (∀ r ∈ rs, r ∈ nodes) ∧ rs.length ≤ 12 ∧ rs ≠ []
    | .opn x s n => x ∈ nodes ∧ s ∈ nodes ∧ ∃ m : Nat, n = (m : Int) ∧ 1 ≤ m ∧ m ≤ es.length := by
  have hi := (List.getElem?_eq_some_iff.mp he).1
  have h := ok i hi e he
  cases e with
  | snd x rs =>
    obtain ⟨h1, h2⟩ := h
    have mem : ∀ r ∈ rs, r ∈ nodes := fun r hr => (recvB_mem h2 hr).1
    refine ⟨h1, mem, ?_, ?_⟩
    · have asc : rs.Pairwise ltS := by
        unfold recvB at h2
        rw [Bool.and_eq_true] at h2
        exact recvGo_asc h2.2
      have nd : rs.Nodup := asc.imp fun {a b} l (e : a = b) => ltS_irrefl b (by rw [e] at l; exact l)
      exact Nat.le_trans ((nd_len nd mem)) hn.hi
    · rintro rfl
      cases h2
  | opn x s n =>
    obtain ⟨j, h1, h2, _⟩ := h
    obtain ⟨k1, k2, k3, k4⟩ := sentAt_mem h1
    obtain ⟨_, _, rs, g1, g2⟩ := sends_ok (fun j hj => ok j (by omega)) k4
    rw [recvAt_snd g1] at h2
    refine ⟨(recvB_mem g2 h2).1, k1, n.toNat, by omega, by omega, ?_⟩
    have := (List.getElem?_eq_some_iff.mp k3).1
    have := @sends_len nodes es s i
    omega
end KA

set_option Elab.async false
set_option linter.all false
set_option maxRecDepth 100000
set_option maxHeartbeats 4000000
namespace KA
open PySem PySem.Spec PyProof.Rows L2 L2.Dx Kx
theorem dpx_names {K : PySem.W.Frag} {H : Hp} : ∀ (rs : List Str), DpxAll K H (rs.map V.str) (rs.map PyData.str)
  | [] => .nil
  | r :: t => .cons (.str _) (dpx_names t)
theorem dpx_ev {K : PySem.W.Frag} {H : Hp} {a : Addr} {e : Ev} (h : EvAt H a e) : Dpx K H (.ref a) (evD e) := by
  cases e with
  | snd x rs => obtain ⟨l, h1, h2⟩ := h; exact .tup (tpI h1) (.cons (.str _) (.cons (.str _) (.cons (.lst (ltI h2) (dpx_names rs)) .nil)))
  | opn x s n => obtain ⟨m, h1, h2⟩ := h; exact .tup (tpI h1) (.cons (.str _) (.cons (.str _) (.cons (.tup (tpI h2) (.cons (.str _) (.cons (.int _) .nil))) .nil)))
theorem dp_ev {K : PySem.W.Frag} {H : Hp} {a : Addr} {e : Ev} (h : EvAt H a e) : Dp K H (.ref a) (evD e) := by
  cases e with
  | snd x rs => obtain ⟨l, h1, h2⟩ := h; exact .tup (tpI h1) (.cons (.str _) (.cons (.str _) (.cons (.lst (ltI h2) (dp_strs rs)) .nil)))
  | opn x s n => obtain ⟨m, h1, h2⟩ := h; exact .tup (tpI h1) (.cons (.str _) (.cons (.str _) (.cons (.tup (tpI h2) (.cons (.str _) (.cons (.int _) .nil))) .nil)))
theorem dpx_evs {K : PySem.W.Frag} {H : Hp} : ∀ {as : List Addr} {es : List Ev}, as.length = es.length → (∀ (i : Nat) (a : Addr) (e : Ev), as[i]? = some a → es[i]? = some e → EvAt H a e) → DpxAll K H (as.map V.ref) (es.map evD)
  | [], [], _, _ => .nil
  | a :: as, e :: es, hl, h => .cons (dpx_ev (h 0 a e rfl rfl)) (dpx_evs (by simpa using hl) fun i b f h1 h2 => h (i + 1) b f h1 h2)
theorem dpx_run {K : PySem.W.Frag} {H : Hp} {R : Addr} {as : List Addr} {es : List Ev} (h : RunAt H R as es) : Dpx K H (.ref R) (.list (es.map evD)) := .lst (ltI h.at') (dpx_evs h.len h.ev)
theorem sm_ev {nodes : List Str} {es : List Ev} (hn : NodesOk nodes) (ok : RunOk nodes es) (hl : es.length ≤ 1000) {i : Nat} {e : Ev} (he : es[i]? = some e) : Sm (evD e) 2 510 := by
  have f := ev_facts hn ok he
  cases e with
  | snd x rs =>
    obtain ⟨h1, h2, h3, _⟩ := f
    refine Sm.tuple (w := 169) (n := 3) (fun d hd => ?_) (Nat.le_refl _)
    simp only [List.mem_cons, List.not_mem_nil, or_false] at hd
    rcases hd with rfl | rfl | rfl
    · exact (sm_name NameOk.send).mono (by decide) (by decide)
    · exact (sm_name (hn.nm _ h1)).mono (by decide) (by decide)
    · exact sm_names (fun r hr => hn.nm r (h2 r hr)) (by omega)
  | opn x s n =>
    obtain ⟨h1, h2, m, rfl, h3, h4⟩ := f
    refine Sm.tuple (w := 169) (n := 3) (fun d hd => ?_) (Nat.le_refl _)
    simp only [List.mem_cons, List.not_mem_nil, or_false] at hd
    rcases hd with rfl | rfl | rfl
    · exact (sm_name NameOk.open').mono (by decide) (by decide)
    · exact (sm_name (hn.nm _ h1)).mono (by decide) (by decide)
    · refine (Sm.tuple (k := 0) (w := 12) (n := 2) (fun d hd => ?_) (Nat.le_refl _)).mono (by decide) (by decide)
      simp only [List.mem_cons, List.not_mem_nil, or_false] at hd
      rcases hd with rfl | rfl
      · exact sm_name (hn.nm _ h2)
      · exact Sm.nat (by omega)
theorem sm_run {nodes : List Str} {es : List Ev} (hn : NodesOk nodes) (ok : RunOk nodes es) (hl : es.length ≤ 900) : Sm (.list (es.map evD)) 3 459900 := by
  refine Sm.list (w := 510) (n := 900) (fun d hd => ?_) (by rw [List.length_map]; exact hl)
  obtain ⟨e, he, rfl⟩ := List.mem_map.mp hd
  obtain ⟨i, hi⟩ := List.mem_iff_getElem?.mp he
  exact sm_ev hn ok (by omega) hi
abbrev bothD (nodes : List Str) (es : List Ev) : PyData := .list [.list (nodes.map .str), .list (es.map evD)]
theorem shown_both {nodes : List Str} {es : List Ev} (hn : NodesOk nodes) (ok : RunOk nodes es) (hl : es.length ≤ 900) : ShownOk (bothD nodes es) := by
  refine (Sm.list (k := 3) (w := 459900) (n := 2) (fun d hd => ?_) (Nat.le_refl _)).shown (by decide) (by decide)
  simp only [List.mem_cons, List.not_mem_nil, or_false] at hd
  rcases hd with rfl | rfl
  · exact (sm_names hn.nm (by have := hn.hi; omega)).mono (by decide) (by decide)
  · exact sm_run hn ok hl
abbrev keyD (t : Msg) : PyData := .tuple [.str t.1, .int ((t.2.1 : Nat) : Int)]
/-- the messages with their receivers as data -/
abbrev msgsD (es : List Ev) (L : List Msg) : PyData := .dict (L.map fun t => (keyD t, .list ((recvAt es t.2.2).map .str)))
theorem dpx_vals {K : PySem.W.Frag} {H : Hp} {es : List Ev} {h : Msg → Addr} : ∀ {L : List Msg}, (∀ t ∈ L, H (h t) = some (.lst ((recvAt es t.2.2).map V.str))) → DpxAll K H (L.map fun t => V.ref (h t)) (L.map fun t => PyData.list ((recvAt es t.2.2).map .str))
  | [], _ => .nil
  | t :: L, hh => .cons (.lst (ltI (hh t List.mem_cons_self)) (dpx_names _)) (dpx_vals fun u hu => hh u (List.mem_cons_of_mem _ hu))
theorem dpx_msgs {K : PySem.W.Frag} {H : Hp} {D : Addr} {es : List Ev} {L : List Msg} {h : Msg → Addr} (hd : Rd H D (.dT (L.map fun t => (keyOf t, V.ref (h t))))) (hh : ∀ t ∈ L, H (h t) = some (.lst ((recvAt es t.2.2).map V.str))) : Dpx K H (.ref D) (msgsD es L) := by
  refine .dt hd ?_ ?_
  · rw [List.map_map, List.map_map]
    rfl
  · rw [List.map_map, List.map_map]
    exact dpx_vals hh
theorem shown_msgs {nodes : List Str} {es : List Ev} (hn : NodesOk nodes) (ok : RunOk nodes es) (hl : es.length ≤ 900) {L : List Msg} (hL : ∀ t ∈ L, t ∈ allMsgs nodes (rsOf nodes es).sends) (hLl : L.length ≤ 2000) : ShownOk (msgsD es L) := by
  refine (Sm.dict (k := 1) (w := 169) (n := 2000) (fun d hd => ?_) (by rw [List.length_map]; exact hLl)).shown (by decide) (by decide)
  obtain ⟨t, ht, rfl⟩ := List.mem_map.mp hd
  obtain ⟨h1, h2, h3, h4⟩ := all_mem (hL t ht)
  obtain ⟨_, hlt, rs, g1, g2⟩ := sends_ok ok (List.mem_of_getElem? h4)
  have f := ev_facts hn ok g1
  refine ⟨(Sm.tuple (k := 0) (w := 12) (n := 2) (fun d hd => ?_) (Nat.le_refl _)).mono (by decide) (by decide), ?_⟩
  · simp only [List.mem_cons, List.not_mem_nil, or_false] at hd
    rcases hd with rfl | rfl
    · exact sm_name (hn.nm _ h1)
    · have h5 : ((rsOf nodes es).sends t.1).length ≤ es.length := sends_len
      exact Sm.nat (by omega)
  · show Sm (.list ((recvAt es t.2.2).map PyData.str)) 1 169
    rw [recvAt_snd g1]
    exact sm_names (fun r hr => hn.nm r (f.2.1 r hr)) (by have := f.2.2.1; omega)
theorem sent_len {nodes : List Str} {es : List Ev} : ∀ k : Nat, (sentMsgs nodes es k).length ≤ k
  | 0 => Nat.le_refl _
  | k + 1 => by
    have ih := @sent_len nodes es k
    show (sentMsgs nodes es k ++ _).length ≤ k + 1
    rw [List.length_append]
    cases es[k]? with
    | none => exact Nat.le_succ_of_le ih
    | some e =>
      cases e with
      | snd x rs => exact Nat.succ_le_succ ih
      | opn x s n => exact Nat.le_succ_of_le ih
/-! ### the seed stands apart -/
theorem seed_tup {H : Hp} {sd a : Addr} {xs : List V} (S : SeedAt H sd) (h : H a = some (.tup xs)) : a ∉ [sd] := by
  obtain ⟨x, y, z, h1, _⟩ := S
  simpa using ne_of h h1 (by intro z; cases z)
theorem seed_strs {H : Hp} {sd a : Addr} {rs : List Str} (S : SeedAt H sd) (h : H a = some (.lst (rs.map V.str))) : a ∉ [sd] := by
  obtain ⟨x, y, z, h1, _⟩ := S
  have : a ≠ sd := by
    rintro rfl
    rw [h] at h1
    cases rs with
    | nil => cases h1
    | cons r t =>
      rw [List.map_cons] at h1
      cases h1
  simpa using this
theorem seed_refs {H : Hp} {sd a : Addr} {as : List Addr} (S : SeedAt H sd) (h : H a = some (.lst (as.map V.ref))) : a ∉ [sd] := by
  obtain ⟨x, y, z, h1, _⟩ := S
  have : a ≠ sd := by
    rintro rfl
    rw [h] at h1
    cases as with
    | nil => cases h1
    | cons r t =>
      rw [List.map_cons] at h1
      cases h1
  simpa using this
theorem EvAt.but {H H' : Hp} {sd a : Addr} {e : Ev} (S : SeedAt H sd) (b : But [sd] H H') (h : EvAt H a e) : EvAt H' a e := by
  cases e with
  | snd x rs => obtain ⟨l, h1, h2⟩ := h; exact ⟨l, b _ _ (seed_tup S h1) h1, b _ _ (seed_strs S h2) h2⟩
  | opn x s n => obtain ⟨l, h1, h2⟩ := h; exact ⟨l, b _ _ (seed_tup S h1) h1, b _ _ (seed_tup S h2) h2⟩
theorem RunAt.but {H H' : Hp} {sd R : Addr} {as : List Addr} {es : List Ev} (S : SeedAt H sd) (b : But [sd] H H') (h : RunAt H R as es) : RunAt H' R as es := ⟨b _ _ (seed_refs S h.at') h.at', h.len, fun i a e h1 h2 => (h.ev i a e h1 h2).but S b⟩
theorem Given.but' {H H' : Hp} {sd N R : Addr} {nodes : List Str} {as : List Addr} {es : List Ev} (S : SeedAt H sd) (b : But [sd] H H') (hN : H N = some (.lst (nodes.map V.str))) (h : RunAt H R as es) : H' N = some (.lst (nodes.map V.str)) ∧ RunAt H' R as es := ⟨b _ _ (seed_strs S hN) hN, h.but S b⟩
/-! ### opens of a message at a node -/
def Ev.isOpn (x s : Str) (n : Int) : Ev → Bool
  | .opn y t m => decide (y = x) && (decide (t = s) && decide (m = n))
  | .snd _ _ => false
theorem isOpn_iff {x s : Str} {n : Int} {e : Ev} : e.isOpn x s n = true ↔ e = .opn x s n := by
  cases e with
  | snd _ _ =>
    constructor
    · intro h; cases h
    · intro h; cases h
  | opn y t m =>
    unfold Ev.isOpn
    simp only [Bool.and_eq_true, decide_eq_true_eq]
    constructor
    · rintro ⟨rfl, rfl, rfl⟩; rfl
    · intro h; cases h; exact ⟨rfl, rfl, rfl⟩
theorem eqv_ev {x s : Str} {n : Int} {e : Ev} : PyData.eqv (evD e) (.tuple [.str "open", .str x, .tuple [.str s, .int n]]) = e.isOpn x s n := by
  cases e with
  | snd y rs =>
    have e : PyData.eqv (.str "send") (.str "open") = false := by decide +kernel
    unfold evD
    simp only [PyData.eqv, PyData.eqvAll] at e ⊢
    rw [e]
    rfl
  | opn y t m =>
    show ((("open" : Str) == "open") && ((y == x) && (((t == s) && ((m == n) && true)) && true))) = _
    unfold Ev.isOpn
    rw [show (("open" : Str) == ("open" : Str)) = true by decide +kernel]
    have be : ∀ {α : Type} [BEq α] [LawfulBEq α] [DecidableEq α] (a b : α), (a == b) = decide (a = b) := fun a b => by
      by_cases h : a = b <;> simp [h]
    rw [be y x, be t s, be m n]
    simp
def opIx (es : List Ev) (x s : Str) (n : Int) : Nat → List Nat
  | 0 => []
  | k + 1 => opIx es x s n k ++ (match es[k]? with
    | some e => if e.isOpn x s n = true then [k] else []
    | none => [])
theorem opIx_mem {es : List Ev} {x s : Str} {n : Int} {i : Nat} : ∀ {k : Nat}, i ∈ opIx es x s n k ↔ i < k ∧ es[i]? = some (.opn x s n)
  | 0 => by
    constructor
    · intro h; cases h
    · intro h; omega
  | k + 1 => by
    show i ∈ opIx es x s n k ++ _ ↔ _
    rw [List.mem_append, opIx_mem (k := k)]
    cases hk : es[k]? with
    | none =>
      constructor
      · rintro (h | h)
        · exact ⟨by omega, h.2⟩
        · cases h
      · rintro ⟨h1, h2⟩
        refine .inl ⟨?_, h2⟩
        rcases Nat.lt_or_ge i k with c | c
        · exact c
        · have : i = k := by omega
          rw [this, hk] at h2
          cases h2
    | some e =>
      by_cases c : e.isOpn x s n = true
      · show _ ∨ i ∈ (if e.isOpn x s n = true then [k] else []) ↔ _
        rw [if_pos c, List.mem_singleton]
        constructor
        · rintro (h | h)
          · exact ⟨by omega, h.2⟩
          · subst h
            exact ⟨by omega, by rw [hk, isOpn_iff.mp c]⟩
        · rintro ⟨h1, h2⟩
          by_cases d : i = k
          · exact .inr d
          · exact .inl ⟨by omega, h2⟩
      · show _ ∨ i ∈ (if e.isOpn x s n = true then [k] else []) ↔ _
        rw [if_neg c]
        constructor
        · rintro (h | h)
          · exact ⟨by omega, h.2⟩
          · cases h
        · rintro ⟨h1, h2⟩
          refine .inl ⟨?_, h2⟩
          rcases Nat.lt_or_ge i k with d | d
          · exact d
          · have : i = k := by omega
            rw [this, hk] at h2
            cases h2
            exact absurd (isOpn_iff.mpr rfl) c
theorem opIx_len {es : List Ev} {x s : Str} {n : Int} : ∀ k : Nat, (opIx es x s n k).length ≤ k
  | 0 => Nat.le_refl _
  | k + 1 => by
    show (opIx es x s n k ++ _).length ≤ k + 1
    rw [List.length_append]
    have := @opIx_len es x s n k
    have h2 : (match es[k]? with
      | some e => if e.isOpn x s n = true then [k] else []
      | none => []).length ≤ 1 := by
      cases es[k]? with
      | none => exact Nat.zero_le _
      | some e =>
        show (if e.isOpn x s n = true then [k] else []).length ≤ 1
        split
        · exact Nat.le_refl _
        · exact Nat.zero_le _
    omega
theorem sends_asc {nodes : List Str} {es : List Ev} {x : Str} : ∀ {k : Nat}, ((Rs.upto nodes es k).sends x).Pairwise (· < ·) ∧ ∀ j ∈ (Rs.upto nodes es k).sends x, j < k
  | 0 => ⟨.nil, fun _ h => nomatch h⟩
  | k + 1 => by
    obtain ⟨h1, h2⟩ := @sends_asc nodes es x k
    cases hk : es[k]? with
    | none =>
      rw [upto_none hk]
      exact ⟨h1, fun j hj => by have := h2 j hj; omega⟩
    | some e =>
      rw [upto_succ hk]
      cases e with
      | opn y s n => exact ⟨h1, fun j hj => by have := h2 j hj; omega⟩
      | snd y rs =>
        show (if x = y then (Rs.upto nodes es k).sends y ++ [k] else (Rs.upto nodes es k).sends x).Pairwise (· < ·) ∧ ∀ j ∈ (if x = y then (Rs.upto nodes es k).sends y ++ [k] else (Rs.upto nodes es k).sends x), j < k + 1
        by_cases c : x = y
        · subst c
          rw [if_pos rfl]
          refine ⟨List.pairwise_append.mpr ⟨h1, List.pairwise_singleton .., fun a ha b hb => ?_⟩, fun j hj => ?_⟩
          · rw [List.mem_singleton.mp hb]
            exact h2 a ha
          · rcases List.mem_append.mp hj with h | h
            · have := h2 j h; omega
            · rw [List.mem_singleton.mp h]; omega
        · rw [if_neg c]
          exact ⟨h1, fun j hj => by have := h2 j hj; omega⟩
theorem sent_inj {nodes : List Str} {es : List Ev} {k : Nat} (ok : OkTo nodes es k) {s s' : Str} {n n' : Int} {j : Nat} (h : sentAt (Rs.upto nodes es k) nodes s n = some j) (h' : sentAt (Rs.upto nodes es k) nodes s' n' = some j) : s = s' ∧ n = n' := by
  obtain ⟨a1, a2, a3, a4⟩ := sentAt_mem h
  obtain ⟨b1, b2, b3, b4⟩ := sentAt_mem h'
  obtain ⟨_, _, rs, g1, _⟩ := sends_ok ok a4
  obtain ⟨_, _, rs', g1', _⟩ := sends_ok ok b4
  rw [g1] at g1'
  cases g1'
  refine ⟨rfl, ?_⟩
  have asc := (@sends_asc nodes es s k).1
  have l1 := (List.getElem?_eq_some_iff.mp a3)
  have l2 := (List.getElem?_eq_some_iff.mp b3)
  obtain ⟨i1, e1⟩ := l1
  obtain ⟨i2, e2⟩ := l2
  rcases Nat.lt_trichotomy (n - 1).toNat (n' - 1).toNat with c | c | c
  · have := List.pairwise_iff_getElem.mp asc _ _ i1 i2 c
    omega
  · omega
  · have := List.pairwise_iff_getElem.mp asc _ _ i2 i1 c
    omega
theorem sent_keep {nodes : List Str} {es : List Ev} {k : Nat} {s : Str} {n : Int} {j : Nat} (h : sentAt (Rs.upto nodes es k) nodes s n = some j) : sentAt (Rs.upto nodes es (k + 1)) nodes s n = some j := by
  cases hk : es[k]? with
  | none => rw [upto_none hk]; exact h
  | some e =>
    rw [upto_succ hk]
    unfold sentAt at h ⊢
    by_cases c : s ∈ nodes ∧ 0 < n
    · rw [if_pos c] at h ⊢
      cases e with
      | opn y t m => exact h
      | snd y rs =>
        show (if s = y then (Rs.upto nodes es k).sends y ++ [k] else (Rs.upto nodes es k).sends s)[(n - 1).toNat]? = some j
        by_cases c2 : s = y
        · subst c2
          rw [if_pos rfl, List.getElem?_append_left (List.getElem?_eq_some_iff.mp h).1]
          exact h
        · rw [if_neg c2]
          exact h
    · rw [if_neg c] at h
      cases h
theorem opens_src {nodes : List Str} {es : List Ev} {x : Str} {p : Nat × Nat} : ∀ {k : Nat}, OkTo nodes es k → p ∈ (Rs.upto nodes es k).opens x → p.2 < k ∧ ∃ s n, es[p.2]? = some (.opn x s n) ∧ sentAt (Rs.upto nodes es k) nodes s n = some p.1
  | 0, _, h => nomatch h
  | k + 1, ok, h => by
    have ih := @opens_src nodes es x p k fun j hj => ok j (by omega)
    have keep : p ∈ (Rs.upto nodes es k).opens x → p.2 < k + 1 ∧ ∃ s n, es[p.2]? = some (.opn x s n) ∧ sentAt (Rs.upto nodes es (k + 1)) nodes s n = some p.1 := fun h => by
      obtain ⟨h1, s, n, h2, h3⟩ := ih h
      exact ⟨by omega, s, n, h2, sent_keep h3⟩
    cases hk : es[k]? with
    | none =>
      rw [upto_none hk] at h
      exact keep h
    | some e =>
      rw [upto_succ hk] at h
      cases e with
      | snd y rs => exact keep h
      | opn y s n =>
        have h : p ∈ (if x = y then (Rs.upto nodes es k).opens y ++ [((sentAt (Rs.upto nodes es k) nodes s n).getD 0, k)] else (Rs.upto nodes es k).opens x) := h
        by_cases c : x = y
        · subst c
          rw [if_pos rfl] at h
          rcases List.mem_append.mp h with h | h
          · exact keep h
          · rw [List.mem_singleton.mp h]
            obtain ⟨j, hj, _⟩ := ok k (by omega) _ hk
            refine ⟨by show k < k + 1; omega, s, n, hk, ?_⟩
            rw [hj]
            exact sent_keep hj
        · rw [if_neg c] at h
          exact keep h
/-- where a message is opened, as two ways tell it -/
theorem open_told {nodes : List Str} {es : List Ev} (ok : RunOk nodes es) {x s : Str} {n : Int} {j : Nat} (hj : sentAt (Rs.upto nodes es es.length) nodes s n = some j) :
    (valV (ops ((Rs.upto nodes es es.length).opens x)) (.inl ((j : Nat) : Int))).getD .non = (match opIx es x s n es.length with
      | [] => V.non
      | i :: _ => V.int (i : Nat)) := by
  cases h : opIx es x s n es.length with
  | nil =>
    have : (valV (ops ((Rs.upto nodes es es.length).opens x)) (.inl ((j : Nat) : Int))).isSome = false := by
      rw [valV_ops, Bool.not_eq_false', List.all_eq_true]
      intro p hp
      rw [decide_eq_true_eq]
      intro e
      obtain ⟨h1, s', n', h2, h3⟩ := opens_src ok hp
      rw [e] at h3
      obtain ⟨rfl, rfl⟩ := sent_inj ok hj h3
      have : p.2 ∈ opIx es x s n es.length := opIx_mem.mpr ⟨h1, h2⟩
      rw [h] at this
      cases this
    cases hv : valV (ops ((Rs.upto nodes es es.length).opens x)) (.inl ((j : Nat) : Int)) with
    | none => rfl
    | some v => rw [hv] at this; cases this
  | cons i t =>
    have hi : i ∈ opIx es x s n es.length := by rw [h]; exact List.mem_cons_self
    obtain ⟨h1, h2⟩ := opIx_mem.mp hi
    obtain ⟨j', k1, k2, k3⟩ := opened_in ok h1 h2
    rw [hj] at k1
    cases k1
    rw [valV_ops_at (opens_nd ok) k3]
    rfl
end KA
namespace KA
open PySem PySem.Spec PyProof.Rows L2 L2.Dx Kx
theorem shaped_opn {x s : Str} {n : Int} (hx : NameOk x) (hs : NameOk s) : SeqAt.shaped (evD (.opn x s n)) = true := by
  unfold SeqAt.shaped
  rw [show (evD (.opn x s n)).canLay0 = ((PyData.canLay0 (.str "open")) && (PyData.canLay0 (.str x) && ((PyData.canLay0 (.str s) && (true && true)) && true))) from rfl, name_strOk hx, name_strOk hs, show PyData.canLay0 (.str "open") = true from by decide +kernel]
  rfl
theorem shaped_snd {x : Str} {rs : List Str} (hx : NameOk x) (hs : ∀ r ∈ rs, NameOk r) : SeqAt.shaped (evD (.snd x rs)) = true := by
  unfold SeqAt.shaped
  rw [show (evD (.snd x rs)).canLay0 = ((PyData.canLay0 (.str "send")) && (PyData.canLay0 (.str x) && (PyData.canLayAll0 (rs.map PyData.str) && true))) from rfl, name_strOk hx, names_canLay hs, show PyData.canLay0 (.str "send") = true from by decide +kernel,
    show (evD (.snd x rs)).depth = max 0 (max 0 (max (PyData.depthAll (rs.map PyData.str) + 1) 0)) + 1 from rfl]
  have := depth_names rs
  simp
  omega
theorem shaped_ev {nodes : List Str} {es : List Ev} (hn : NodesOk nodes) (ok : RunOk nodes es) {i : Nat} {e : Ev} (he : es[i]? = some e) : SeqAt.shaped (evD e) = true := by
  have f := ev_facts hn ok he
  cases e with
  | snd x rs => exact shaped_snd (hn.nm _ f.1) fun r hr => hn.nm r (f.2.1 r hr)
  | opn x s n => exact shaped_opn (hn.nm _ f.1) (hn.nm _ f.2.1)
theorem sent_at {nodes : List Str} {es : List Ev} {t : Msg} (h : t ∈ allMsgs nodes (rsOf nodes es).sends) : sentAt (Rs.upto nodes es es.length) nodes t.1 ((t.2.1 : Nat) : Int) = some t.2.2 := by
  obtain ⟨h1, h2, h3, h4⟩ := all_mem h
  unfold sentAt
  rw [if_pos ⟨h1, by omega⟩, show (((t.2.1 : Nat) : Int) - 1).toNat = t.2.1 - 1 by omega]
  exact h4
def vOf : List Nat → V
  | [] => .non
  | i :: _ => .int (i : Nat)
def dOf : List Nat → PyData
  | [] => .none
  | i :: _ => .int (i : Nat)
theorem dpx_of {K : PySem.W.Frag} {H : Hp} : ∀ l : List Nat, Dpx K H (vOf l) (dOf l)
  | [] => .non
  | _ :: _ => .int _
theorem sm_of : ∀ {l : List Nat}, (∀ i ∈ l, i ≤ 1000) → Sm (dOf l) 0 12
  | [], _ => Sm.non
  | i :: _, h => Sm.nat (h i List.mem_cons_self)
theorem first_of : ∀ l : List Nat, (ixs l ++ [V.non])[0]? = some (vOf l)
  | [] => rfl
  | _ :: _ => rfl
abbrev toldD (j : Nat) (l : List Nat) : PyData := .list [.int ((j : Nat) : Int), dOf l]
theorem shown_told {j : Nat} {l : List Nat} (hj : j ≤ 1000) (hl : ∀ i ∈ l, i ≤ 1000) : ShownOk (toldD j l) := by
  refine (Sm.list (k := 0) (w := 12) (n := 2) (fun d hd => ?_) (Nat.le_refl _)).shown (by decide) (by decide)
  simp only [List.mem_cons, List.not_mem_nil, or_false] at hd
  rcases hd with rfl | rfl
  · exact Sm.nat hj
  · exact sm_of hl
theorem open_told' {nodes : List Str} {es : List Ev} (ok : RunOk nodes es) {x s : Str} {n : Int} {j : Nat} (hj : sentAt (Rs.upto nodes es es.length) nodes s n = some j) :
    (valV (ops ((Rs.upto nodes es es.length).opens x)) (.inl ((j : Nat) : Int))).getD .non = vOf (opIx es x s n es.length) := by
  rw [open_told ok hj]
  cases opIx es x s n es.length <;> rfl
theorem opIx_succ {es : List Ev} {x s : Str} {n : Int} {k : Nat} {e : Ev} (h : es[k]? = some e) : opIx es x s n (k + 1) = opIx es x s n k ++ (if e.isOpn x s n = true then [k] else []) := by
  show opIx es x s n k ++ (match es[k]? with
    | some e => if e.isOpn x s n = true then [k] else []
    | none => []) = _
  rw [h]
end KA

set_option Elab.async false
set_option linter.all false
set_option maxRecDepth 100000
set_option maxHeartbeats 4000000
namespace KA
open PySem PySem.Spec PyProof.Rows L2 L2.Dx Kx
/-! ### runs without places: what was sent, what was opened -/
abbrev Snt := List ((Str × Int) × List Str)
abbrev Opd := List ((Str × Int) × Str)
def cntS (x : Str) (s : Snt) : Nat := s.countP fun p => decide (p.1.1 = x)
def stepOk (nodes : List Str) (s : Snt) (o : Opd) : Ev → Bool
  | .snd x rs => decide (x ∈ nodes) && recvB nodes x rs
  | .opn x t n => decide (((t, n), x) ∉ o) && s.any fun p => decide (p.1 = (t, n)) && decide (x ∈ p.2)
def stepS (s : Snt) : Ev → Snt
  | .snd x rs => s ++ [((x, ((cntS x s + 1 : Nat) : Int)), rs)]
  | .opn _ _ _ => s
def stepO (o : Opd) : Ev → Opd
  | .snd _ _ => o
  | .opn x t n => o ++ [((t, n), x)]
def okFrom (nodes : List Str) : Snt → Opd → List Ev → Bool
  | _, _, [] => true
  | s, o, e :: es => stepOk nodes s o e && okFrom nodes (stepS s e) (stepO o e) es
theorem cntS_perm {x : Str} {s s' : Snt} (h : s.Perm s') : cntS x s = cntS x s' := h.countP_eq _
theorem any_perm {α : Type} {p : α → Bool} {s s' : List α} (h : s.Perm s') : s.any p = s'.any p := by
  rw [Bool.eq_iff_iff, List.any_eq_true, List.any_eq_true]
  exact ⟨fun ⟨x, h1, h2⟩ => ⟨x, h.mem_iff.mp h1, h2⟩, fun ⟨x, h1, h2⟩ => ⟨x, h.mem_iff.mpr h1, h2⟩⟩
theorem stepS_perm {s s' : Snt} {e : Ev} (h : s.Perm s') : (stepS s e).Perm (stepS s' e) := by
  cases e with
  | snd x rs =>
    show (s ++ [((x, ((cntS x s + 1 : Nat) : Int)), rs)]).Perm (s' ++ [((x, ((cntS x s' + 1 : Nat) : Int)), rs)])
    rw [cntS_perm h]
    exact h.append_right _
  | opn _ _ _ => exact h
theorem stepO_perm {o o' : Opd} {e : Ev} (h : o.Perm o') : (stepO o e).Perm (stepO o' e) := by
  cases e with
  | snd x rs => exact h
  | opn _ _ _ => exact h.append_right _
theorem stepOk_perm {nodes : List Str} {s s' : Snt} {o o' : Opd} {e : Ev} (hs : s.Perm s') (ho : o.Perm o') : stepOk nodes s o e = stepOk nodes s' o' e := by
  cases e with
  | snd x rs => rfl
  | opn x t n =>
    show (decide _ && _) = (decide _ && _)
    rw [any_perm hs]
    congr 1
    exact decide_eq_decide.mpr (not_congr ho.mem_iff)
theorem okFrom_perm {nodes : List Str} : ∀ {es : List Ev} {s s' : Snt} {o o' : Opd}, s.Perm s' → o.Perm o' → okFrom nodes s o es = okFrom nodes s' o' es
  | [], _, _, _, _, _, _ => rfl
  | e :: es, s, s', o, o', hs, ho => by
    show (stepOk nodes s o e && okFrom nodes (stepS s e) (stepO o e) es) = _
    rw [stepOk_perm hs ho, okFrom_perm (stepS_perm hs) (stepO_perm ho)]
    rfl
/-- fewer opens before: still a run -/
theorem okFrom_sub {nodes : List Str} : ∀ {es : List Ev} {s : Snt} {o o' : Opd}, (∀ p ∈ o', p ∈ o) → okFrom nodes s o es = true → okFrom nodes s o' es = true
  | [], _, _, _, _, _ => rfl
  | e :: es, s, o, o', h, k => by
    have k : (stepOk nodes s o e && okFrom nodes (stepS s e) (stepO o e) es) = true := k
    rw [Bool.and_eq_true] at k
    show (stepOk nodes s o' e && okFrom nodes (stepS s e) (stepO o' e) es) = true
    rw [Bool.and_eq_true]
    refine ⟨?_, okFrom_sub ?_ k.2⟩
    · cases e with
      | snd x rs => exact k.1
      | opn x t n =>
        have k1 : (decide (((t, n), x) ∉ o) && s.any fun p => decide (p.1 = (t, n)) && decide (x ∈ p.2)) = true := k.1
        show (decide (((t, n), x) ∉ o') && s.any fun p => decide (p.1 = (t, n)) && decide (x ∈ p.2)) = true
        rw [Bool.and_eq_true, decide_eq_true_eq] at k1 ⊢
        exact ⟨fun z => k1.1 (h _ z), k1.2⟩
    · intro p hp
      cases e with
      | snd x rs => exact h p hp
      | opn x t n =>
        rcases List.mem_append.mp hp with hp | hp
        · exact List.mem_append_left _ (h p hp)
        · exact List.mem_append_right _ hp
theorem okFrom_app {nodes : List Str} : ∀ {as bs : List Ev} {s : Snt} {o : Opd}, okFrom nodes s o (as ++ bs) = (okFrom nodes s o as && okFrom nodes (as.foldl stepS s) (as.foldl stepO o) bs)
  | [], _, _, _ => rfl
  | e :: as, bs, s, o => by
    show (stepOk nodes s o e && okFrom nodes (stepS s e) (stepO o e) (as ++ bs)) = ((stepOk nodes s o e && okFrom nodes (stepS s e) (stepO o e) as) && _)
    rw [okFrom_app (as := as), Bool.and_assoc]
    rfl
/-- numbers of one sender are 1, 2, .. -/
def Keyed (s : Snt) : Prop := ∀ p ∈ s, 1 ≤ p.1.2 ∧ p.1.2 ≤ (cntS p.1.1 s : Nat)
theorem cntS_snoc {x : Str} {s : Snt} {p : (Str × Int) × List Str} : cntS x (s ++ [p]) = cntS x s + (if p.1.1 = x then 1 else 0) := by
  unfold cntS
  rw [List.countP_append, List.countP_singleton]
  by_cases c : p.1.1 = x <;> simp [c]
theorem Keyed.step {s : Snt} {e : Ev} (h : Keyed s) : Keyed (stepS s e) := by
  cases e with
  | opn _ _ _ => exact h
  | snd x rs =>
    intro p hp
    have hc : ∀ y, cntS y (stepS s (.snd x rs)) = cntS y s + (if x = y then 1 else 0) := fun y => cntS_snoc
    rw [hc]
    rcases List.mem_append.mp hp with hp | hp
    · obtain ⟨h1, h2⟩ := h p hp
      refine ⟨h1, ?_⟩
      split <;> omega
    · rw [List.mem_singleton.mp hp]
      show (1 : Int) ≤ ((cntS x s + 1 : Nat) : Int) ∧ ((cntS x s + 1 : Nat) : Int) ≤ ((cntS x s + (if x = x then 1 else 0) : Nat) : Int)
      rw [if_pos rfl]
      omega
theorem Keyed.fold : ∀ {es : List Ev} {s : Snt}, Keyed s → Keyed (es.foldl stepS s)
  | [], _, h => h
  | e :: es, s, h => Keyed.fold (es := es) h.step
def Ev.node' : Ev → Str
  | .snd x _ => x
  | .opn x _ _ => x
/-- b opens what a sends -/
def sameB (s : Snt) : Ev → Ev → Bool
  | .snd x _, .opn _ t n => decide (t = x) && decide (n = ((cntS x s + 1 : Nat) : Int))
  | _, _ => false
/-- two neighbours exchanged -/
theorem swap_ok {nodes : List Str} {s : Snt} {o : Opd} {a b : Ev} {es : List Ev} (hk : Keyed s) (hne : a.node' ≠ b.node') (h : okFrom nodes s o (a :: b :: es) = true) :
    okFrom nodes s o (b :: a :: es) = !sameB s a b := by
  have h : (stepOk nodes s o a && (stepOk nodes (stepS s a) (stepO o a) b && okFrom nodes (stepS (stepS s a) b) (stepO (stepO o a) b) es)) = true := h
  rw [Bool.and_eq_true, Bool.and_eq_true] at h
  obtain ⟨h1, h2, h3⟩ := h
  show (stepOk nodes s o b && (stepOk nodes (stepS s b) (stepO o b) a && okFrom nodes (stepS (stepS s b) a) (stepO (stepO o b) a) es)) = _
  cases a with
  | snd x rs =>
    cases b with
    | snd y ts =>
      have hne : x ≠ y := hne
      show _ = true
      have h1 : stepOk nodes (stepS s (.snd y ts)) (stepO o (.snd y ts)) (.snd x rs) = true := h1
      have h2 : stepOk nodes s o (.snd y ts) = true := h2
      rw [h1, h2, Bool.true_and, Bool.true_and]
      refine (okFrom_perm ?_ (.refl _)).trans h3
      show (((s ++ [((y, ((cntS y s + 1 : Nat) : Int)), ts)]) ++ [((x, ((cntS x (s ++ [((y, ((cntS y s + 1 : Nat) : Int)), ts)]) + 1 : Nat) : Int)), rs)])).Perm ((s ++ [((x, ((cntS x s + 1 : Nat) : Int)), rs)]) ++ [((y, ((cntS y (s ++ [((x, ((cntS x s + 1 : Nat) : Int)), rs)]) + 1 : Nat) : Int)), ts)])
      rw [cntS_snoc, cntS_snoc, if_neg (fun z : y = x => hne z.symm), if_neg (fun z : x = y => hne z), List.append_assoc, List.append_assoc]
      exact List.Perm.append_left s (List.Perm.swap _ _ _)
    | opn y t n =>
      show _ = !(decide (t = x) && decide (n = ((cntS x s + 1 : Nat) : Int)))
      have h2 : (decide (((t, n), y) ∉ o) && (s ++ [((x, ((cntS x s + 1 : Nat) : Int)), rs)]).any fun p => decide (p.1 = (t, n)) && decide (y ∈ p.2)) = true := h2
      have h1 : stepOk nodes (stepS s (.opn y t n)) (stepO o (.opn y t n)) (.snd x rs) = true := h1
      have h3 : okFrom nodes (stepS (stepS s (.opn y t n)) (.snd x rs)) (stepO (stepO o (.opn y t n)) (.snd x rs)) es = true := h3
      rw [h1, h3, Bool.and_true, Bool.and_true]
      rw [Bool.and_eq_true, List.any_eq_true] at h2
      obtain ⟨g1, p, hp, g2⟩ := h2
      show (decide (((t, n), y) ∉ o) && s.any fun p => decide (p.1 = (t, n)) && decide (y ∈ p.2)) = _
      rw [g1, Bool.true_and]
      by_cases c : t = x ∧ n = ((cntS x s + 1 : Nat) : Int)
      · obtain ⟨c1, c2⟩ := c
        rw [decide_eq_true c1, decide_eq_true c2]
        show _ = false
        rw [List.any_eq_false]
        intro q hq
        obtain ⟨k1, k2⟩ := hk q hq
        simp only [Bool.and_eq_true, decide_eq_true_eq, not_and]
        intro e
        rw [e, c1, c2] at k2
        have k2 : ((cntS x s + 1 : Nat) : Int) ≤ ((cntS x s : Nat) : Int) := k2
        omega
      · rw [show (decide (t = x) && decide (n = ((cntS x s + 1 : Nat) : Int))) = false by
          rw [Bool.and_eq_false_iff, decide_eq_false_iff_not, decide_eq_false_iff_not]
          by_cases d : t = x
          · exact .inr fun z => c ⟨d, z⟩
          · exact .inl d]
        show _ = true
        rw [List.any_eq_true]
        refine ⟨p, ?_, g2⟩
        rcases List.mem_append.mp hp with hp | hp
        · exact hp
        · rw [List.mem_singleton.mp hp, Bool.and_eq_true, decide_eq_true_eq] at g2
          have e : (x, ((cntS x s + 1 : Nat) : Int)) = (t, n) := g2.1
          exact absurd ⟨(congrArg (·.1) e).symm, (congrArg (·.2) e).symm⟩ c
  | opn x t n =>
    cases b with
    | snd y ts =>
      show _ = true
      have h2 : stepOk nodes s o (.snd y ts) = true := h2
      have h1 : (decide (((t, n), x) ∉ o) && s.any fun p => decide (p.1 = (t, n)) && decide (x ∈ p.2)) = true := h1
      have h3 : okFrom nodes (stepS (stepS s (.snd y ts)) (.opn x t n)) (stepO (stepO o (.snd y ts)) (.opn x t n)) es = true := h3
      rw [h2, h3, Bool.and_true, Bool.true_and]
      show (decide (((t, n), x) ∉ o) && (s ++ [((y, ((cntS y s + 1 : Nat) : Int)), ts)]).any fun p => decide (p.1 = (t, n)) && decide (x ∈ p.2)) = true
      rw [Bool.and_eq_true] at h1 ⊢
      refine ⟨h1.1, ?_⟩
      rw [List.any_append, h1.2]
      rfl
    | opn y u m =>
      have hne : x ≠ y := hne
      show _ = true
      have h1 : (decide (((t, n), x) ∉ o) && s.any fun p => decide (p.1 = (t, n)) && decide (x ∈ p.2)) = true := h1
      have h2 : (decide (((u, m), y) ∉ o ++ [((t, n), x)]) && s.any fun p => decide (p.1 = (u, m)) && decide (y ∈ p.2)) = true := h2
      rw [Bool.and_eq_true, decide_eq_true_eq] at h1 h2
      rw [Bool.and_eq_true, Bool.and_eq_true]
      refine ⟨?_, ?_, (okFrom_perm (.refl _) ?_).trans h3⟩
      · show (decide (((u, m), y) ∉ o) && s.any fun p => decide (p.1 = (u, m)) && decide (y ∈ p.2)) = true
        rw [Bool.and_eq_true, decide_eq_true_eq]
        exact ⟨fun z => h2.1 (List.mem_append_left _ z), h2.2⟩
      · show (decide (((t, n), x) ∉ o ++ [((u, m), y)]) && s.any fun p => decide (p.1 = (t, n)) && decide (x ∈ p.2)) = true
        rw [Bool.and_eq_true, decide_eq_true_eq]
        refine ⟨fun z => ?_, h1.2⟩
        rcases List.mem_append.mp z with z | z
        · exact h1.1 z
        · exact hne (congrArg (·.2) (List.mem_singleton.mp z))
      · show ((o ++ [((u, m), y)]) ++ [((t, n), x)]).Perm ((o ++ [((t, n), x)]) ++ [((u, m), y)])
        rw [List.append_assoc, List.append_assoc]
        exact List.Perm.append_left o (List.Perm.swap _ _ _)
end KA

set_option Elab.async false
set_option linter.all false
set_option maxRecDepth 100000
set_option maxHeartbeats 4000000
namespace KA
open PySem PySem.Spec PyProof.Rows L2 L2.Dx Kx
def sentL (nodes : List Str) (es : List Ev) (k : Nat) : Snt := (sentMsgs nodes es k).map fun t => ((t.1, ((t.2.1 : Nat) : Int)), recvAt es t.2.2)
def openL (es : List Ev) : Nat → Opd
  | 0 => []
  | k + 1 => openL es k ++ (match es[k]? with
    | some (.opn x s n) => [((s, n), x)]
    | _ => [])
theorem sent_snd {nodes : List Str} {es : List Ev} {k : Nat} {x : Str} {rs : List Str} (h : es[k]? = some (.snd x rs)) : sentMsgs nodes es (k + 1) = sentMsgs nodes es k ++ [(x, ((Rs.upto nodes es k).sends x).length + 1, k)] := by
  show sentMsgs nodes es k ++ (match es[k]? with
    | some (.snd x _) => [(x, ((Rs.upto nodes es k).sends x).length + 1, k)]
    | _ => []) = _
  rw [h]
theorem sent_opn {nodes : List Str} {es : List Ev} {k : Nat} {x s : Str} {n : Int} (h : es[k]? = some (.opn x s n)) : sentMsgs nodes es (k + 1) = sentMsgs nodes es k := by
  show sentMsgs nodes es k ++ (match es[k]? with
    | some (.snd x _) => [(x, ((Rs.upto nodes es k).sends x).length + 1, k)]
    | _ => []) = _
  rw [h]
  exact List.append_nil _
theorem cntS_sent {nodes : List Str} {es : List Ev} {x : Str} : ∀ {k : Nat}, k ≤ es.length → cntS x (sentL nodes es k) = ((Rs.upto nodes es k).sends x).length
  | 0, _ => rfl
  | k + 1, hk => by
    have ih := @cntS_sent nodes es x k (by omega)
    obtain ⟨e, he⟩ : ∃ e, es[k]? = some e := ⟨_, List.getElem?_eq_getElem (by omega)⟩
    rw [upto_succ he]
    cases e with
    | opn y s n =>
      unfold sentL
      rw [sent_opn he]
      exact ih
    | snd y rs =>
      unfold sentL
      rw [sent_snd he, List.map_append, List.map_singleton, cntS_snoc]
      show cntS x (sentL nodes es k) + (if y = x then 1 else 0) = (if x = y then (Rs.upto nodes es k).sends y ++ [k] else (Rs.upto nodes es k).sends x).length
      rw [ih]
      by_cases c : x = y
      · subst c
        rw [if_pos rfl, if_pos rfl, List.length_append]
        rfl
      · rw [if_neg c, if_neg (fun z => c z.symm)]
        rfl
theorem fold_sent {nodes : List Str} {es : List Ev} : ∀ {k : Nat}, k ≤ es.length → (es.take k).foldl stepS [] = sentL nodes es k ∧ (es.take k).foldl stepO [] = openL es k
  | 0, _ => ⟨rfl, rfl⟩
  | k + 1, hk => by
    obtain ⟨h1, h2⟩ := @fold_sent nodes es k (by omega)
    obtain ⟨e, he⟩ : ∃ e, es[k]? = some e := ⟨_, List.getElem?_eq_getElem (by omega)⟩
    rw [take_snoc he, List.foldl_append, List.foldl_append, h1, h2]
    cases e with
    | opn y s n =>
      refine ⟨?_, ?_⟩
      · show sentL nodes es k = sentL nodes es (k + 1)
        unfold sentL
        rw [sent_opn he]
      · show openL es k ++ [((s, n), y)] = openL es k ++ (match es[k]? with
          | some (.opn x s n) => [((s, n), x)]
          | _ => [])
        rw [he]
    | snd y rs =>
      refine ⟨?_, ?_⟩
      · show sentL nodes es k ++ [((y, ((cntS y (sentL nodes es k) + 1 : Nat) : Int)), rs)] = sentL nodes es (k + 1)
        rw [cntS_sent (by omega)]
        unfold sentL
        rw [sent_snd he, List.map_append, List.map_singleton, recvAt_snd he]
      · show openL es k = openL es k ++ (match es[k]? with
          | some (.opn x s n) => [((s, n), x)]
          | _ => [])
        rw [he]
        exact (List.append_nil _).symm
theorem openL_mem {es : List Ev} {x s : Str} {n : Int} : ∀ {k : Nat}, ((s, n), x) ∈ openL es k ↔ ∃ i, i < k ∧ es[i]? = some (.opn x s n)
  | 0 => by
    constructor
    · intro h; cases h
    · rintro ⟨i, h, _⟩; omega
  | k + 1 => by
    show _ ∈ openL es k ++ _ ↔ _
    rw [List.mem_append, openL_mem (k := k)]
    constructor
    · rintro (⟨i, h1, h2⟩ | h)
      · exact ⟨i, by omega, h2⟩
      · cases hk : es[k]? with
        | none => rw [hk] at h; cases h
        | some e =>
          rw [hk] at h
          cases e with
          | snd _ _ => cases h
          | opn y t m =>
            have := List.mem_singleton.mp h
            cases this
            exact ⟨k, by omega, hk⟩
    · rintro ⟨i, h1, h2⟩
      rcases Nat.lt_or_ge i k with c | c
      · exact .inl ⟨i, c, h2⟩
      · have : i = k := by omega
        subst this
        right
        rw [h2]
        exact List.mem_singleton.mpr rfl
theorem sent_at_k {nodes : List Str} {es : List Ev} {k : Nat} {t : Msg} (h : t ∈ allMsgs nodes (Rs.upto nodes es k).sends) : sentAt (Rs.upto nodes es k) nodes t.1 ((t.2.1 : Nat) : Int) = some t.2.2 := by
  obtain ⟨h1, h2, h3, h4⟩ := all_mem h
  unfold sentAt
  rw [if_pos ⟨h1, by omega⟩, show (((t.2.1 : Nat) : Int) - 1).toNat = t.2.1 - 1 by omega]
  exact h4
theorem evOk_iff {nodes : List Str} {es : List Ev} {k : Nat} {e : Ev} (ok : OkTo nodes es k) : evOk nodes es (Rs.upto nodes es k) e ↔ stepOk nodes (sentL nodes es k) (openL es k) e = true := by
  cases e with
  | snd x rs =>
    show (x ∈ nodes ∧ recvB nodes x rs = true) ↔ (decide (x ∈ nodes) && recvB nodes x rs) = true
    rw [Bool.and_eq_true, decide_eq_true_eq]
  | opn x s n =>
    show (∃ j, sentAt (Rs.upto nodes es k) nodes s n = some j ∧ x ∈ recvAt es j ∧ ((Rs.upto nodes es k).opens x).all (fun p => decide (p.1 ≠ j)) = true) ↔ (decide (((s, n), x) ∉ openL es k) && (sentL nodes es k).any fun p => decide (p.1 = (s, n)) && decide (x ∈ p.2)) = true
    rw [Bool.and_eq_true, decide_eq_true_eq, List.any_eq_true]
    constructor
    · rintro ⟨j, h1, h2, h3⟩
      obtain ⟨k1, k2, k3, k4⟩ := sentAt_mem h1
      refine ⟨fun z => ?_, ((s, n), recvAt es j), ?_, by simp [h2]⟩
      · obtain ⟨i, hi, he⟩ := openL_mem.mp z
        obtain ⟨j', g1, g2, g3⟩ := opened_in ok hi he
        rw [h1] at g1
        cases g1
        rw [List.all_eq_true] at h3
        have := h3 _ g3
        simp at this
      · refine List.mem_map.mpr ⟨(s, n.toNat, j), (sent_iff ok).mpr (all_iff.mpr ⟨k1, by show 1 ≤ n.toNat; omega, ?_⟩), ?_⟩
        · show ((Rs.upto nodes es k).sends s)[n.toNat - 1]? = some j
          rw [show n.toNat - 1 = (n - 1).toNat by omega]
          exact k3
        · show ((s, ((n.toNat : Nat) : Int)), recvAt es j) = _
          rw [show ((n.toNat : Nat) : Int) = n by omega]
    · rintro ⟨h1, p, hp, h2⟩
      obtain ⟨t, ht, rfl⟩ := List.mem_map.mp hp
      rw [Bool.and_eq_true, decide_eq_true_eq, decide_eq_true_eq] at h2
      obtain ⟨e1, hx⟩ := h2
      have ea : t.1 = s := congrArg (·.1) e1
      have eb : ((t.2.1 : Nat) : Int) = n := congrArg (·.2) e1
      have hat := sent_at_k ((sent_iff ok).mp ht)
      rw [ea, eb] at hat
      refine ⟨t.2.2, hat, hx, ?_⟩
      rw [List.all_eq_true]
      intro q hq
      rw [decide_eq_true_eq]
      intro e
      obtain ⟨g1, s', n', g2, g3⟩ := opens_src ok hq
      rw [e] at g3
      obtain ⟨rfl, rfl⟩ := sent_inj ok hat g3
      exact h1 (openL_mem.mpr ⟨q.2, g1, g2⟩)
theorem okTo_iff {nodes : List Str} {es : List Ev} : ∀ {k : Nat}, k ≤ es.length → (OkTo nodes es k ↔ okFrom nodes [] [] (es.take k) = true)
  | 0, _ => ⟨fun _ => rfl, fun _ i hi => absurd hi (Nat.not_lt_zero _)⟩
  | k + 1, hk => by
    have ih := @okTo_iff nodes es k (by omega)
    obtain ⟨e, he⟩ : ∃ e, es[k]? = some e := ⟨_, List.getElem?_eq_getElem (by omega)⟩
    obtain ⟨f1, f2⟩ := @fold_sent nodes es k (by omega)
    rw [take_snoc he, okFrom_app, f1, f2, Bool.and_eq_true, ← ih]
    show _ ↔ _ ∧ (stepOk nodes (sentL nodes es k) (openL es k) e && true) = true
    rw [Bool.and_true]
    constructor
    · intro ok
      have ok' : OkTo nodes es k := fun i hi => ok i (by omega)
      exact ⟨ok', (evOk_iff ok').mp (ok k (by omega) e he)⟩
    · rintro ⟨ok', h⟩
      exact ok'.succ he ((evOk_iff ok').mpr h)
theorem runOk_iff {nodes : List Str} {es : List Ev} : RunOk nodes es ↔ okFrom nodes [] [] es = true := by
  have := @okTo_iff nodes es es.length (Nat.le_refl _)
  rwa [List.take_length] at this
/-- a run without one open is a run -/
theorem runOk_less {nodes : List Str} {as bs : List Ev} {x s : Str} {n : Int} (h : RunOk nodes (as ++ .opn x s n :: bs)) : RunOk nodes (as ++ bs) := by
  rw [runOk_iff, okFrom_app, Bool.and_eq_true] at h ⊢
  refine ⟨h.1, ?_⟩
  have h2 : (stepOk nodes (as.foldl stepS []) (as.foldl stepO []) (.opn x s n) && okFrom nodes (as.foldl stepS []) ((as.foldl stepO []) ++ [((s, n), x)]) bs) = true := h.2
  rw [Bool.and_eq_true] at h2
  exact okFrom_sub (fun p hp => List.mem_append_left _ hp) h2.2
/-- a run's beginning is a run -/
theorem runOk_take {nodes : List Str} {es : List Ev} (h : RunOk nodes es) (k : Nat) : RunOk nodes (es.take k) := by
  rw [runOk_iff] at h ⊢
  rw [← List.take_append_drop k es, okFrom_app, Bool.and_eq_true] at h
  exact h.1
/-- neighbours of different nodes exchanged -/
theorem runOk_swap {nodes : List Str} {as bs : List Ev} {a b : Ev} (hne : a.node' ≠ b.node') (h : RunOk nodes (as ++ a :: b :: bs)) :
    RunOk nodes (as ++ b :: a :: bs) ↔ sameB (as.foldl stepS []) a b = false := by
  rw [runOk_iff, okFrom_app, Bool.and_eq_true] at h
  rw [runOk_iff, okFrom_app, h.1, Bool.true_and, swap_ok (Keyed.fold (s := []) fun p hp => nomatch hp) hne h.2, Bool.not_eq_true']
end KA

set_option Elab.async false
set_option linter.all false
set_option maxRecDepth 100000
set_option maxHeartbeats 4000000
namespace KA
open PySem PySem.Spec PyProof.Rows L2 L2.Dx
/-! runs as data -/
def stD (ss : List Str) : PyData := .list (ss.map .str)
def msD (s : Str) (n : Int) : PyData := .tuple [.str s, .int n]
def runD (es : List Ev) : PyData := .list (es.map evD)
theorem map_str_inj : ∀ {a b : List Str}, a.map PyData.str = b.map PyData.str → a = b
  | [], [], _ => rfl
  | x :: a, y :: b, e => by
    rw [List.map_cons, List.map_cons] at e
    have e1 := PyData.str.inj (List.cons.inj e).1
    rw [e1, map_str_inj (List.cons.inj e).2]
theorem stD_inj {a b : List Str} (e : stD a = stD b) : a = b := map_str_inj (PyData.list.inj e)
theorem evD_inj : ∀ {a b : Ev}, evD a = evD b → a = b
  | .snd x rs, .snd y ts, e => by
    have e1 := PyData.tuple.inj e
    simp only [List.cons.injEq, and_true, true_and] at e1
    rw [PyData.str.inj e1.1, stD_inj e1.2]
  | .opn x s n, .opn y t m, e => by
    have e1 := PyData.tuple.inj e
    simp only [List.cons.injEq, and_true, true_and, msD, PyData.tuple.injEq, PyData.str.injEq, PyData.int.injEq] at e1
    obtain ⟨rfl, rfl, rfl⟩ := e1
    rfl
  | .snd x rs, .opn y t m, e => by
    have e1 := PyData.tuple.inj e
    simp only [List.cons.injEq] at e1
    exact absurd (PyData.str.inj e1.1) (by decide)
  | .opn y t m, .snd x rs, e => by
    have e1 := PyData.tuple.inj e
    simp only [List.cons.injEq] at e1
    exact absurd (PyData.str.inj e1.1) (by decide)
theorem map_ev_inj : ∀ {a b : List Ev}, a.map evD = b.map evD → a = b
  | [], [], _ => rfl
  | x :: a, y :: b, e => by
    rw [List.map_cons, List.map_cons] at e
    rw [evD_inj (List.cons.inj e).1, map_ev_inj (List.cons.inj e).2]
theorem runD_inj {a b : List Ev} (e : runD a = runD b) : a = b := map_ev_inj (PyData.list.inj e)
open Classical in
/-- a function that is known where its argument is an encoding -/
noncomputable def pickF {α : Type} (enc : α → List PyData) (ok : α → Prop) (val : α → PyData) : List PyData → Option PyData := fun ds => if h : ∃ a, ds = enc a ∧ ok a then some (val h.choose) else none
theorem pickF_eq {α : Type} {enc : α → List PyData} {ok : α → Prop} {val : α → PyData} (inj : ∀ a b, enc a = enc b → a = b) {a : α} (h : ok a) : pickF enc ok val (enc a) = some (val a) := by
  unfold pickF
  have h2 : ∃ b, enc a = enc b ∧ ok b := ⟨a, rfl, h⟩
  rw [dif_pos h2, ← inj _ _ h2.choose_spec.1]
theorem pickF_some {α : Type} {enc : α → List PyData} {ok : α → Prop} {val : α → PyData} {ds : List PyData} {d : PyData} (e : pickF enc ok val ds = some d) : ∃ a, ds = enc a ∧ ok a ∧ d = val a := by
  unfold pickF at e
  split at e
  · rename_i h
    cases e
    exact ⟨_, h.choose_spec.1, h.choose_spec.2, rfl⟩
  · cases e
/-! what stands at data -/
section
variable {K : PySem.W.Frag} {H H' : Hp}
theorem at_strs : ∀ {ss : List Str} {vs : List V}, Vs.AtAll K H vs (ss.map .str) → vs = ss.map V.str
  | [], _, .nil => rfl
  | x :: ss, _, .cons h t => by
    cases h
    rw [at_strs t]
    rfl
theorem at_stD {ss : List Str} {v : V} (h : Vs.At K H v (stD ss)) : ∃ a, v = .ref a ∧ H a = some (.lst (ss.map V.str)) := by
  cases h with
  | lst hs ha =>
    rename_i a xs
    rw [at_strs ha] at hs
    exact ⟨a, rfl, hs⟩
theorem stD_at : ∀ {ss : List Str}, Vs.AtAll K H (ss.map V.str) (ss.map .str)
  | [] => .nil
  | x :: ss => .cons (.str x) stD_at
theorem at_stD' {ss : List Str} {a : Addr} (h : H a = some (.lst (ss.map V.str))) : Vs.At K H (.ref a) (stD ss) := .lst h stD_at
theorem at_msD {s : Str} {n : Int} {v : V} (h : Vs.At K H v (msD s n)) : ∃ a, v = .ref a ∧ H a = some (.tup [.str s, .int n]) := by
  cases h with
  | tup hs ha =>
    cases ha with
    | cons h1 ha =>
    cases ha with
    | cons h2 ha =>
    cases ha
    cases h1
    cases h2
    exact ⟨_, rfl, hs⟩
theorem at_evD {e : Ev} {v : V} (h : Vs.At K H v (evD e)) : ∃ a, v = .ref a ∧ EvAt H a e := by
  cases e with
  | snd x rs =>
    cases h with
    | tup hs ha =>
      cases ha with
      | cons h1 ha =>
      cases ha with
      | cons h2 ha =>
      cases ha with
      | cons h3 ha =>
      cases ha
      cases h1
      cases h2
      obtain ⟨l, rfl, hl⟩ := at_stD h3
      exact ⟨_, rfl, l, hs, hl⟩
  | opn x s n =>
    cases h with
    | tup hs ha =>
      cases ha with
      | cons h1 ha =>
      cases ha with
      | cons h2 ha =>
      cases ha with
      | cons h3 ha =>
      cases ha
      cases h1
      cases h2
      obtain ⟨l, rfl, hl⟩ := at_msD h3
      exact ⟨_, rfl, l, hs, hl⟩
theorem evD_at {e : Ev} {a : Addr} (h : EvAt H a e) : Vs.At K H (.ref a) (evD e) := by
  cases e with
  | snd x rs => obtain ⟨l, h1, h2⟩ := h; exact .tup h1 (.cons (.str _) (.cons (.str _) (.cons (at_stD' h2) .nil)))
  | opn x s n => obtain ⟨l, h1, h2⟩ := h; exact .tup h1 (.cons (.str _) (.cons (.str _) (.cons (.tup h2 (.cons (.str _) (.cons (.int _) .nil))) .nil)))
theorem at_evs : ∀ {es : List Ev} {vs : List V}, Vs.AtAll K H vs (es.map evD) → ∃ as : List Addr, vs = as.map V.ref ∧ as.length = es.length ∧ ∀ (i : Nat) (a : Addr) (e : Ev), as[i]? = some a → es[i]? = some e → EvAt H a e
  | [], _, .nil => ⟨[], rfl, rfl, fun i a e z => by simp at z⟩
  | e :: es, _, .cons h t => by
    obtain ⟨a, rfl, ha⟩ := at_evD h
    obtain ⟨as, rfl, hl, h2⟩ := at_evs t
    refine ⟨a :: as, rfl, by simp [hl], fun i b u z1 z2 => ?_⟩
    cases i with
    | zero => cases z1; cases z2; exact ha
    | succ i => exact h2 i b u (by simpa using z1) (by simpa using z2)
theorem at_runD {es : List Ev} {v : V} (h : Vs.At K H v (runD es)) : ∃ r as, v = .ref r ∧ RunAt H r as es := by
  cases h with
  | lst hs ha =>
    obtain ⟨as, rfl, hl, h2⟩ := at_evs ha
    exact ⟨_, as, rfl, hs, hl, h2⟩
theorem evs_at : ∀ {as : List Addr} {es : List Ev}, as.length = es.length → (∀ (i : Nat) (a : Addr) (e : Ev), as[i]? = some a → es[i]? = some e → EvAt H a e) → Vs.AtAll K H (as.map V.ref) (es.map evD)
  | [], [], _, _ => .nil
  | [], e :: es, l, _ => by cases l
  | a :: as, [], l, _ => by cases l
  | a :: as, e :: es, l, h => .cons (evD_at (h 0 a e rfl rfl)) (evs_at (by simpa using l) fun i b u z1 z2 => h (i + 1) b u (by simpa using z1) (by simpa using z2))
theorem runD_at {r : Addr} {as : List Addr} {es : List Ev} (h : RunAt H r as es) : Vs.At K H (.ref r) (runD es) := .lst h.at' (evs_at h.len h.ev)
end
theorem _root_.L2.FnOk.weak {P : Program} {w : World} {K : PySem.W.Frag} {mg : Str → Option Value} {base : Heap} {CX : CXT} {k : Nat} {f : Addr} {fd : FuncData} {ps : List Str} {sp sp2 : Sp} (F : FnOk P w K mg base CX k f fd ps sp)
    (h : ∀ vs H Q E, sp2 vs H Q E → sp vs H Q E) : FnOk P w K mg base CX k f fd ps sp2 :=
  ⟨fun vs H Q E z => F.len vs H Q E (h _ _ _ _ z), fun A outer s H args us vs Q E r e b v z => F.run A outer s H args us vs Q E r e b v (h _ _ _ _ z)⟩
/-! the functions of the program -/
structure RArg where
  nodes : List Str
  es : List Ev
structure RArg.Ok (a : RArg) : Prop where
  ok : NodesOk a.nodes
  len : a.es.length ≤ 1000
  tx : TextsOk a.es
def RArg.enc (a : RArg) : List PyData := [stD a.nodes, runD a.es]
theorem RArg.inj (a b : RArg) (e : a.enc = b.enc) : a = b := by
  obtain ⟨n, es⟩ := a
  obtain ⟨m, fs⟩ := b
  unfold RArg.enc at e
  simp only [List.cons.injEq, and_true] at e
  rw [stD_inj e.1, runD_inj e.2]
def runV (a : RArg) : PyData := .bool (okFrom a.nodes [] [] a.es)
noncomputable def F_is_run : List PyData → Option PyData := pickF RArg.enc RArg.Ok runV
/-- the places of a run -/
def RArg.at (a : RArg) : Rs := Rs.upto a.nodes a.es a.es.length
def msgsV (a : RArg) : PyData := .dict ((allMsgs a.nodes a.at.sends).map fun t => (PyData.tuple ((keyOf t).map kD), stD (recvAt a.es t.2.2)))
noncomputable def F_messages_of : List PyData → Option PyData := pickF RArg.enc (fun a => a.Ok ∧ RunOk a.nodes a.es) msgsV
structure MArg where
  r : RArg
  s : Str
  n : Int
def MArg.enc (a : MArg) : List PyData := a.r.enc ++ [msD a.s a.n]
def MArg.Ok (a : MArg) : Prop := a.r.Ok ∧ RunOk a.r.nodes a.r.es ∧ ∃ j, sentAt a.r.at a.r.nodes a.s a.n = some j
def sentV (a : MArg) : PyData := .int (((sentAt a.r.at a.r.nodes a.s a.n).getD 0 : Nat) : Int)
theorem MArg.inj (a b : MArg) (e : a.enc = b.enc) : a = b := by
  obtain ⟨⟨n, es⟩, s, i⟩ := a
  obtain ⟨⟨m, fs⟩, t, j⟩ := b
  unfold MArg.enc RArg.enc msD at e
  simp only [List.cons_append, List.nil_append, List.cons.injEq, and_true, PyData.tuple.injEq, PyData.str.injEq, PyData.int.injEq] at e
  obtain ⟨e1, e2, rfl, rfl⟩ := e
  rw [stD_inj e1, runD_inj e2]
noncomputable def F_send_index : List PyData → Option PyData := pickF MArg.enc MArg.Ok sentV
structure OArg where
  m : MArg
  x : Str
def OArg.enc (a : OArg) : List PyData := a.m.enc ++ [.str a.x]
def OArg.Ok (a : OArg) : Prop := a.m.Ok ∧ a.x ∈ a.m.r.nodes
def iD : V → PyData
  | .int i => .int i
  | _ => .none
def OArg.v (a : OArg) : V := (valV (ops (a.m.r.at.opens a.x)) (.inl (((sentAt a.m.r.at a.m.r.nodes a.m.s a.m.n).getD 0 : Nat) : Int))).getD .non
def openV (a : OArg) : PyData := iD a.v
theorem OArg.inj (a b : OArg) (e : a.enc = b.enc) : a = b := by
  obtain ⟨⟨⟨n, es⟩, s, i⟩, x⟩ := a
  obtain ⟨⟨⟨m, fs⟩, t, j⟩, y⟩ := b
  unfold OArg.enc MArg.enc RArg.enc msD at e
  simp only [List.cons_append, List.nil_append, List.cons.injEq, and_true, PyData.tuple.injEq, PyData.str.injEq, PyData.int.injEq] at e
  obtain ⟨e1, e2, ⟨rfl, rfl⟩, rfl⟩ := e
  rw [stD_inj e1, runD_inj e2]
noncomputable def F_open_index : List PyData → Option PyData := pickF OArg.enc OArg.Ok openV
theorem iD_at {K : PySem.W.Frag} {H : Hp} {l : List (Nat × Nat)} {k : Key} : Vs.At K H ((valV (ops l) k).getD .non) (iD ((valV (ops l) k).getD .non)) := by
  cases e : valV (ops l) k with
  | none => exact .non
  | some v =>
    obtain ⟨p, hp, rfl⟩ : ∃ p ∈ ops l, p.2 = v := by
      have : ∀ {kvs : List (Key × V)}, valV kvs k = some v → ∃ p ∈ kvs, p.2 = v := by
        intro kvs
        induction kvs with
        | nil => intro z; cases z
        | cons q r ih =>
          intro z
          by_cases c : q.1 = k
          · obtain ⟨a, b⟩ := q
            subst c
            have : valV ((a, b) :: r) a = some b := by unfold valV; simp
            rw [this] at z
            cases z
            exact ⟨_, List.mem_cons_self, rfl⟩
          · obtain ⟨a, b⟩ := q
            rw [valV_neg c] at z
            obtain ⟨p, h1, h2⟩ := ih z
            exact ⟨p, List.mem_cons_of_mem _ h1, h2⟩
      exact this e
    obtain ⟨q, hq, rfl⟩ := List.mem_map.mp hp
    exact .int _
section
variable {P : Program} {w : World} {K : PySem.W.Frag} {mg : Str → Option Value} {base : Heap}
theorem given_of {H : Hp} {A : Vs.Ads} {a : RArg} (h : a.Ok) {vs : List V} (ha : Vs.AtAll K (Vs.Hm H A) vs a.enc) : ∃ N R as, vs = [.ref N, .ref R] ∧ Given H N R a.nodes as a.es := by
  cases ha with
  | cons h1 ha =>
  cases ha with
  | cons h2 ha =>
  cases ha
  obtain ⟨N, rfl, hN⟩ := at_stD h1
  obtain ⟨R, as, rfl, hR⟩ := at_runD h2
  exact ⟨N, R, as, rfl, Vs.hm_sub _ _ _ _ hN, h.ok, hR.same (Vs.hm_sub _ _), h.len, h.tx⟩
theorem okv_is_run (T : Txt K mg) : FnOk P w K mg base CX0 3 T.f_is_run T.fd_is_run ["nodes", "value"] (Vs.pureS K 2 F_is_run) :=
  (ok_is_run T).weak fun vs H Q E z => by
    obtain ⟨ds, d, A, ha, _, _, e, q⟩ := z
    obtain ⟨a, rfl, hok, rfl⟩ := pickF_some e
    obtain ⟨N, R, as, rfl, G⟩ := given_of hok ha
    refine ⟨N, R, _, as, _, rfl, G, fun z H' s => q _ _ s ?_, fun z H' s => q _ _ s ?_⟩
    · unfold runV
      rw [runOk_iff.mp z]
      exact .bl _
    · unfold runV
      rw [show okFrom a.nodes [] [] a.es = false from Bool.eq_false_iff.mpr fun y => z (runOk_iff.mpr y)]
      exact .bl _
theorem zip_map_map {α β γ : Type} {f : α → β} {g : α → γ} : ∀ {l : List α}, (l.map f).zip (l.map g) = l.map fun x => (f x, g x)
  | [] => rfl
  | x :: l => by rw [List.map_cons, List.map_cons, List.zip_cons_cons, zip_map_map, List.map_cons]
theorem okv_messages_of (T : Txt K mg) : FnOk P w K mg base CX0 4 T.f_messages_of T.fd_messages_of ["nodes", "run"] (Vs.pureS K 2 F_messages_of) :=
  (ok_messages_of T).weak fun vs H Q E z => by
    obtain ⟨ds, d, A, ha, hA, _, e, q⟩ := z
    obtain ⟨a, rfl, ⟨hok, ok⟩, rfl⟩ := pickF_some e
    obtain ⟨N, R, as, rfl, G⟩ := given_of hok ha
    refine ⟨N, R, _, as, _, rfl, G, ok, fun H' D h s hD M => q _ _ s ?_⟩
    have nA : ∀ b, H b = none → ¬ A b := fun b e z => (hA b z).elim fun o w => by rw [e] at w; cases w.1
    have at' := M.at'
    unfold msgsV
    have e1 : ((allMsgs a.nodes a.at.sends).map fun t => (PyData.tuple ((keyOf t).map kD), stD (recvAt a.es t.2.2))) = (((allMsgs a.nodes a.at.sends).map keyOf).map fun k => PyData.tuple (k.map kD)).zip ((allMsgs a.nodes a.at.sends).map fun t => stD (recvAt a.es t.2.2)) := by
      rw [List.map_map, zip_map_map]
      rfl
    rw [e1]
    refine .dt (vs := (allMsgs a.nodes a.at.sends).map fun t => V.ref (h t)) (.inl ?_) (by simp) ?_
    · rw [Vs.hm_in (nA D hD), zip_map_map]
      exact at'
    · have : ∀ L : List Msg, (∀ t ∈ L, t ∈ allMsgs a.nodes a.at.sends) → Vs.AtAll K (Vs.Hm H' A) (L.map fun t => V.ref (h t)) (L.map fun t => stD (recvAt a.es t.2.2)) := by
        intro L
        induction L with
        | nil => exact fun _ => .nil
        | cons t L ih => 
          intro hL
          obtain ⟨m1, m2, _⟩ := M.own t (hL t List.mem_cons_self)
          exact .cons (at_stD' (by rw [Vs.hm_in (nA _ m2)]; exact m1)) (ih fun u hu => hL u (List.mem_cons_of_mem _ hu))
      exact this _ fun t ht => ht
theorem at_append {H : Hp} : ∀ {ds es : List PyData} {vs : List V}, Vs.AtAll K H vs (ds ++ es) → ∃ us ws, vs = us ++ ws ∧ Vs.AtAll K H us ds ∧ Vs.AtAll K H ws es
  | [], _, vs, h => ⟨[], vs, rfl, .nil, h⟩
  | d :: ds, es, _, .cons h t => by
    obtain ⟨us, ws, rfl, h1, h2⟩ := at_append t
    exact ⟨_ :: us, ws, rfl, .cons h h1, h2⟩
theorem okv_send_index (T : Txt K mg) : FnOk P w K mg base CX0 4 T.f_send_index T.fd_send_index ["nodes", "run", "message"] (Vs.pureS K 3 F_send_index) :=
  (ok_send_index T).weak fun vs H Q E z => by
    obtain ⟨ds, d, A, ha, hA, _, e, q⟩ := z
    obtain ⟨a, rfl, ⟨hok, ok, j, hj⟩, rfl⟩ := pickF_some e
    obtain ⟨us, ws, rfl, h1, h2⟩ := at_append ha
    obtain ⟨N, R, as, rfl, G⟩ := given_of hok h1
    cases h2 with
    | cons h2 h3 =>
    cases h3
    obtain ⟨m, rfl, hm⟩ := at_msD h2
    refine ⟨N, R, m, _, as, _, _, _, j, rfl, G, ok, Vs.hm_sub _ _ _ _ hm, hj, fun H' s => q _ _ s ?_⟩
    unfold sentV
    rw [hj]
    exact .int _
theorem okv_open_index (T : Txt K mg) : FnOk P w K mg base CX0 4 T.f_open_index T.fd_open_index ["nodes", "run", "message", "node"] (Vs.pureS K 4 F_open_index) :=
  (ok_open_index T).weak fun vs H Q E z => by
    obtain ⟨ds, d, A, ha, hA, _, e, q⟩ := z
    obtain ⟨a, rfl, ⟨⟨hok, ok, j, hj⟩, hx⟩, rfl⟩ := pickF_some e
    obtain ⟨us, ws, rfl, h1, h2⟩ := at_append ha
    obtain ⟨us, ws2, rfl, h1, h3⟩ := at_append h1
    obtain ⟨N, R, as, rfl, G⟩ := given_of hok h1
    cases h2 with
    | cons h2 h4 =>
    cases h4
    cases h2
    cases h3 with
    | cons h2 h4 =>
    cases h4
    obtain ⟨m, rfl, hm⟩ := at_msD h2
    refine ⟨N, R, m, _, as, _, _, _, _, j, rfl, G, ok, Vs.hm_sub _ _ _ _ hm, hj, hx, fun H' s => q _ _ s ?_⟩
    unfold openV OArg.v
    rw [hj]
    exact iD_at
end
end KA

set_option Elab.async false
set_option linter.all false
set_option maxRecDepth 100000
set_option maxHeartbeats 16000000
namespace KA
open PySem PySem.Spec PyProof.Rows L2 L2.Dx
noncomputable section
variable {P : Program} {w : World} {K : PySem.W.Frag} {mg : Str → Option Value} {base : Heap}
def G__law_renamed : Vs.GS :=
  (Vs.gSeq (Vs.gAsgL 2 (Vs.gLst Vs.gNil))
  (Vs.gSeq (Vs.gFor (Vs.gItL (Vs.gV 0)) (Vs.gTg 3 (Vs.gsCons (Vs.gSet 3) (Vs.gsCons (Vs.gSet 4) (Vs.gsCons (Vs.gSet 5) Vs.gsNil))))
    (Vs.gIfS (Vs.gVal (Vs.g2 Vs.eqD (Vs.gV 3) (Vs.gC (.str "send"))))
      (Vs.gApp 2 (Vs.gTup (Vs.gCons (Vs.gV 3) (Vs.gCons (Vs.gDget (Vs.gV 1) (Vs.gV 4)) (Vs.gCons (Vs.gF (Vs.gLc (Vs.gItL (Vs.gV 5)) Vs.gYes (Vs.gDget (Vs.gV 1) (Vs.gV 6)) (Vs.gSet 6) [6])) Vs.gNil)))))
      (Vs.gApp 2 (Vs.gTup (Vs.gCons (Vs.gV 3) (Vs.gCons (Vs.gDget (Vs.gV 1) (Vs.gV 4)) (Vs.gCons (Vs.gTup (Vs.gCons (Vs.gDget (Vs.gV 1) (Vs.gIx (Vs.gV 5) (Vs.gC (.int 0)))) (Vs.gCons (Vs.gIx (Vs.gV 5) (Vs.gC (.int 1))) Vs.gNil))) Vs.gNil)))))))
  (Vs.gRet (Vs.gV 2))))
def F__law_renamed : List PyData → Option PyData := Vs.retD 2 5 G__law_renamed
theorem okv__law_renamed (T : Txt K mg) : FnOk P w K mg base CX0 1 T.f__law_renamed T.fd__law_renamed ["run", "names"] (Vs.pureS K 2 F__law_renamed) :=
  Vs.fn_vs T.F__law_renamed sc__law_renamed rfl rfl fun cdv A outer s H E hr =>
  (Vs.vss_cons (Vs.vs_setL (Vs.vf_lst Vs.va_nil) (fun h => ps_set (i := 2) sc__law_renamed.nd rfl (by first | exact .inl rfl | exact .inr rfl) h))
  (Vs.vss_cons (Vs.vs_for (Vs.vi_list (Vs.ve_var (pv 0)) (fun h => pi_list h)) (Vs.vg_tup (Vs.vgs_cons (Vs.vg_name (pg_name (i := 3) sc__law_renamed.nd rfl (by first | exact .inl rfl | exact .inr rfl))) (Vs.vgs_cons (Vs.vg_name (pg_name (i := 4) sc__law_renamed.nd rfl (by first | exact .inl rfl | exact .inr rfl))) (Vs.vgs_cons (Vs.vg_name (pg_name (i := 5) sc__law_renamed.nd rfl (by first | exact .inl rfl | exact .inr rfl))) Vs.vgs_nil (fun h k => L2.pgs_cons h k)) (fun h k => L2.pgs_cons h k)) (fun h k => L2.pgs_cons h k)) (fun h => pg_tup rfl h))
    (Vs.vss_one (Vs.vs_if (Vs.vt_cmp (Vs.op_eqX hr.units) Vs.o2_eq (Vs.ve_var (pv 3)) Vs.ve_str (nomark _))
      (Vs.vss_one (Vs.vs_app (Vs.ve_tup (Vs.va_cons (Vs.ve_var (pv 3)) (Vs.va_cons (Vs.ve_dget (Vs.ve_var (pv 1)) (Vs.ve_var (pv 4)) (fun h k => pe_dget (hu_of hr) h k (fun _ _ => rfl))) (Vs.va_cons (Vs.ve_f (Vs.vf_lc (Vs.VI.c (Vs.vi_list (Vs.ve_var (pv 5)) (fun h => pi_list h))) (by decide) (fun h => pe_lc (own := [("one", 6)]) rfl sc__law_renamed.nd h (blkOk_by (N := ["run", "names", "found", "kind", "node", "third", "one"]) (sc := defScope s__law_renamed) (by decide +kernel)) (fun _ _ _ _ _ => (Vs.VG.pg (Vs.vg_name (pg_name (i := 6) sc__law_renamed.nd rfl (by first | exact .inl rfl | exact .inr rfl))))) (fun _ _ _ _ _ => Vs.vts_nil) (fun _ _ _ _ _ => (Vs.VE.pe (Vs.ve_dget (Vs.ve_var (pv 1)) (Vs.ve_var (pv 6)) (fun h k => pe_dget (hu_of hr) h k (fun _ _ => rfl)))))))) Vs.va_nil)))) (fun h => ps_expr (pe_bm PySem.F.plainAttrs_list PySem.F.slot_list_append PySem.F.type_list_append mt_append (pv 2) (pa_cons h pa_nil)))))
      (Vs.vss_one (Vs.vs_app (Vs.ve_tup (Vs.va_cons (Vs.ve_var (pv 3)) (Vs.va_cons (Vs.ve_dget (Vs.ve_var (pv 1)) (Vs.ve_var (pv 4)) (fun h k => pe_dget (hu_of hr) h k (fun _ _ => rfl))) (Vs.va_cons (Vs.ve_tup (Vs.va_cons (Vs.ve_dget (Vs.ve_var (pv 1)) (Vs.ve_ix (Vs.ve_var (pv 5)) Vs.ve_int (fun _ _ => rfl)) (fun h k => pe_dget (hu_of hr) h k (fun _ _ => rfl))) (Vs.va_cons (Vs.ve_ix (Vs.ve_var (pv 5)) Vs.ve_int (fun _ _ => rfl)) Vs.va_nil))) Vs.va_nil)))) (fun h => ps_expr (pe_bm PySem.F.plainAttrs_list PySem.F.slot_list_append PySem.F.type_list_append mt_append (pv 2) (pa_cons h pa_nil)))))))
    (fun h k l => ps_for PassesOwn.never rfl h k l))
  (Vs.vss_one (Vs.vs_ret (Vs.ve_var (pv 2))))))

def G__law_right : Vs.GS :=
  (Vs.gSeq (Vs.gAsg 4 (Vs.gCall F__law_renamed (Vs.gCons (Vs.gV 1) (Vs.gCons (Vs.gV 2) Vs.gNil))))
  (Vs.gSeq (Vs.gIfS (Vs.gNotT (Vs.gVal (Vs.gCall F_is_run (Vs.gCons (Vs.gV 3) (Vs.gCons (Vs.gV 4) Vs.gNil)))))
    (Vs.gRet (Vs.gC (.bool false)))
    Vs.gNx)
  (Vs.gSeq (Vs.gNewT 5 true)
  (Vs.gSeq (Vs.gAsg 6 (Vs.gCall F_messages_of (Vs.gCons (Vs.gV 0) (Vs.gCons (Vs.gV 1) Vs.gNil))))
  (Vs.gSeq (Vs.gForK 6 (Vs.gSet 7)
    (Vs.gSeq (Vs.gAsg 8 (Vs.gTup (Vs.gCons (Vs.gDget (Vs.gV 2) (Vs.gIx (Vs.gV 7) (Vs.gC (.int 0)))) (Vs.gCons (Vs.gIx (Vs.gV 7) (Vs.gC (.int 1))) Vs.gNil))))
    (Vs.gDput 5 (Vs.gV 8) (Vs.gF (Vs.gLc (Vs.gItL (Vs.gDget (Vs.gV 6) (Vs.gV 7))) Vs.gYes (Vs.gDget (Vs.gV 2) (Vs.gV 10)) (Vs.gSet 10) [10])))))
  (Vs.gSeq (Vs.gIfS (Vs.gVal (Vs.g2 (Vs.deqD true) (Vs.gCall F_messages_of (Vs.gCons (Vs.gV 3) (Vs.gCons (Vs.gV 4) Vs.gNil))) (Vs.gV 5)))
    (Vs.gRet (Vs.gC (.bool false)))
    Vs.gNx)
  (Vs.gSeq (Vs.gForK 6 (Vs.gSet 7)
    (Vs.gSeq (Vs.gAsg 8 (Vs.gTup (Vs.gCons (Vs.gDget (Vs.gV 2) (Vs.gIx (Vs.gV 7) (Vs.gC (.int 0)))) (Vs.gCons (Vs.gIx (Vs.gV 7) (Vs.gC (.int 1))) Vs.gNil))))
    (Vs.gSeq (Vs.gIfS (Vs.gVal (Vs.g2 Vs.neD (Vs.gCall F_send_index (Vs.gCons (Vs.gV 3) (Vs.gCons (Vs.gV 4) (Vs.gCons (Vs.gV 8) Vs.gNil)))) (Vs.gCall F_send_index (Vs.gCons (Vs.gV 0) (Vs.gCons (Vs.gV 1) (Vs.gCons (Vs.gV 7) Vs.gNil))))))
      (Vs.gRet (Vs.gC (.bool false)))
      Vs.gNx)
    (Vs.gFor (Vs.gItL (Vs.gV 0)) (Vs.gSet 9)
      (Vs.gIfS (Vs.gVal (Vs.g2 Vs.neD (Vs.gCall F_open_index (Vs.gCons (Vs.gV 3) (Vs.gCons (Vs.gV 4) (Vs.gCons (Vs.gV 8) (Vs.gCons (Vs.gDget (Vs.gV 2) (Vs.gV 9)) Vs.gNil))))) (Vs.gCall F_open_index (Vs.gCons (Vs.gV 0) (Vs.gCons (Vs.gV 1) (Vs.gCons (Vs.gV 7) (Vs.gCons (Vs.gV 9) Vs.gNil)))))))
        (Vs.gRet (Vs.gC (.bool false)))
        Vs.gNx)))))
  (Vs.gRet (Vs.gC (.bool true))))))))))
def F__law_right : List PyData → Option PyData := Vs.retD 4 7 G__law_right
theorem okv__law_right (T : Txt K mg) : FnOk P w K mg base CX0 5 T.f__law_right T.fd__law_right ["nodes", "run", "names", "others"] (Vs.pureS K 4 F__law_right) :=
  Vs.fn_vs T.F__law_right sc__law_right rfl rfl fun cdv A outer s H E hr =>
  (Vs.vss_cons (Vs.vs_set (Vs.ve_call (okv__law_renamed T) (hr.mono (by decide)) (by rfl) T.M__law_renamed T.F__law_renamed.kp (b__law_renamed T) pass0 (Vs.va_cons (Vs.ve_var (pv 1)) (Vs.va_cons (Vs.ve_var (pv 2)) Vs.va_nil)) (Vs.gCons_len (Vs.gCons_len Vs.gNil_len))) (fun h => ps_set (i := 4) sc__law_right.nd rfl (by first | exact .inl rfl | exact .inr rfl) h))
  (Vs.vss_cons (Vs.vs_if (Vs.vt_not (Vs.vt_val (Vs.ve_call (okv_is_run T) (hr.mono (by decide)) (by rfl) T.M_is_run T.F_is_run.kp (b_is_run T) pass0 (Vs.va_cons (Vs.ve_var (pv 3)) (Vs.va_cons (Vs.ve_var (pv 4)) Vs.va_nil)) (Vs.gCons_len (Vs.gCons_len Vs.gNil_len)))))
    (Vs.vss_one (Vs.vs_ret Vs.ve_bl))
    Vs.vss_nil)
  (Vs.vss_cons (Vs.vs_newT (ps_set (i := 5) sc__law_right.nd rfl (by first | exact .inl rfl | exact .inr rfl) pe_dnewT))
  (Vs.vss_cons (Vs.vs_set (Vs.ve_call (okv_messages_of T) (hr.mono (by decide)) (by rfl) T.M_messages_of T.F_messages_of.kp (b_messages_of T) pass0 (Vs.va_cons (Vs.ve_var (pv 0)) (Vs.va_cons (Vs.ve_var (pv 1)) Vs.va_nil)) (Vs.gCons_len (Vs.gCons_len Vs.gNil_len))) (fun h => ps_set (i := 6) sc__law_right.nd rfl (by first | exact .inl rfl | exact .inr rfl) h))
  (Vs.vss_cons (Vs.vs_forK (i := 6) (pv 6) (Vs.vg_name (pg_name (i := 7) sc__law_right.nd rfl (by first | exact .inl rfl | exact .inr rfl)))
    (Vs.vss_cons (Vs.vs_set (Vs.ve_tup (Vs.va_cons (Vs.ve_dget (Vs.ve_var (pv 2)) (Vs.ve_ix (Vs.ve_var (pv 7)) Vs.ve_int (fun _ _ => rfl)) (fun h k => pe_dget (hu_of hr) h k (fun _ _ => rfl))) (Vs.va_cons (Vs.ve_ix (Vs.ve_var (pv 7)) Vs.ve_int (fun _ _ => rfl)) Vs.va_nil))) (fun h => ps_set (i := 8) sc__law_right.nd rfl (by first | exact .inl rfl | exact .inr rfl) h))
    (Vs.vss_one (Vs.vs_dput (i := 5) (Vs.ve_var (pv 8)) (Vs.ve_f (Vs.vf_lc (Vs.VI.c (Vs.vi_list (Vs.ve_dget (Vs.ve_var (pv 6)) (Vs.ve_var (pv 7)) (fun h k => pe_dget (hu_of hr) h k (fun _ _ => rfl))) (fun h => pi_list h))) (by decide) (fun h => pe_lc (own := [("one", 10)]) rfl sc__law_right.nd h (blkOk_by (N := ["nodes", "run", "names", "others", "mate", "due", "whole", "message", "other", "node", "one"]) (sc := defScope s__law_right) (by decide +kernel)) (fun _ _ _ _ _ => (Vs.VG.pg (Vs.vg_name (pg_name (i := 10) sc__law_right.nd rfl (by first | exact .inl rfl | exact .inr rfl))))) (fun _ _ _ _ _ => Vs.vts_nil) (fun _ _ _ _ _ => (Vs.VE.pe (Vs.ve_dget (Vs.ve_var (pv 2)) (Vs.ve_var (pv 10)) (fun h k => pe_dget (hu_of hr) h k (fun _ _ => rfl)))))))) (fun h k => ps_dput (hu_of hr) (pv 5) h k rfl))))
    (fun h k l => ps_for PassesOwn.never rfl h k l))
  (Vs.vss_cons (Vs.vs_if (Vs.vt_cmp (Vs.op_dne hr.units) Vs.o2_deq (Vs.ve_call (okv_messages_of T) (hr.mono (by decide)) (by rfl) T.M_messages_of T.F_messages_of.kp (b_messages_of T) pass0 (Vs.va_cons (Vs.ve_var (pv 3)) (Vs.va_cons (Vs.ve_var (pv 4)) Vs.va_nil)) (Vs.gCons_len (Vs.gCons_len Vs.gNil_len))) (Vs.ve_var (pv 5)) (nomark _))
    (Vs.vss_one (Vs.vs_ret Vs.ve_bl))
    Vs.vss_nil)
  (Vs.vss_cons (Vs.vs_forK (i := 6) (pv 6) (Vs.vg_name (pg_name (i := 7) sc__law_right.nd rfl (by first | exact .inl rfl | exact .inr rfl)))
    (Vs.vss_cons (Vs.vs_set (Vs.ve_tup (Vs.va_cons (Vs.ve_dget (Vs.ve_var (pv 2)) (Vs.ve_ix (Vs.ve_var (pv 7)) Vs.ve_int (fun _ _ => rfl)) (fun h k => pe_dget (hu_of hr) h k (fun _ _ => rfl))) (Vs.va_cons (Vs.ve_ix (Vs.ve_var (pv 7)) Vs.ve_int (fun _ _ => rfl)) Vs.va_nil))) (fun h => ps_set (i := 8) sc__law_right.nd rfl (by first | exact .inl rfl | exact .inr rfl) h))
    (Vs.vss_cons (Vs.vs_if (Vs.vt_cmp (Vs.op_neX hr.units) Vs.o2_ne (Vs.ve_call (okv_send_index T) (hr.mono (by decide)) (by rfl) T.M_send_index T.F_send_index.kp (b_send_index T) pass0 (Vs.va_cons (Vs.ve_var (pv 3)) (Vs.va_cons (Vs.ve_var (pv 4)) (Vs.va_cons (Vs.ve_var (pv 8)) Vs.va_nil))) (Vs.gCons_len (Vs.gCons_len (Vs.gCons_len Vs.gNil_len)))) (Vs.ve_call (okv_send_index T) (hr.mono (by decide)) (by rfl) T.M_send_index T.F_send_index.kp (b_send_index T) pass0 (Vs.va_cons (Vs.ve_var (pv 0)) (Vs.va_cons (Vs.ve_var (pv 1)) (Vs.va_cons (Vs.ve_var (pv 7)) Vs.va_nil))) (Vs.gCons_len (Vs.gCons_len (Vs.gCons_len Vs.gNil_len)))) (nomark _))
      (Vs.vss_one (Vs.vs_ret Vs.ve_bl))
      Vs.vss_nil)
    (Vs.vss_one (Vs.vs_for (Vs.vi_list (Vs.ve_var (pv 0)) (fun h => pi_list h)) (Vs.vg_name (pg_name (i := 9) sc__law_right.nd rfl (by first | exact .inl rfl | exact .inr rfl)))
      (Vs.vss_one (Vs.vs_if (Vs.vt_cmp (Vs.op_neX hr.units) Vs.o2_ne (Vs.ve_call (okv_open_index T) (hr.mono (by decide)) (by rfl) T.M_open_index T.F_open_index.kp (b_open_index T) pass0 (Vs.va_cons (Vs.ve_var (pv 3)) (Vs.va_cons (Vs.ve_var (pv 4)) (Vs.va_cons (Vs.ve_var (pv 8)) (Vs.va_cons (Vs.ve_dget (Vs.ve_var (pv 2)) (Vs.ve_var (pv 9)) (fun h k => pe_dget (hu_of hr) h k (fun _ _ => rfl))) Vs.va_nil)))) (Vs.gCons_len (Vs.gCons_len (Vs.gCons_len (Vs.gCons_len Vs.gNil_len))))) (Vs.ve_call (okv_open_index T) (hr.mono (by decide)) (by rfl) T.M_open_index T.F_open_index.kp (b_open_index T) pass0 (Vs.va_cons (Vs.ve_var (pv 0)) (Vs.va_cons (Vs.ve_var (pv 1)) (Vs.va_cons (Vs.ve_var (pv 7)) (Vs.va_cons (Vs.ve_var (pv 9)) Vs.va_nil)))) (Vs.gCons_len (Vs.gCons_len (Vs.gCons_len (Vs.gCons_len Vs.gNil_len))))) (nomark _))
        (Vs.vss_one (Vs.vs_ret Vs.ve_bl))
        Vs.vss_nil))
      (fun h k l => ps_for PassesOwn.never rfl h k l)))))
    (fun h k l => ps_for PassesOwn.never rfl h k l))
  (Vs.vss_one (Vs.vs_ret Vs.ve_bl)))))))))

end
end KA

set_option Elab.async false
set_option linter.all false
set_option maxRecDepth 100000
set_option maxHeartbeats 4000000
/-! reckoning with the plain functions, step by step -/
namespace L2.Vs
open PySem PySem.Spec PyProof.Rows L2 L2.Dx
theorem atI_nat {xs : List PyData} {i : Nat} : atI xs (i : Int) = xs[i]? := by
  unfold atI ixN
  by_cases h : i < xs.length
  · have : (i : Int) < (xs.length : Int) := by omega
    simp [this]
  · have : ¬ (i : Int) < (xs.length : Int) := by omega
    rw [List.getElem?_eq_none (by omega)]
    simp [this]
theorem ixD_t {xs : List PyData} {i : Nat} : ixD (.tuple xs) (.int (i : Int)) = xs[i]? := atI_nat
theorem ixD_l {xs : List PyData} {i : Nat} : ixD (.list xs) (.int (i : Int)) = xs[i]? := atI_nat
theorem ix0 {a : PyData} {r : List PyData} : ixD (.tuple (a :: r)) (.int 0) = some a := ixD_t (i := 0)
theorem ix1 {a b : PyData} {r : List PyData} : ixD (.tuple (a :: b :: r)) (.int 1) = some b := ixD_t (i := 1)
theorem ix2 {a b c : PyData} {r : List PyData} : ixD (.tuple (a :: b :: c :: r)) (.int 2) = some c := ixD_t (i := 2)
section
variable {g : G} {gs gb a b : GS} {gt : GT} {env e : Env} {o : Out} {gi : GF} {tg : PyData → Env → Option Env} {ds : List PyData}
theorem seq_nx (h : g' env = some (.nx e)) (k : gs e = some o) : gSeq g' gs env = some o := by
  unfold gSeq
  rw [h]
  exact k
theorem seq_rt {d : PyData} {g' : GS} (h : g' env = some (.rt d)) : gSeq g' gs env = some (.rt d) := by
  unfold gSeq
  rw [h]
theorem if_f (h : gt env = some false) (k : b env = some o) : gIfS gt a b env = some o := by
  unfold gIfS
  rw [h]
  exact k
theorem if_t (h : gt env = some true) (k : a env = some o) : gIfS gt a b env = some o := by
  unfold gIfS
  rw [h]
  exact k
theorem asg_nx {i : Nat} {d : PyData} (h : g env = some (d, true)) : gAsg i g env = some (.nx (env.set i (.dat d))) := by
  unfold gAsg
  rw [h]
theorem ret_rt {d : PyData} {b : Bool} (h : g env = some (d, b)) : gRet g env = some (.rt d) := by
  unfold gRet
  rw [h]
theorem g2_eq {f : PyData → PyData → Option PyData} {ga gb : G} {a b c : PyData} {x y : Bool} (ha : ga env = some (a, x)) (hb : gb env = some (b, y)) (hf : f a b = some c) : g2 f ga gb env = some (c, true) := by
  unfold g2
  rw [ha]
  dsimp only
  rw [hb]
  dsimp only
  rw [hf]
  rfl
theorem g1_eq {f : PyData → Option PyData} {ga : G} {a c : PyData} {x : Bool} (ha : ga env = some (a, x)) (hf : f a = some c) : g1 f ga env = some (c, true) := by
  unfold g1
  rw [ha]
  dsimp only
  rw [hf]
  rfl
theorem gF_eq {g : GF} {xs : List PyData} (h : g env = some xs) : gF g env = some (.list xs, true) := by
  unfold gF
  rw [h]
  rfl
theorem val_eq {b c : Bool} (h : g env = some (.bool b, c)) : gVal g env = some b := by
  unfold gVal
  rw [h]
theorem call_eq {f : List PyData → Option PyData} {ga : GA} {ds : List PyData} {d : PyData} {b : Bool} (h : ga env = some (ds, b)) (hf : f ds = some d) : gCall f ga env = some (d, b) := by
  unfold gCall
  rw [h]
  dsimp only
  rw [hf]
  rfl
theorem cons_eq {ga : G} {gr : GA} {ds : List PyData} {d : PyData} {x y : Bool} (h1 : ga env = some (d, x)) (h2 : gr env = some (ds, y)) : gCons ga gr env = some (d :: ds, x && y) := by
  unfold gCons
  rw [h1]
  dsimp only
  rw [h2]
theorem tup_eq {ga : GA} {ds : List PyData} {b : Bool} (h : ga env = some (ds, b)) (hl : ds.length ≤ 1000) : gTup ga env = some (.tuple ds, b) := by
  unfold gTup
  rw [h]
  dsimp only
  rw [if_pos hl]
theorem dget_eq {ga gb : G} {kvs : List (PyData × PyData)} {k d : PyData} {b c : Bool} (h1 : ga env = some (.dict kvs, b)) (h2 : gb env = some (k, c)) (h3 : lookD kvs k = some (some d)) : gDget ga gb env = some (d, b) := by
  unfold gDget
  rw [h1]
  dsimp only
  rw [h2]
  dsimp only
  rw [h3]
theorem itL_eq {xs : List PyData} (h : g env = some (.list xs, true)) : gItL g env = some xs := by
  unfold gItL
  rw [h]
theorem or_f {ga gb : GT} {c : Bool} (h : ga env = some false) (h2 : gb env = some c) : gOrT ga gb env = some c := by
  unfold gOrT
  rw [h]
  exact h2
theorem retD_rt {n m : Nat} {d : PyData} (hl : ds.length = n) (h : gs (ds.map .dat ++ List.replicate m .un) = some (.rt d)) : retD n m gs ds = some d := by
  unfold retD
  rw [if_pos hl, h]
/-- a loop that goes on to its end, or returns what is due -/
theorem loop_end {gb gs : GS} {I : Nat → Env → Prop} {n : Nat} (k : ∀ e, I n e → gs e = some o) : ∀ {ds : List PyData} {j : Nat} {env : Env}, j + ds.length = n → I j env →
    (∀ i d env, ds[i]? = some d → I (j + i) env → ∃ e1, tg d env = some e1 ∧ ((∃ e2, gb e1 = some (.nx e2) ∧ I (j + i + 1) e2) ∨ (∃ x, gb e1 = some (.rt x) ∧ o = .rt x))) →
    (match loopG tg gb ds env with | some (.nx e) => gs e | o => o) = some o
  | [], j, env, hj, h, _ => k env (by rw [← hj]; exact h)
  | d :: ds, j, env, hj, h, st => by
    obtain ⟨e1, h1, h2⟩ := st 0 d env rfl h
    unfold loopG
    rw [h1]
    dsimp only
    rcases h2 with ⟨e2, h2, h3⟩ | ⟨x, h2, h3⟩
    · rw [h2]
      exact loop_end k (ds := ds) (j := j + 1) (env := e2) (by rw [List.length_cons] at hj; omega) h3 fun i d' env' hd hi => by
        have := st (i + 1) d' env' (by simpa using hd) (by rw [show j + (i + 1) = j + 1 + i by omega]; exact hi)
        rw [show j + (i + 1) + 1 = j + 1 + i + 1 by omega] at this
        exact this
    · rw [h2, h3]
theorem for_seq {gb gs : GS} (I : Nat → Env → Prop) (hi : gi env = some ds) (h0 : I 0 env)
    (st : ∀ i d env, ds[i]? = some d → I i env → ∃ e1, tg d env = some e1 ∧ ((∃ e2, gb e1 = some (.nx e2) ∧ I (i + 1) e2) ∨ (∃ x, gb e1 = some (.rt x) ∧ o = .rt x)))
    (k : ∀ e, I ds.length e → gs e = some o) : gSeq (gFor gi tg gb) gs env = some o := by
  have := loop_end (tg := tg) (gb := gb) k (j := 0) (env := env) (Nat.zero_add _) h0 fun i d env hd hI => by
    have := st i d env hd (by simpa using hI)
    simpa using this
  unfold gSeq gFor
  rw [hi]
  exact this
theorem forK_seq {gb gs : GS} {i0 : Nat} {kvs : List (PyData × PyData)} (I : Nat → Env → Prop) (hi : env[i0]? = some (.dat (.dict kvs))) (h0 : I 0 env)
    (st : ∀ i d env, (kvs.map (·.1))[i]? = some d → I i env → ∃ e1, tg d env = some e1 ∧ ((∃ e2, gb e1 = some (.nx e2) ∧ I (i + 1) e2) ∨ (∃ x, gb e1 = some (.rt x) ∧ o = .rt x)))
    (k : ∀ e, I kvs.length e → gs e = some o) : gSeq (gForK i0 tg gb) gs env = some o := by
  have := loop_end (tg := tg) (gb := gb) (n := (kvs.map (·.1)).length) (fun e h => k e (by rw [List.length_map] at h; exact h)) (j := 0) (env := env) (Nat.zero_add _) h0 fun i d env hd hI => by
    have := st i d env hd (by simpa using hI)
    simpa using this
  unfold gSeq gForK
  rw [hi]
  exact this
end
theorem compL_map' {α : Type} {enc : α → PyData} {gt : GT} {ge : G} {tg : PyData → Env → Option Env} {env : Env} {p : α → Bool} {f : α → PyData} : ∀ {l : List α}, (∀ d ∈ l, ∃ e, tg (enc d) env = some e ∧ gt e = some (p d) ∧ (p d = true → ge e = some (f d, true))) →
    compL gt ge tg env (l.map enc) = some ((l.filter p).map f)
  | [], _ => rfl
  | d :: ds, h => by
    obtain ⟨e, h1, h2, h3⟩ := h d List.mem_cons_self
    have ih := compL_map' (p := p) (f := f) (enc := enc) fun x hx => h x (List.mem_cons_of_mem _ hx)
    rw [List.map_cons]
    unfold compL
    rw [h1]
    dsimp only
    rw [h2]
    cases q : p d with
    | false => simp only [q, List.filter_cons]; simpa using ih
    | true => simp only [q, List.filter_cons, h3 q, ih]; simp
theorem lc_eq {α : Type} {enc : α → PyData} {gi : GF} {gt : GT} {ge : G} {tg : PyData → Env → Option Env} {vs : List Nat} {env : Env} {p : α → Bool} {f : α → PyData} {l : List α} (hi : gi env = some (l.map enc)) (hl : l.length ≤ 100000)
    (h : ∀ d ∈ l, ∃ e, tg (enc d) (wipeE env vs) = some e ∧ gt e = some (p d) ∧ (p d = true → ge e = some (f d, true))) : gLc gi gt ge tg vs env = some ((l.filter p).map f) := by
  unfold gLc
  rw [hi]
  dsimp only
  rw [if_pos (by rw [List.length_map]; exact hl)]
  exact compL_map' h
theorem eqD_nil {xs : List PyData} (h : PyData.plainAll xs = true) : eqD (.list xs) (.list []) = some (.bool xs.isEmpty) := by
  unfold eqD
  have h2 : (PyData.list ([] : List PyData)).plain = true := rfl
  have h3 : (PyData.list xs).plain = true := by simpa [PyData.plain] using h
  have h4 : min (PyData.list xs).depth (PyData.list ([] : List PyData)).depth ≤ 60 := Nat.le_trans (Nat.min_le_right _ _) (by simp [PyData.depth, PyData.depthAll])
  rw [if_pos (by simp [h2, h3]; simpa using h4)]
  cases xs <;> rfl
theorem neD_of {a b : PyData} {c : Bool} (h : eqD a b = some (.bool c)) : neD a b = some (.bool (!c)) := by
  unfold eqD at h
  unfold neD
  split at h
  · rename_i z
    rw [if_pos z]
    rw [PyData.bool.inj (Option.some.inj h)]
  · cases h
theorem eqD_ms (s t : Str) (n m : Int) : eqD (.tuple [.str s, .int n]) (.tuple [.str t, .int m]) = some (.bool (decide ((s, n) = (t, m)))) := by
  unfold eqD
  rw [if_pos (by simp [PyData.plain, PyData.plainAll, PyData.depth, PyData.depthAll])]
  congr 2
  simp only [PyData.eqv, PyData.eqvAll]
  by_cases h1 : s = t <;> by_cases h2 : n = m <;> simp [h1, h2]
theorem eqD_ss (s t a b : Str) : eqD (.tuple [.str s, .str a]) (.tuple [.str t, .str b]) = some (.bool (decide ((s, a) = (t, b)))) := by
  unfold eqD
  rw [if_pos (by simp [PyData.plain, PyData.plainAll, PyData.depth, PyData.depthAll])]
  congr 2
  simp only [PyData.eqv, PyData.eqvAll]
  by_cases h1 : s = t <;> by_cases h2 : a = b <;> simp [h1, h2]
theorem cut_take {xs : List PyData} {k : Nat} : cutD xs none (some (k : Int)) = xs.take k := by
  unfold cutD HT.sIx
  dsimp only
  have : ¬ ((k : Int) < 0) := by omega
  rw [if_neg this, List.drop_zero, Int.toNat_natCast, Nat.sub_zero]
  exact (List.take_eq_take_min).symm
theorem cut_drop {xs : List PyData} {k : Nat} : cutD xs (some (k : Int)) none = xs.drop k := by
  unfold cutD HT.sIx
  dsimp only
  have : ¬ ((k : Int) < 0) := by omega
  rw [if_neg this, Int.toNat_natCast]
  by_cases h : k ≤ xs.length
  · rw [Nat.min_eq_left h, List.take_of_length_le (by rw [List.length_drop]; exact Nat.le_refl _)]
  · rw [Nat.min_eq_right (by omega), List.drop_of_length_le (Nat.le_refl _), List.drop_of_length_le (by omega)]
    simp
theorem eqD_int (n m : Int) : eqD (.int n) (.int m) = some (.bool (decide (n = m))) := by
  unfold eqD
  rw [if_pos (by simp [PyData.plain, PyData.depth])]
  congr 2
theorem eqD_bool (n m : Bool) : eqD (.bool n) (.bool m) = some (.bool (n == m)) := by
  unfold eqD
  rw [if_pos (by simp [PyData.plain, PyData.depth])]
  congr 2
end L2.Vs

set_option Elab.async false
set_option linter.all false
set_option maxRecDepth 100000
set_option maxHeartbeats 4000000
namespace KA
open PySem PySem.Spec PyProof.Rows L2 L2.Dx
/-! ### other names -/
structure Ren (ρ : Str → Str) (nodes others : List Str) : Prop where
  inn : ∀ x ∈ nodes, ρ x ∈ others
  mono : ∀ x ∈ nodes, ∀ y ∈ nodes, ltS x y → ltS (ρ x) (ρ y)
def renE (ρ : Str → Str) : Ev → Ev
  | .snd x rs => .snd (ρ x) (rs.map ρ)
  | .opn x s n => .opn (ρ x) (ρ s) n
def renM (ρ : Str → Str) (t : Msg) : Msg := (ρ t.1, t.2.1, t.2.2)
def EvIn (nodes : List Str) : Ev → Prop
  | .snd x rs => x ∈ nodes ∧ ∀ r ∈ rs, r ∈ nodes
  | .opn x s _ => x ∈ nodes ∧ s ∈ nodes
theorem ev_in {nodes : List Str} {es : List Ev} (hn : NodesOk nodes) (ok : RunOk nodes es) {i : Nat} {e : Ev} (he : es[i]? = some e) : EvIn nodes e := by
  have f := ev_facts hn ok he
  cases e with
  | snd x rs => exact ⟨f.1, f.2.1⟩
  | opn x s n => exact ⟨f.1, f.2.1⟩
theorem asc_tri {l : List Str} (h : l.Pairwise ltS) : ∀ x ∈ l, ∀ y ∈ l, x = y ∨ ltS x y ∨ ltS y x := by
  induction l with
  | nil => intro x hx; cases hx
  | cons a l ih =>
    obtain ⟨h1, h2⟩ := List.pairwise_cons.mp h
    intro x hx y hy
    rcases List.mem_cons.mp hx with e1 | gx
    · rcases List.mem_cons.mp hy with e2 | gy
      · exact .inl (e1.trans e2.symm)
      · rw [e1]; exact .inr (.inl (h1 y gy))
    · rcases List.mem_cons.mp hy with e2 | gy
      · rw [e2]; exact .inr (.inr (h1 x gx))
      · exact ih h2 x gx y gy
section
variable {ρ : Str → Str} {nodes others : List Str} {es : List Ev}
theorem Ren.inj (hn : NodesOk nodes) (r : Ren ρ nodes others) : ∀ x ∈ nodes, ∀ y ∈ nodes, ρ x = ρ y → x = y := fun x hx y hy e => by
  rcases asc_tri hn.asc x hx y hy with h | h | h
  · exact h
  · have := r.mono x hx y hy h
    rw [e] at this
    exact absurd this (ltS_irrefl _)
  · have := r.mono y hy x hx h
    rw [e] at this
    exact absurd this (ltS_irrefl _)
theorem ren_get {k : Nat} : (es.map (renE ρ))[k]? = es[k]?.map (renE ρ) := List.getElem?_map ..
theorem ren_recvAt {j : Nat} : recvAt (es.map (renE ρ)) j = (recvAt es j).map ρ := by
  unfold recvAt
  rw [ren_get]
  cases es[j]? with
  | none => rfl
  | some e => cases e <;> rfl
theorem upto_ren (hn : NodesOk nodes) (r : Ren ρ nodes others) (hin : ∀ (i : Nat) (e : Ev), es[i]? = some e → EvIn nodes e) : ∀ k, (∀ x ∈ nodes, (Rs.upto others (es.map (renE ρ)) k).sends (ρ x) = (Rs.upto nodes es k).sends x ∧ (Rs.upto others (es.map (renE ρ)) k).opens (ρ x) = (Rs.upto nodes es k).opens x) ∧
    ∀ y, y ∉ nodes.map ρ → (Rs.upto others (es.map (renE ρ)) k).sends y = []
  | 0 => ⟨fun _ _ => ⟨rfl, rfl⟩, fun _ _ => rfl⟩
  | k + 1 => by
    obtain ⟨ih1, ih2⟩ := upto_ren hn r hin k
    have hm := ren_get (ρ := ρ) (es := es) (k := k)
    cases he : es[k]? with
    | none =>
      rw [he] at hm
      rw [upto_none hm, upto_none he]
      exact ⟨ih1, ih2⟩
    | some e =>
      rw [he] at hm
      rw [upto_succ hm, upto_succ he]
      have hi := hin k e he
      cases e with
      | snd x rs =>
        refine ⟨fun y hy => ⟨?_, (ih1 y hy).2⟩, fun y hy => ?_⟩
        · show (if ρ y = ρ x then (Rs.upto others (es.map (renE ρ)) k).sends (ρ x) ++ [k] else (Rs.upto others (es.map (renE ρ)) k).sends (ρ y)) = (if y = x then (Rs.upto nodes es k).sends x ++ [k] else (Rs.upto nodes es k).sends y)
          by_cases c : y = x
          · rw [if_pos c, if_pos (by rw [c]), (ih1 x hi.1).1]
          · rw [if_neg c, if_neg fun z => c (r.inj hn y hy x hi.1 z), (ih1 y hy).1]
        · show (if y = ρ x then (Rs.upto others (es.map (renE ρ)) k).sends (ρ x) ++ [k] else (Rs.upto others (es.map (renE ρ)) k).sends y) = []
          rw [if_neg fun z => hy (by rw [z]; exact List.mem_map_of_mem hi.1)]
          exact ih2 y hy
      | opn x s n =>
        refine ⟨fun y hy => ⟨(ih1 y hy).1, ?_⟩, fun y hy => ih2 y hy⟩
        have hs : sentAt (Rs.upto others (es.map (renE ρ)) k) others (ρ s) n = sentAt (Rs.upto nodes es k) nodes s n := by
          unfold sentAt
          rw [(ih1 s hi.2).1]
          by_cases c : 0 < n
          · rw [if_pos ⟨r.inn s hi.2, c⟩, if_pos ⟨hi.2, c⟩]
          · rw [if_neg fun z => c z.2, if_neg fun z => c z.2]
        show (if ρ y = ρ x then (Rs.upto others (es.map (renE ρ)) k).opens (ρ x) ++ [((sentAt (Rs.upto others (es.map (renE ρ)) k) others (ρ s) n).getD 0, k)] else (Rs.upto others (es.map (renE ρ)) k).opens (ρ y)) = (if y = x then (Rs.upto nodes es k).opens x ++ [((sentAt (Rs.upto nodes es k) nodes s n).getD 0, k)] else (Rs.upto nodes es k).opens y)
        rw [hs]
        by_cases c : y = x
        · rw [if_pos c, if_pos (by rw [c]), (ih1 x hi.1).2]
        · rw [if_neg c, if_neg fun z => c (r.inj hn y hy x hi.1 z), (ih1 y hy).2]
theorem sentAt_ren (hn : NodesOk nodes) (r : Ren ρ nodes others) (hin : ∀ (i : Nat) (e : Ev), es[i]? = some e → EvIn nodes e) {k : Nat} {s : Str} {n : Int} (hs : s ∈ nodes) : sentAt (Rs.upto others (es.map (renE ρ)) k) others (ρ s) n = sentAt (Rs.upto nodes es k) nodes s n := by
  unfold sentAt
  rw [((upto_ren hn r hin k).1 s hs).1]
  by_cases c : 0 < n
  · rw [if_pos ⟨r.inn s hs, c⟩, if_pos ⟨hs, c⟩]
  · rw [if_neg fun z => c z.2, if_neg fun z => c z.2]
theorem recvB_ren (hn : NodesOk nodes) (ho : NodesOk others) (r : Ren ρ nodes others) {x : Str} {rs : List Str} (hx : x ∈ nodes) (h : recvB nodes x rs = true) : recvB others (ρ x) (rs.map ρ) = true := by
  unfold recvB at h ⊢
  rw [Bool.and_eq_true] at h ⊢
  have hm := recvGo_mem h.2
  refine ⟨?_, recvGo_of (fun y hy => ?_) ?_⟩
  · cases rs with
    | nil => exact absurd h.1 (by decide)
    | cons a l => rfl
  · obtain ⟨a, ha, rfl⟩ := List.mem_map.mp hy
    obtain ⟨h1, h2, h3⟩ := hm a ha
    exact ⟨r.inn a h1, fun z => h2 (r.inj hn a h1 x hx z), empty_lt (ho.nm _ (r.inn a h1))⟩
  · rw [List.pairwise_map]
    exact (recvGo_asc h.2).imp_of_mem fun {a b} ha hb l => r.mono a (hm a ha).1 b (hm b hb).1 l
theorem runOk_ren (hn : NodesOk nodes) (ho : NodesOk others) (r : Ren ρ nodes others) (ok : RunOk nodes es) : RunOk others (es.map (renE ρ)) := by
  intro i hi e he
  rw [List.length_map] at hi
  rw [ren_get] at he
  obtain ⟨e0, h0, rfl⟩ := Option.map_eq_some_iff.mp he
  have hin : ∀ (i : Nat) (e : Ev), es[i]? = some e → EvIn nodes e := fun i e h => ev_in hn ok h
  have hk := ok i hi e0 h0
  have hi2 := hin i e0 h0
  cases e0 with
  | snd x rs => exact ⟨r.inn x hk.1, recvB_ren hn ho r hk.1 hk.2⟩
  | opn x s n =>
    obtain ⟨j, h1, h2, h3⟩ := hk
    refine ⟨j, (sentAt_ren hn r hin hi2.2).trans h1, ?_, ?_⟩
    · show ρ x ∈ recvAt (es.map (renE ρ)) j
      rw [ren_recvAt]
      exact List.mem_map_of_mem h2
    · show ((Rs.upto others (es.map (renE ρ)) i).opens (ρ x)).all _ = true
      rw [((upto_ren hn r hin i).1 x hi2.1).2]
      exact h3
theorem flat_filter {α β : Type} {f : α → List β} {p : α → Bool} : ∀ {l : List α}, (∀ y ∈ l, p y = false → f y = []) → l.flatMap f = (l.filter p).flatMap f
  | [], _ => rfl
  | a :: l, h => by
    rw [List.flatMap_cons, flat_filter (l := l) (p := p) fun y hy => h y (List.mem_cons_of_mem _ hy), List.filter_cons]
    cases c : p a with
    | true => simp
    | false => rw [h a List.mem_cons_self c]; simp
theorem msgs_ren (hn : NodesOk nodes) (ho : NodesOk others) (r : Ren ρ nodes others) (ok : RunOk nodes es) : allMsgs others (Rs.upto others (es.map (renE ρ)) (es.map (renE ρ)).length).sends = (allMsgs nodes (Rs.upto nodes es es.length).sends).map (renM ρ) := by
  have hin : ∀ (i : Nat) (e : Ev), es[i]? = some e → EvIn nodes e := fun i e h => ev_in hn ok h
  rw [List.length_map]
  obtain ⟨u1, u2⟩ := upto_ren hn r hin es.length
  unfold allMsgs
  rw [flat_filter (p := fun y => decide (y ∈ nodes.map ρ)) fun y _ hy => by rw [u2 y (by simpa using hy)]; rfl]
  have e1 : others.filter (fun y => decide (y ∈ nodes.map ρ)) = nodes.map ρ := by
    refine Vs.asc_eq (ho.asc.filter _) ?_ fun y => ?_
    · rw [List.pairwise_map]
      exact hn.asc.imp_of_mem fun {a b} ha hb l => r.mono a ha b hb l
    · rw [List.mem_filter, decide_eq_true_eq]
      refine ⟨fun z => z.2, fun z => ⟨?_, z⟩⟩
      obtain ⟨x, hx, rfl⟩ := List.mem_map.mp z
      exact r.inn x hx
  rw [e1, List.flatMap_map, List.map_flatMap]
  have : ∀ l : List Str, (∀ x ∈ l, x ∈ nodes) → l.flatMap (fun x => msgsOf (ρ x) ((Rs.upto others (es.map (renE ρ)) es.length).sends (ρ x))) = l.flatMap (fun x => (msgsOf x ((Rs.upto nodes es es.length).sends x)).map (renM ρ)) := by
    intro l
    induction l with
    | nil => exact fun _ => rfl
    | cons a l ih =>
      intro h
      rw [List.flatMap_cons, List.flatMap_cons, ih fun x hx => h x (List.mem_cons_of_mem _ hx), (u1 a (h a List.mem_cons_self)).1]
      congr 1
      unfold msgsOf
      rw [List.map_map]
      rfl
  exact this nodes fun _ h => h
theorem opIx_ren (hn : NodesOk nodes) (r : Ren ρ nodes others) (hin : ∀ (i : Nat) (e : Ev), es[i]? = some e → EvIn nodes e) {x s : Str} {n : Int} (hx : x ∈ nodes) (hs : s ∈ nodes) : ∀ k, opIx (es.map (renE ρ)) (ρ x) (ρ s) n k = opIx es x s n k
  | 0 => rfl
  | k + 1 => by
    show opIx (es.map (renE ρ)) (ρ x) (ρ s) n k ++ (match (es.map (renE ρ))[k]? with | some e => if e.isOpn (ρ x) (ρ s) n = true then [k] else [] | none => []) = opIx es x s n k ++ (match es[k]? with | some e => if e.isOpn x s n = true then [k] else [] | none => [])
    rw [opIx_ren hn r hin hx hs k, ren_get]
    cases he : es[k]? with
    | none => rfl
    | some e =>
      have hi := hin k e he
      have : (renE ρ e).isOpn (ρ x) (ρ s) n = e.isOpn x s n := by
        cases e with
        | snd _ _ => rfl
        | opn y t m =>
          have e1 : (ρ y = ρ x) ↔ y = x := ⟨fun z => r.inj hn y hi.1 x hx z, fun z => by rw [z]⟩
          have e2 : (ρ t = ρ s) ↔ t = s := ⟨fun z => r.inj hn t hi.2 s hs z, fun z => by rw [z]⟩
          show (decide (ρ y = ρ x) && (decide (ρ t = ρ s) && decide (m = n))) = (decide (y = x) && (decide (t = s) && decide (m = n)))
          rw [decide_eq_decide.mpr e1, decide_eq_decide.mpr e2]
      show _ ++ (if (renE ρ e).isOpn (ρ x) (ρ s) n = true then [k] else []) = _
      rw [this]
end
end KA

set_option Elab.async false
set_option linter.all false
set_option maxRecDepth 100000
set_option maxHeartbeats 4000000
namespace L2.Vs
open PySem PySem.Spec PyProof.Rows L2 L2.Dx
theorem app_nx {i : Nat} {g : G} {env : Env} {xs : List PyData} {d : PyData} (h : env[i]? = some (.lst xs)) (h2 : g env = some (d, true)) (hl : xs.length ≤ 100000) : gApp i g env = some (.nx (env.set i (.lst (xs ++ [d])))) := by
  unfold gApp
  rw [h]
  dsimp only
  rw [h2]
  dsimp only
  rw [if_pos hl]
theorem dput_nx {i : Nat} {gk gv : G} {env : Env} {t : Bool} {kvs : List (PyData × PyData)} {k v : PyData} {b : Bool} (hv : gv env = some (v, true)) (hk : gk env = some (k, b)) (h : env[i]? = some (.dct t kvs)) (hl : kvs.length ≤ 100000) (ht : tkB k = t) (hs : (keyX k).isSome = true) :
    gDput i gk gv env = some (.nx (env.set i (.dct t (putD kvs k v)))) := by
  unfold gDput
  rw [hv]
  dsimp only
  rw [hk]
  dsimp only
  rw [h]
  dsimp only
  rw [if_pos ⟨hl, ht, hs⟩]
theorem for_nx {gi : GF} {tg : PyData → Env → Option Env} {gb : GS} {env : Env} {ds : List PyData} (I : Nat → Env → Prop) (hi : gi env = some ds) (h0 : I 0 env)
    (st : ∀ i d env, ds[i]? = some d → I i env → ∃ e1, tg d env = some e1 ∧ ∃ e2, gb e1 = some (.nx e2) ∧ I (i + 1) e2) : ∃ e, gFor gi tg gb env = some (.nx e) ∧ I ds.length e := by
  unfold gFor
  rw [hi]
  have : ∀ {ds' : List PyData} {j : Nat} {env : Env}, I j env → (∀ i d env, ds'[i]? = some d → I (j + i) env → ∃ e1, tg d env = some e1 ∧ ∃ e2, gb e1 = some (.nx e2) ∧ I (j + i + 1) e2) → ∃ e, loopG tg gb ds' env = some (.nx e) ∧ I (j + ds'.length) e := by
    intro ds'
    induction ds' with
    | nil => intro j env h _; exact ⟨env, rfl, h⟩
    | cons d ds' ih =>
      intro j env h st
      obtain ⟨e1, h1, e2, h2, h3⟩ := st 0 d env rfl h
      obtain ⟨e, k1, k2⟩ := ih (j := j + 1) (env := e2) h3 fun i d' env' hd hi => by
        have := st (i + 1) d' env' (by simpa using hd) (by rw [show j + (i + 1) = j + 1 + i by omega]; exact hi)
        rw [show j + (i + 1) + 1 = j + 1 + i + 1 by omega] at this
        exact this
      refine ⟨e, ?_, by rw [List.length_cons, show j + (ds'.length + 1) = j + 1 + ds'.length by omega]; exact k2⟩
      unfold loopG
      rw [h1]
      dsimp only
      rw [h2]
      exact k1
  obtain ⟨e, k1, k2⟩ := this (j := 0) h0 fun i d env hd hI => by simpa using st i d env hd (by simpa using hI)
  exact ⟨e, k1, by simpa using k2⟩
end L2.Vs
namespace KA
open PySem PySem.Spec PyProof.Rows L2 L2.Dx
theorem num_nodup : ∀ (l : List Nat) (k : Nat), (numFrom k l).Nodup
  | [], _ => .nil
  | a :: l, k => .cons (fun p hp z => by
      subst z
      have := (numFrom_mem (k := 0) hp).1
      omega) (num_nodup l (k + 1))
theorem msgs_nodup {S : Str → List Nat} : ∀ {nodes : List Str}, nodes.Nodup → (allMsgs nodes S).Nodup
  | [], _ => .nil
  | x :: r, h => by
    obtain ⟨h1, h2⟩ := List.nodup_cons.mp h
    unfold allMsgs
    rw [List.flatMap_cons]
    refine List.nodup_append.mpr ⟨?_, msgs_nodup h2, fun a ha b hb z => ?_⟩
    · unfold msgsOf
      exact List.Pairwise.map _ (fun a b hab z => hab (by
        obtain ⟨a1, a2⟩ := a
        obtain ⟨b1, b2⟩ := b
        simp only [Prod.mk.injEq] at z
        rw [z.2.1, z.2.2])) (num_nodup (S x) 1)
    · subst z
      have e1 := (msgsOf_mem ha).1
      have e2 := (all_mem (nodes := r) hb).1
      rw [e1] at e2
      exact h1 e2
abbrev namesD (ρ : Str → Str) (nodes : List Str) : PyData := .dict (nodes.map fun x => (.str x, .str (ρ x)))
theorem look_names {ρ : Str → Str} {x : Str} : ∀ {nodes : List Str}, x ∈ nodes → Vs.lookD (nodes.map fun x => (PyData.str x, PyData.str (ρ x))) (.str x) = some (some (.str (ρ x))) := by
  intro nodes hx
  unfold Vs.lookD
  have hk : Vs.keyX (.str x) = some (Sum.inl (Sum.inr x)) := rfl
  rw [hk]
  dsimp only
  rw [if_pos (by
    rw [List.all_eq_true]
    intro p hp
    obtain ⟨a, _, rfl⟩ := List.mem_map.mp hp
    rfl)]
  congr 1
  induction nodes with
  | nil => cases hx
  | cons a l ih =>
    rw [List.map_cons, List.find?_cons]
    by_cases c : a = x
    · subst c
      rw [decide_eq_true (by rfl)]
      rfl
    · rw [decide_eq_false (fun z => c (by
        have z : (some (Sum.inl (Sum.inr a)) : Option Vs.KX) = some (Sum.inl (Sum.inr x)) := z
        exact Sum.inr.inj (Sum.inl.inj (Option.some.inj z))))]
      exact ih ((List.mem_cons.mp hx).resolve_left fun z => c z.symm)
theorem F_renamed {ρ : Str → Str} {nodes : List Str} {es : List Ev} (hin : ∀ (i : Nat) (e : Ev), es[i]? = some e → EvIn nodes e) (hl : es.length ≤ 900) (hr : ∀ (i : Nat) (x : Str) (rs : List Str), es[i]? = some (.snd x rs) → rs.length ≤ 100000) :
    F__law_renamed [runD es, namesD ρ nodes] = some (runD (es.map (renE ρ))) := by
  refine Vs.retD_rt rfl ?_
  show G__law_renamed [.dat (runD es), .dat (namesD ρ nodes), .un, .un, .un, .un, .un] = _
  refine Vs.seq_nx (e := [.dat (runD es), .dat (namesD ρ nodes), .lst [], .un, .un, .un, .un]) rfl ?_
  refine Vs.for_seq (ds := es.map evD) (fun i env => ∃ a3 a4 a5 a6, env = [.dat (runD es), .dat (namesD ρ nodes), .lst ((es.take i).map fun e => evD (renE ρ e)), a3, a4, a5, a6]) rfl ⟨_, _, _, _, rfl⟩ (fun i d env hd hI => ?_) (fun e hI => ?_)
  · obtain ⟨a3, a4, a5, a6, rfl⟩ := hI
    rw [List.getElem?_map] at hd
    obtain ⟨e, he, rfl⟩ := Option.map_eq_some_iff.mp hd
    have hi := hin i e he
    have hlen : ((es.take i).map fun e => evD (renE ρ e)).length ≤ 100000 := by simp; omega
    cases e with
    | snd x rs =>
      refine ⟨[.dat (runD es), .dat (namesD ρ nodes), .lst ((es.take i).map fun e => evD (renE ρ e)), .dat (.str "send"), .dat (.str x), .dat (stD rs), a6], rfl, .inl ⟨_, Vs.if_t ((Vs.val_eq (Vs.g2_eq (x := true) (y := true) rfl rfl (Vs.eqD_str _ _))).trans (by simp)) (Vs.app_nx (d := evD (renE ρ (.snd x rs))) rfl ?_ hlen), ⟨.dat (.str "send"), .dat (.str x), .dat (stD rs), a6, ?_⟩⟩⟩
      · refine Vs.tup_eq (b := true) (Vs.cons_eq (x := true) (y := true) rfl (Vs.cons_eq (x := true) (y := true) (Vs.dget_eq rfl rfl (look_names hi.1)) (Vs.cons_eq (x := true) (y := true) (Vs.gF_eq ?_) rfl))) (by simp)
        rw [Vs.lc_eq (enc := PyData.str) (l := rs) (p := fun _ => true) (f := fun x => PyData.str (ρ x)) rfl (hr i x rs he) fun r hr => ⟨_, rfl, rfl, fun _ => Vs.dget_eq rfl rfl (look_names (hi.2 r hr))⟩, List.filter_eq_self.mpr fun _ _ => rfl, List.map_map]
        rfl
      · rw [take_snoc he, List.map_append]
        rfl
    | opn x s n =>
      have k1 : Vs.eqD (.str "open") (.str "send") = some (.bool false) := (Vs.eqD_str "open" "send").trans (by rw [show (("open" : Str) == "send") = false by decide +kernel])
      refine ⟨[.dat (runD es), .dat (namesD ρ nodes), .lst ((es.take i).map fun e => evD (renE ρ e)), .dat (.str "open"), .dat (.str x), .dat (msD s n), a6], rfl, .inl ⟨_, Vs.if_f (Vs.val_eq (Vs.g2_eq (x := true) (y := true) rfl rfl k1)) (Vs.app_nx (d := evD (renE ρ (.opn x s n))) rfl ?_ hlen), ⟨.dat (.str "open"), .dat (.str x), .dat (msD s n), a6, ?_⟩⟩⟩
      · refine Vs.tup_eq (b := true) (Vs.cons_eq (x := true) (y := true) rfl (Vs.cons_eq (x := true) (y := true) (Vs.dget_eq rfl rfl (look_names hi.1)) (Vs.cons_eq (x := true) (y := true) (Vs.tup_eq (b := true) (Vs.cons_eq (x := true) (y := true) (Vs.dget_eq (k := .str s) (c := true) rfl ?_ (look_names hi.2)) (Vs.cons_eq (d := .int n) (x := true) (y := true) ?_ rfl)) (by simp)) rfl))) (by simp)
        · simp [Vs.retD, Vs.gSeq, Vs.gIfS, Vs.gOrT, Vs.gAndT, Vs.gNotT, Vs.gVal, Vs.gTru, Vs.truD, Vs.g1, Vs.g2, Vs.gV, Vs.gC, Vs.gNil, Vs.gCons, Vs.gTup, Vs.gLst, Vs.gF, Vs.gCall, Vs.gAnd, Vs.gOr, Vs.notD, Vs.gIf, Vs.gRet, Vs.gRetN, Vs.gNx, Vs.gAsg, Vs.gAsgL, Vs.gAsgT, Vs.gPar, Vs.gParL, Vs.gApp, Vs.gFor, Vs.gItL, Vs.gItT, Vs.gItS, Vs.gLV, Vs.gIx, Vs.gIxV, Vs.gSet, Vs.gsNil, Vs.gsCons, Vs.gTg, Vs.gLc, Vs.gYes, Vs.wipeE, Vs.gSl, Vs.gNo, Vs.gPart, Vs.gSset, Vs.iiD, Vs.isNonD, Vs.notNonD, Vs.isNoneD, Vs.frz, Vs.ix0, Vs.ix1, Vs.ix2, msD]
        · simp [Vs.retD, Vs.gSeq, Vs.gIfS, Vs.gOrT, Vs.gAndT, Vs.gNotT, Vs.gVal, Vs.gTru, Vs.truD, Vs.g1, Vs.g2, Vs.gV, Vs.gC, Vs.gNil, Vs.gCons, Vs.gTup, Vs.gLst, Vs.gF, Vs.gCall, Vs.gAnd, Vs.gOr, Vs.notD, Vs.gIf, Vs.gRet, Vs.gRetN, Vs.gNx, Vs.gAsg, Vs.gAsgL, Vs.gAsgT, Vs.gPar, Vs.gParL, Vs.gApp, Vs.gFor, Vs.gItL, Vs.gItT, Vs.gItS, Vs.gLV, Vs.gIx, Vs.gIxV, Vs.gSet, Vs.gsNil, Vs.gsCons, Vs.gTg, Vs.gLc, Vs.gYes, Vs.wipeE, Vs.gSl, Vs.gNo, Vs.gPart, Vs.gSset, Vs.iiD, Vs.isNonD, Vs.notNonD, Vs.isNoneD, Vs.frz, Vs.ix0, Vs.ix1, Vs.ix2, msD]
      · rw [take_snoc he, List.map_append]
        rfl
  · obtain ⟨a3, a4, a5, a6, rfl⟩ := hI
    rw [List.length_map, List.take_length]
    refine Vs.ret_rt (b := false) ?_
    show some (PyData.list (es.map fun e => evD (renE ρ e)), false) = _
    rw [runD, List.map_map]
    rfl
end KA

set_option Elab.async false
set_option linter.all false
set_option maxRecDepth 100000
set_option maxHeartbeats 4000000
namespace KA
open PySem PySem.Spec PyProof.Rows L2 L2.Dx
abbrev mkD (t : Msg) : PyData := .tuple ((keyOf t).map kD)
theorem look_msgs {L : List Msg} {v : Msg → PyData} {t : Msg} (u : ∀ a ∈ L, keyOf a = keyOf t → a = t) : Vs.lookD (L.map fun t => (mkD t, v t)) (mkD t) = some (if t ∈ L then some (v t) else none) := by
  unfold Vs.lookD
  rw [Vs.keyX_tup]
  dsimp only
  rw [if_pos (by
    rw [List.all_eq_true]
    intro p hp
    obtain ⟨a, _, rfl⟩ := List.mem_map.mp hp
    unfold Vs.kindOk
    rw [Vs.keyX_tup]
    rfl)]
  congr 1
  induction L with
  | nil => rfl
  | cons a L ih =>
    rw [List.map_cons, List.find?_cons, Vs.keyX_tup]
    by_cases c : keyOf a = keyOf t
    · have := u a List.mem_cons_self c
      subst this
      simp
    · have hne : ¬ t = a := fun z => c (by rw [z])
      have c2 : ¬ (some (Sum.inr (keyOf a) : Vs.KX) = some (.inr (keyOf t))) := fun z => c (Sum.inr.inj (Option.some.inj z))
      rw [decide_eq_false c2]
      have := ih fun b hb => u b (List.mem_cons_of_mem _ hb)
      simp only [List.mem_cons, hne, false_or]
      exact this
theorem F_is_run_eq {nodes : List Str} {es : List Ev} (hn : NodesOk nodes) (hl : es.length ≤ 1000) (ht : TextsOk es) : F_is_run [stD nodes, runD es] = some (.bool (okFrom nodes [] [] es)) :=
  pickF_eq (a := (⟨nodes, es⟩ : RArg)) RArg.inj ⟨hn, hl, ht⟩
theorem F_messages_eq {nodes : List Str} {es : List Ev} (hn : NodesOk nodes) (hl : es.length ≤ 1000) (ok : RunOk nodes es) : F_messages_of [stD nodes, runD es] = some (msgsV ⟨nodes, es⟩) :=
  pickF_eq (a := (⟨nodes, es⟩ : RArg)) RArg.inj ⟨⟨hn, hl, texts_of hn ok⟩, ok⟩
theorem F_send_eq {nodes : List Str} {es : List Ev} {t : Msg} (hn : NodesOk nodes) (hl : es.length ≤ 1000) (ok : RunOk nodes es) (ht : t ∈ allMsgs nodes (Rs.upto nodes es es.length).sends) : F_send_index [stD nodes, runD es, mkD t] = some (.int ((t.2.2 : Nat) : Int)) := by
  have hs := sent_at_k ht
  have := pickF_eq (enc := MArg.enc) (ok := MArg.Ok) (val := sentV) (a := (⟨⟨nodes, es⟩, t.1, ((t.2.1 : Nat) : Int)⟩ : MArg)) MArg.inj ⟨⟨hn, hl, texts_of hn ok⟩, ok, t.2.2, hs⟩
  have e1 : sentV (⟨⟨nodes, es⟩, t.1, ((t.2.1 : Nat) : Int)⟩ : MArg) = .int ((t.2.2 : Nat) : Int) := by
    show PyData.int (((sentAt (Rs.upto nodes es es.length) nodes t.1 ((t.2.1 : Nat) : Int)).getD 0 : Nat) : Int) = _
    rw [hs]
    rfl
  rw [e1] at this
  exact this
theorem F_open_eq {nodes : List Str} {es : List Ev} {t : Msg} {x : Str} (hn : NodesOk nodes) (hl : es.length ≤ 1000) (ok : RunOk nodes es) (ht : t ∈ allMsgs nodes (Rs.upto nodes es es.length).sends) (hx : x ∈ nodes) :
    F_open_index [stD nodes, runD es, mkD t, .str x] = some (dOf (opIx es x t.1 ((t.2.1 : Nat) : Int) es.length)) := by
  have hs := sent_at_k ht
  have := pickF_eq (enc := OArg.enc) (ok := OArg.Ok) (val := openV) (a := (⟨⟨⟨nodes, es⟩, t.1, ((t.2.1 : Nat) : Int)⟩, x⟩ : OArg)) OArg.inj ⟨⟨⟨hn, hl, texts_of hn ok⟩, ok, t.2.2, hs⟩, hx⟩
  have e1 : openV (⟨⟨⟨nodes, es⟩, t.1, ((t.2.1 : Nat) : Int)⟩, x⟩ : OArg) = dOf (opIx es x t.1 ((t.2.1 : Nat) : Int) es.length) := by
    show iD ((valV (ops ((Rs.upto nodes es es.length).opens x)) (.inl (((sentAt (Rs.upto nodes es es.length) nodes t.1 ((t.2.1 : Nat) : Int)).getD 0 : Nat) : Int))).getD .non) = _
    rw [hs]
    show iD ((valV (ops ((Rs.upto nodes es es.length).opens x)) (.inl ((t.2.2 : Nat) : Int))).getD .non) = _
    rw [open_told' ok hs]
    cases opIx es x t.1 ((t.2.1 : Nat) : Int) es.length <;> rfl
  rw [e1] at this
  exact this
theorem eqD_dOf1 (l : List Nat) : Vs.eqD (dOf l) (dOf l) = some (.bool true) := by
  cases l with
  | nil => rfl
  | cons i l => exact (Vs.eqD_int _ _).trans (by simp)
/-- a dict of lists of texts is equal to itself -/
theorem deq_self {L : List Msg} {v : Msg → List Str} (u : ∀ a ∈ L, ∀ b ∈ L, keyOf a = keyOf b → a = b) : Vs.deqD true (.dict (L.map fun t => (mkD t, stD (v t)))) (.dict (L.map fun t => (mkD t, stD (v t)))) = some (.bool false) := by
  unfold Vs.deqD
  dsimp only
  have hok : (L.map fun t => (mkD t, stD (v t))).all Vs.okV = true := by
    rw [List.all_eq_true]
    intro p hp
    obtain ⟨t, _, rfl⟩ := List.mem_map.mp hp
    unfold Vs.okV Vs.tkB
    rw [Vs.keyX_tup]
    have h1 := Vs.depth_strs' (v t)
    simp [stD, PyData.plain, PyData.depth]
    all_goals omega
  rw [if_pos (by rw [hok]; rfl)]
  have hall : (L.map fun t => (mkD t, stD (v t))).all (Vs.hitB (L.map fun t => (mkD t, stD (v t)))) = true := by
    rw [List.all_eq_true]
    intro p hp
    obtain ⟨t, ht, rfl⟩ := List.mem_map.mp hp
    have := look_msgs (L := L) (v := fun t => stD (v t)) (t := t) fun a ha e => u a ha t ht e
    rw [if_pos ht] at this
    unfold Vs.lookD at this
    rw [Vs.keyX_tup] at this
    dsimp only at this
    split at this
    · have this := Option.some.inj this
      obtain ⟨q, h1, h2⟩ := Option.map_eq_some_iff.mp this
      unfold Vs.hitB
      rw [Vs.keyX_tup, h1]
      dsimp only
      rw [h2]
      show PyData.eqv (.list _) (.list _) = true
      rw [PyData.eqv, Vs.eqvAll_strs]
      simp
    · cases this
  rw [hall]
  simp
abbrev re (ρ : Str → Str) (nodes others : List Str) (es : List Ev) (a5 a7 a8 a9 a10 : Vs.Sl) : Vs.Env := [.dat (stD nodes), .dat (runD es), .dat (namesD ρ nodes), .dat (stD others), .dat (runD (es.map (renE ρ))), a5, .dat (msgsV ⟨nodes, es⟩), a7, a8, a9, a10]
theorem F_right {ρ : Str → Str} {nodes others : List Str} {es : List Ev} (hn : NodesOk nodes) (ho : NodesOk others) (r : Ren ρ nodes others) (ok : RunOk nodes es) (hl : es.length ≤ 900) : F__law_right [stD nodes, runD es, namesD ρ nodes, stD others] = some (.bool true) := by
  have hin : ∀ (i : Nat) (e : Ev), es[i]? = some e → EvIn nodes e := fun i e h => ev_in hn ok h
  have ok2 := runOk_ren hn ho r ok
  have lm : (es.map (renE ρ)).length = es.length := List.length_map ..
  have r0 := F_renamed (ρ := ρ) hin hl fun i x rs h => by have := (ev_facts hn ok h).2.2.1; omega
  have r1 := F_is_run_eq ho (by rw [lm]; omega) (texts_of ho ok2)
  rw [runOk_iff.mp ok2] at r1
  have m1 := F_messages_eq hn (by omega) ok
  have m2 := F_messages_eq ho (by rw [lm]; omega) ok2
  have hml := msgs_ren hn ho r ok
  generalize hL : allMsgs nodes (Rs.upto nodes es es.length).sends = L at hml
  have uL : ∀ a ∈ L, ∀ b ∈ L, keyOf a = keyOf b → a = b := fun a ha b hb e => by rw [← hL] at ha hb; exact key_inj ha hb e
  have inL : ∀ t ∈ L, t.1 ∈ nodes := fun t ht => by rw [← hL] at ht; exact (all_mem ht).1
  have kren : ∀ a ∈ L, ∀ b ∈ L, keyOf (renM ρ a) = keyOf (renM ρ b) → a = b := fun a ha b hb e => by
    refine uL a ha b hb ?_
    have e1 : ρ a.1 = ρ b.1 := Sum.inr.inj (List.cons.inj e).1
    have e2 := (List.cons.inj e).2
    show [Sum.inr a.1, _] = [Sum.inr b.1, _]
    rw [r.inj hn a.1 (inL a ha) b.1 (inL b hb) e1]
    exact congrArg _ e2
  have ndL : L.Nodup := by rw [← hL]; exact msgs_nodup hn.nodup
  have mW : msgsV ⟨nodes, es⟩ = .dict (L.map fun t => (mkD t, stD (recvAt es t.2.2))) := by rw [← hL]; rfl
  have mO : msgsV ⟨others, es.map (renE ρ)⟩ = .dict (L.map fun t => (mkD (renM ρ t), stD ((recvAt es t.2.2).map ρ))) := by
    show PyData.dict ((allMsgs others (Rs.upto others (es.map (renE ρ)) (es.map (renE ρ)).length).sends).map fun t => (mkD t, stD (recvAt (es.map (renE ρ)) t.2.2))) = _
    rw [hml, List.map_map]
    congr 1
    refine List.map_congr_left fun t _ => ?_
    show (_, stD (recvAt (es.map (renE ρ)) t.2.2)) = _
    rw [ren_recvAt]
    all_goals rfl
  refine Vs.retD_rt rfl ?_
  show G__law_right [.dat (stD nodes), .dat (runD es), .dat (namesD ρ nodes), .dat (stD others), .un, .un, .un, .un, .un, .un, .un] = _
  refine Vs.seq_nx (Vs.asg_nx (Vs.call_eq (b := true) (ds := [runD es, namesD ρ nodes]) rfl r0)) ?_
  refine Vs.seq_nx (Vs.if_f ?_ rfl) ?_
  · have : Vs.gVal (Vs.gCall F_is_run (Vs.gCons (Vs.gV 3) (Vs.gCons (Vs.gV 4) Vs.gNil))) [.dat (stD nodes), .dat (runD es), .dat (namesD ρ nodes), .dat (stD others), .dat (runD (es.map (renE ρ))), .un, .un, .un, .un, .un, .un] = some true := Vs.val_eq (Vs.call_eq (b := true) (ds := [stD others, runD (es.map (renE ρ))]) rfl r1)
    exact congrArg (Option.map (!·)) this
  refine Vs.seq_nx (e := [.dat (stD nodes), .dat (runD es), .dat (namesD ρ nodes), .dat (stD others), .dat (runD (es.map (renE ρ))), .dct true [], .un, .un, .un, .un, .un]) rfl ?_
  refine Vs.seq_nx (Vs.asg_nx (Vs.call_eq (b := true) (ds := [stD nodes, runD es]) rfl m1)) ?_
  have lookW : ∀ t ∈ L, Vs.lookD (L.map fun t => (mkD t, stD (recvAt es t.2.2))) (mkD t) = some (some (stD (recvAt es t.2.2))) := fun t ht => by
    rw [look_msgs (v := fun t => stD (recvAt es t.2.2)) fun a ha e => uL a ha t ht e, if_pos ht]
  have hrecv : ∀ t ∈ L, (∀ x ∈ recvAt es t.2.2, x ∈ nodes) ∧ (recvAt es t.2.2).length ≤ 100000 := fun t ht => by
    rw [← hL] at ht
    obtain ⟨h1, h2, h3, h4⟩ := all_mem ht
    obtain ⟨_, h5, rs, h6, h7⟩ := sends_ok ok (List.mem_of_getElem? h4)
    rw [recvAt_snd h6]
    have := (ev_facts hn ok h6).2.2.1
    exact ⟨fun x hx => (recvB_mem h7 hx).1, by omega⟩
  have Llen : L.length ≤ 100000 := by
    rw [← hL]
    have h1 := allMsgs_len (S := (Rs.upto nodes es es.length).sends) (m := es.length) (fun x => sends_len) nodes
    have h2 := hn.hi
    have : nodes.length * es.length ≤ 12 * 900 := Nat.mul_le_mul h2 hl
    omega
  have tupE : ∀ {t : Msg} {a5 a8 a9 a10 : Vs.Sl}, t ∈ L → Vs.gTup (Vs.gCons (Vs.gDget (Vs.gV 2) (Vs.gIx (Vs.gV 7) (Vs.gC (.int 0)))) (Vs.gCons (Vs.gIx (Vs.gV 7) (Vs.gC (.int 1))) Vs.gNil)) (re ρ nodes others es a5 (.dat (mkD t)) a8 a9 a10) = some (mkD (renM ρ t), true) := fun {t a5 a8 a9 a10} ht => by
    refine Vs.tup_eq (b := true) (Vs.cons_eq (x := true) (y := true) (Vs.dget_eq (k := .str t.1) (c := true) rfl ?_ (look_names (inL t ht))) (Vs.cons_eq (d := .int ((t.2.1 : Nat) : Int)) (x := true) (y := true) ?_ rfl)) (by simp)
    · have : mkD t = .tuple [.str t.1, .int ((t.2.1 : Nat) : Int)] := rfl
      simp [Vs.retD, Vs.gSeq, Vs.gIfS, Vs.gOrT, Vs.gAndT, Vs.gNotT, Vs.gVal, Vs.gTru, Vs.truD, Vs.g1, Vs.g2, Vs.gV, Vs.gC, Vs.gNil, Vs.gCons, Vs.gTup, Vs.gLst, Vs.gF, Vs.gCall, Vs.gAnd, Vs.gOr, Vs.notD, Vs.gIf, Vs.gRet, Vs.gRetN, Vs.gNx, Vs.gAsg, Vs.gAsgL, Vs.gAsgT, Vs.gPar, Vs.gParL, Vs.gApp, Vs.gFor, Vs.gItL, Vs.gItT, Vs.gItS, Vs.gLV, Vs.gIx, Vs.gIxV, Vs.gSet, Vs.gsNil, Vs.gsCons, Vs.gTg, Vs.gLc, Vs.gYes, Vs.wipeE, Vs.gSl, Vs.gNo, Vs.gPart, Vs.gSset, Vs.iiD, Vs.isNonD, Vs.notNonD, Vs.isNoneD, Vs.frz, Vs.ix0, Vs.ix1, Vs.ix2, this]
    · have : mkD t = .tuple [.str t.1, .int ((t.2.1 : Nat) : Int)] := rfl
      simp [Vs.retD, Vs.gSeq, Vs.gIfS, Vs.gOrT, Vs.gAndT, Vs.gNotT, Vs.gVal, Vs.gTru, Vs.truD, Vs.g1, Vs.g2, Vs.gV, Vs.gC, Vs.gNil, Vs.gCons, Vs.gTup, Vs.gLst, Vs.gF, Vs.gCall, Vs.gAnd, Vs.gOr, Vs.notD, Vs.gIf, Vs.gRet, Vs.gRetN, Vs.gNx, Vs.gAsg, Vs.gAsgL, Vs.gAsgT, Vs.gPar, Vs.gParL, Vs.gApp, Vs.gFor, Vs.gItL, Vs.gItT, Vs.gItS, Vs.gLV, Vs.gIx, Vs.gIxV, Vs.gSet, Vs.gsNil, Vs.gsCons, Vs.gTg, Vs.gLc, Vs.gYes, Vs.wipeE, Vs.gSl, Vs.gNo, Vs.gPart, Vs.gSset, Vs.iiD, Vs.isNonD, Vs.notNonD, Vs.isNoneD, Vs.frz, Vs.ix0, Vs.ix1, Vs.ix2, this]
  refine Vs.forK_seq (kvs := L.map fun t => (mkD t, stD (recvAt es t.2.2))) (fun i env => ∃ a7 a8 a9 a10, env = re ρ nodes others es (.dct true ((L.take i).map fun t => (mkD (renM ρ t), stD ((recvAt es t.2.2).map ρ)))) a7 a8 a9 a10) (by rw [← mW]; rfl) ⟨_, _, _, _, rfl⟩ (fun i d env hd hI => ?_) (fun env hI => ?_)
  · obtain ⟨a7, a8, a9, a10, rfl⟩ := hI
    rw [List.map_map, List.getElem?_map] at hd
    obtain ⟨t, hti, rfl⟩ := Option.map_eq_some_iff.mp hd
    have ht := List.mem_of_getElem? hti
    refine ⟨re ρ nodes others es (.dct true ((L.take i).map fun t => (mkD (renM ρ t), stD ((recvAt es t.2.2).map ρ)))) (.dat (mkD t)) a8 a9 a10, rfl, .inl ⟨re ρ nodes others es (.dct true ((L.take (i + 1)).map fun t => (mkD (renM ρ t), stD ((recvAt es t.2.2).map ρ)))) (.dat (mkD t)) (.dat (mkD (renM ρ t))) a9 a10, ?_, _, _, _, _, rfl⟩⟩
    refine Vs.seq_nx (Vs.asg_nx (tupE ht)) ?_
    have hlc : Vs.gLc (Vs.gItL (Vs.gDget (Vs.gV 6) (Vs.gV 7))) Vs.gYes (Vs.gDget (Vs.gV 2) (Vs.gV 10)) (Vs.gSet 10) [10] (re ρ nodes others es (.dct true ((L.take i).map fun t => (mkD (renM ρ t), stD ((recvAt es t.2.2).map ρ)))) (.dat (mkD t)) (.dat (mkD (renM ρ t))) a9 a10) = some (((recvAt es t.2.2).map ρ).map .str) := by
      rw [Vs.lc_eq (enc := PyData.str) (l := recvAt es t.2.2) (p := fun _ => true) (f := fun x => PyData.str (ρ x)) (Vs.itL_eq (Vs.dget_eq (kvs := L.map fun t => (mkD t, stD (recvAt es t.2.2))) (b := true) (by rw [← mW]; rfl) rfl (lookW t ht))) (hrecv t ht).2 fun x hx => ⟨_, rfl, rfl, fun _ => Vs.dget_eq rfl rfl (look_names ((hrecv t ht).1 x hx))⟩, List.filter_eq_self.mpr fun _ _ => rfl, List.map_map]
      rfl
    refine (Vs.dput_nx (b := true) (k := mkD (renM ρ t)) (Vs.gF_eq hlc) rfl rfl ?_ ?_ ?_).trans ?_
    · simp; omega
    · unfold Vs.tkB
      rw [Vs.keyX_tup]
    · rw [Vs.keyX_tup]; rfl
    · have : Vs.putD ((L.take i).map fun t => (mkD (renM ρ t), stD ((recvAt es t.2.2).map ρ))) (mkD (renM ρ t)) (.list (((recvAt es t.2.2).map ρ).map .str)) = (L.take (i + 1)).map fun t => (mkD (renM ρ t), stD ((recvAt es t.2.2).map ρ)) := by
        unfold Vs.putD
        rw [if_neg, take_snoc hti, List.map_append]
        · rfl
        · rw [Bool.not_eq_true, List.any_eq_false]
          intro p hp
          obtain ⟨u, hu, rfl⟩ := List.mem_map.mp hp
          rw [decide_eq_true_eq, Vs.keyX_tup, Vs.keyX_tup]
          intro z
          have := kren u (List.mem_of_mem_take hu) t ht (Sum.inr.inj (Option.some.inj z))
          subst this
          exact notin_take ndL hti hu
      rw [this]
      rfl
  obtain ⟨a7, a8, a9, a10, rfl⟩ := hI
  rw [List.length_map, List.take_length]
  have hdq : Vs.deqD true (msgsV ⟨others, es.map (renE ρ)⟩) (.dict (L.map fun t => (mkD (renM ρ t), stD ((recvAt es t.2.2).map ρ)))) = some (.bool false) := by
    have := deq_self (L := L.map (renM ρ)) (v := fun t => (recvAt es t.2.2).map ρ) fun a ha b hb e => by
      obtain ⟨a', ha', rfl⟩ := List.mem_map.mp ha
      obtain ⟨b', hb', rfl⟩ := List.mem_map.mp hb
      rw [kren a' ha' b' hb' e]
    rw [List.map_map] at this
    rw [mO]
    exact this
  refine Vs.seq_nx (Vs.if_f (Vs.val_eq (Vs.g2_eq (x := true) (y := false) (Vs.call_eq (b := true) (ds := [stD others, runD (es.map (renE ρ))]) rfl m2) rfl hdq)) rfl) ?_
  refine Vs.forK_seq (kvs := L.map fun t => (mkD t, stD (recvAt es t.2.2))) (fun _ env => ∃ a7 a8 a9 a10, env = re ρ nodes others es (.dct true (L.map fun t => (mkD (renM ρ t), stD ((recvAt es t.2.2).map ρ)))) a7 a8 a9 a10) (by rw [← mW]; rfl) ⟨_, _, _, _, rfl⟩ (fun i d env hd hI => ?_) (fun env hI => ?_)
  · obtain ⟨a7, a8, a9, a10, rfl⟩ := hI
    rw [List.map_map, List.getElem?_map] at hd
    obtain ⟨t, hti, rfl⟩ := Option.map_eq_some_iff.mp hd
    have ht := List.mem_of_getElem? hti
    have ht2 : renM ρ t ∈ allMsgs others (Rs.upto others (es.map (renE ρ)) (es.map (renE ρ)).length).sends := by rw [hml]; exact List.mem_map_of_mem ht
    have htL : t ∈ allMsgs nodes (Rs.upto nodes es es.length).sends := by rw [hL]; exact ht
    have s1 := F_send_eq hn (by omega) ok htL
    have s2 := F_send_eq ho (by rw [lm]; omega) ok2 ht2
    refine ⟨re ρ nodes others es (.dct true (L.map fun t => (mkD (renM ρ t), stD ((recvAt es t.2.2).map ρ)))) (.dat (mkD t)) a8 a9 a10, rfl, .inl ?_⟩
    obtain ⟨e, g1, b9, rfl⟩ := Vs.for_nx (gi := Vs.gItL (Vs.gV 0)) (tg := Vs.gSet 9) (gb := Vs.gIfS (Vs.gVal (Vs.g2 Vs.neD (Vs.gCall F_open_index (Vs.gCons (Vs.gV 3) (Vs.gCons (Vs.gV 4) (Vs.gCons (Vs.gV 8) (Vs.gCons (Vs.gDget (Vs.gV 2) (Vs.gV 9)) Vs.gNil))))) (Vs.gCall F_open_index (Vs.gCons (Vs.gV 0) (Vs.gCons (Vs.gV 1) (Vs.gCons (Vs.gV 7) (Vs.gCons (Vs.gV 9) Vs.gNil)))))))
        (Vs.gRet (Vs.gC (.bool false)))
        Vs.gNx) (env := re ρ nodes others es (.dct true (L.map fun t => (mkD (renM ρ t), stD ((recvAt es t.2.2).map ρ)))) (.dat (mkD t)) (.dat (mkD (renM ρ t))) a9 a10) (ds := nodes.map .str)
      (fun _ env => ∃ b9, env = re ρ nodes others es (.dct true (L.map fun t => (mkD (renM ρ t), stD ((recvAt es t.2.2).map ρ)))) (.dat (mkD t)) (.dat (mkD (renM ρ t))) b9 a10) rfl ⟨_, rfl⟩ fun j d env hd hI => by
        obtain ⟨b9, rfl⟩ := hI
        rw [List.getElem?_map] at hd
        obtain ⟨x, hx, rfl⟩ := Option.map_eq_some_iff.mp hd
        have hx := List.mem_of_getElem? hx
        have o1 := F_open_eq hn (by omega) ok htL hx
        have o2 := F_open_eq ho (by rw [lm]; omega) ok2 ht2 (r.inn x hx)
        rw [lm] at o2
        rw [show opIx (es.map (renE ρ)) (ρ x) (renM ρ t).1 (((renM ρ t).2.1 : Nat) : Int) es.length = opIx es x t.1 ((t.2.1 : Nat) : Int) es.length from opIx_ren hn r hin hx (inL t ht) es.length] at o2
        refine ⟨re ρ nodes others es (.dct true (L.map fun t => (mkD (renM ρ t), stD ((recvAt es t.2.2).map ρ)))) (.dat (mkD t)) (.dat (mkD (renM ρ t))) (.dat (.str x)) a10, rfl, _, Vs.if_f (Vs.val_eq (Vs.g2_eq (x := true) (y := true) (Vs.call_eq (b := true) (ds := [stD others, runD (es.map (renE ρ)), mkD (renM ρ t), .str (ρ x)]) ?_ o2) (Vs.call_eq (b := true) (ds := [stD nodes, runD es, mkD t, .str x]) rfl o1) (Vs.neD_of (eqD_dOf1 _)))) rfl, ⟨_, rfl⟩⟩
        exact Vs.cons_eq (x := true) (y := true) rfl (Vs.cons_eq (x := true) (y := true) rfl (Vs.cons_eq (x := true) (y := true) rfl (Vs.cons_eq (x := true) (y := true) (Vs.dget_eq rfl rfl (look_names hx)) rfl)))
    refine ⟨_, Vs.seq_nx (Vs.asg_nx (tupE ht)) (Vs.seq_nx (Vs.if_f ((Vs.val_eq (Vs.g2_eq (x := true) (y := true) (Vs.call_eq (b := true) (ds := [stD others, runD (es.map (renE ρ)), mkD (renM ρ t)]) rfl s2) (Vs.call_eq (b := true) (ds := [stD nodes, runD es, mkD t]) rfl s1) (Vs.neD_of (Vs.eqD_int _ _)))).trans ?_) rfl) g1), _, _, _, _, rfl⟩
    simp [renM]
  · obtain ⟨a7, a8, a9, a10, rfl⟩ := hI
    rfl
end KA

set_option Elab.async false
set_option linter.all false
set_option maxRecDepth 100000
set_option maxHeartbeats 4000000
/-! dict(zip(a, b)) of a list of texts and a list -/
namespace L2.Dx
open PySem PySem.Spec PyProof.Rows L2
/-- H with what F says -/
def ovr (H : Hp) (F : Addr → Option HO) : Hp := fun b => match F b with | some o => some o | none => H b
theorem ovr_in {H : Hp} {F : Addr → Option HO} {b : Addr} {o : HO} (h : F b = some o) : ovr H F b = some o := by
  unfold ovr
  rw [h]
theorem ovr_out {H : Hp} {F : Addr → Option HO} {b : Addr} (h : F b = none) : ovr H F b = H b := by
  unfold ovr
  rw [h]
section
variable {X : Cx} {pins : List (Addr × Obj)} {σ : St} {H : Hp} {s : Shared} {h' : Heap} {t' : Nat}
theorem inv_lays (I : Inv X pins σ H s) (hk : ∀ (b : Addr) (u : Obj), s.heap.get? b = some u → h'.get? b = some u) {F : Addr → Option HO} (hF : ∀ b o, F b = some o → s.heap.objs.size ≤ b ∧ ObjOk X.prog X.w (ovr H F) h' b o) :
    Inv X pins σ (ovr H F) { heap := h', gens := s.gens, drawn := s.drawn, toks := t', os := s.os } := by
  have old : ∀ b, b < s.heap.objs.size → F b = none := fun b l => by
    cases e : F b with
    | none => rfl
    | some o => exact absurd (hF b o e).1 (Nat.not_le_of_lt l)
  have hb : ∀ b u, H b = some u → F b = none := fun b u e => old b (by
    rcases Nat.lt_or_ge b s.heap.objs.size with l | l
    · exact l
    · rw [I.hok.fresh l] at e; cases e)
  refine I.call (ch := []) ⟨fun b o e _ _ _ => hk b o e, fun b o e _ _ _ => ⟨o.slots, hk b o e⟩, fun b o e z _ => (ovr_out (old b (Heap.lt_size e))).trans z, fun b o e _ => ⟨o, hk b o e⟩, fun b xs e => (ovr_out (hb b _ e)).trans e, fun b o u e => (ovr_out (hb b _ e)).trans e, fun b ps e => ⟨#[], by simpa using (ovr_out (hb b _ e)).trans e⟩⟩ (fun b u e => ?_) I.bare fun _ z => nomatch z
  cases ef : F b with
  | some o =>
    rw [ovr_in ef] at e
    cases e
    exact (hF b _ ef).2
  | none =>
    rw [ovr_out ef] at e
    exact (I.hok b u e).stay (fun c o _ q => hk c o q) (fun c q => (ovr_out (hb c _ q)).trans q) fun c xs q => (ovr_out (hb c _ q)).trans q
end
/-- the five objects of a zip that was not yet asked -/
def ZF (n a b : Addr) : Addr → Option HO := fun c =>
  if c = n then some (.ext fun h => h.IsListIter n a 0) else
  if c = n + 1 then some (.ext fun h => h.IsListIter (n + 1) b 0) else
  if c = n + 2 then some (.ext fun h => IsPair h (n + 2) (.ref n) (.ref (n + 1))) else
  if c = n + 3 then some (.ext fun h => ∃ x y, IsPair h (n + 3) x y) else
  if c = n + 4 then some (.ext fun h => IsZip h (n + 4) (n + 2) (n + 3) .none) else none
theorem zf_new {n a b c : Addr} {o : HO} (h : ZF n a b c = some o) : n ≤ c ∧ c ≤ n + 4 := by
  unfold ZF at h
  split at h
  · rename_i e; subst e; exact ⟨Nat.le_refl _, Nat.le_add_right _ _⟩
  split at h
  · rename_i e; subst e; exact ⟨Nat.le_add_right _ _, Nat.add_le_add_left (by decide) _⟩
  split at h
  · rename_i e; subst e; exact ⟨Nat.le_add_right _ _, Nat.add_le_add_left (by decide) _⟩
  split at h
  · rename_i e; subst e; exact ⟨Nat.le_add_right _ _, Nat.add_le_add_left (by decide) _⟩
  split at h
  · rename_i e; subst e; exact ⟨Nat.le_add_right _ _, Nat.le_refl _⟩
  · cases h
section
variable {X : Cx}
theorem cr_zip : CallR X (.type "zip") (fun xs H Q => ∃ (a b : Addr) (ys zs : List V), xs = [.ref a, .ref b] ∧ SqL X.K H a ys ∧ SqL X.K H b zs ∧ ∀ n : Addr, X.s_0.heap.objs.size ≤ n → (∀ c, n ≤ c → H c = none) → a < n → b < n → Q (.ref (n + 4)) (ovr H (ZF n a b))) := by
  intro pins s σ H xs us Q I r q
  obtain ⟨a, b, ys, zs, rfl, ha, hb, q⟩ := q
  obtain ⟨u, v, rfl, ru, rv⟩ := vals2 r
  cases ru
  cases rv
  obtain ⟨ia, _, pa, _⟩ := I.list ha
  obtain ⟨ib, _, pb, _⟩ := I.list hb
  refine call_zip_2 pa.isList pb.isList fun h' z1 z2 z3 z4 z5 z6 z7 => ?_
  refine ⟨.ref (s.heap.objs.size + 4), ovr H (ZF s.heap.objs.size a b), inv_lays I z7 (F := ZF s.heap.objs.size a b) fun c o e => ?_, rfl, q _ (Nat.le_trans I.ok.above (Nat.le_of_lt I.lt)) (fun c hc => I.hok.fresh hc) (by obtain ⟨o, h1, _⟩ := pa.isList; exact Heap.lt_size h1) (by obtain ⟨o, h1, _⟩ := pb.isList; exact Heap.lt_size h1)⟩
  refine ⟨(zf_new e).1, ?_⟩
  unfold ZF at e
  split at e
  · rename_i ec
    subst ec
    cases e
    exact ⟨z4, by obtain ⟨o, h1, _⟩ := z4; exact ⟨o, h1⟩, fun h1 h2 p k => by obtain ⟨o, g1, g2⟩ := p; exact ⟨o, k o g1, g2⟩⟩
  split at e
  · rename_i ec
    subst ec
    cases e
    exact ⟨z5, by obtain ⟨o, h1, _⟩ := z5; exact ⟨o, h1⟩, fun h1 h2 p k => by obtain ⟨o, g1, g2⟩ := p; exact ⟨o, k o g1, g2⟩⟩
  split at e
  · rename_i ec
    subst ec
    cases e
    exact ⟨z2, ⟨_, z2⟩, fun h1 h2 p k => k _ p⟩
  split at e
  · rename_i ec
    subst ec
    cases e
    exact ⟨⟨_, _, z3⟩, ⟨_, z3⟩, fun h1 h2 p k => by obtain ⟨x, y, p⟩ := p; exact ⟨x, y, k _ p⟩⟩
  split at e
  · rename_i ec
    subst ec
    cases e
    exact ⟨z1, ⟨_, z1⟩, fun h1 h2 p k => k _ p⟩
  · cases e
theorem zip_apart {n a b : Addr} (ha : a < n) (hb : b < n) : ZipApart (n + 4) (n + 2) (n + 3) n (n + 1) a b := by
  have ha : @LT.lt Nat _ a n := ha
  have hb : @LT.lt Nat _ b n := hb
  constructor <;> (intro z; have z : @Eq Nat _ _ := z; omega)
/-- the zip's own objects are gone -/
def zdrop (H : Hp) (n a b : Addr) : Hp := fun c => if (ZF n a b c).isSome = true then none else H c
theorem zf_none {n a b c : Addr} (h : ZF n a b c = none) : c ≠ n ∧ c ≠ n + 1 ∧ c ≠ n + 3 ∧ c ≠ n + 4 := by
  unfold ZF at h
  split at h
  · cases h
  split at h
  · cases h
  split at h
  · cases h
  split at h
  · cases h
  split at h
  · cases h
  · rename_i h1 h2 h3 h4 h5
    exact ⟨h1, h2, h4, h5⟩
theorem cr_dictZip (hc : X.calm = true) : CallR X (.type "dict") (fun xs H Q => ∃ (n a b : Addr) (ks : List Key) (vs : List V), xs = [.ref (n + 4)] ∧ X.s_0.heap.objs.size ≤ n ∧ a < n ∧ b < n ∧ (∀ c o, ZF n a b c = some o → H c = some o) ∧ SqL X.K H a (ks.map kV) ∧ SqL X.K H b vs ∧ ks.length = vs.length ∧ ks.Nodup ∧
    ∀ p, H p = none → Q (.ref p) (upd (zdrop H n a b) p (.dK (ks.zip vs)))) := by
  intro pins s σ H xs us Q I r q
  obtain ⟨n, a, b, ks, vs, rfl, h0, la, lb, hz, ha, hb, hl, nd, q⟩ := q
  obtain ⟨u, rfl, ru⟩ := vals1 r
  cases ru
  obtain ⟨ia, ra, pa, sa⟩ := I.list ha
  obtain ⟨ib, rb, pb, sb⟩ := I.list hb
  have ex : ∀ {c : Addr} {p : Heap → Prop}, ZF n a b c = some (.ext p) → p s.heap := fun {c p} e => by
    have := (show ObjOk X.prog X.w H s.heap c (.ext p) from I.hok c _ (hz c _ e))
    unfold ObjOk at this
    exact this.1
  have e0 : ZF n a b n = some (.ext fun h => h.IsListIter n a 0) := if_pos rfl
  have n1 : ¬ (n + 1 = n) := fun z => by have z : @Eq Nat _ _ := z; omega
  have e1 : ZF n a b (n + 1) = some (.ext fun h => h.IsListIter (n + 1) b 0) := by
    unfold ZF
    rw [if_neg n1, if_pos rfl]
  have n2 : ¬ (n + 2 = n) := fun z => by have z : @Eq Nat _ _ := z; omega
  have n3 : ¬ (n + 2 = n + 1) := fun z => by have z : @Eq Nat _ _ := z; omega
  have e2 : ZF n a b (n + 2) = some (.ext fun h => IsPair h (n + 2) (.ref n) (.ref (n + 1))) := by
    unfold ZF
    rw [if_neg n2, if_neg n3, if_pos rfl]
  have n4 : ¬ (n + 3 = n) := fun z => by have z : @Eq Nat _ _ := z; omega
  have n5 : ¬ (n + 3 = n + 1) := fun z => by have z : @Eq Nat _ _ := z; omega
  have n6 : ¬ (n + 3 = n + 2) := fun z => by have z : @Eq Nat _ _ := z; omega
  have e3 : ZF n a b (n + 3) = some (.ext fun h => ∃ x y, IsPair h (n + 3) x y) := by
    unfold ZF
    rw [if_neg n4, if_neg n5, if_neg n6, if_pos rfl]
  have n7 : ¬ (n + 4 = n) := fun z => by have z : @Eq Nat _ _ := z; omega
  have n8 : ¬ (n + 4 = n + 1) := fun z => by have z : @Eq Nat _ _ := z; omega
  have n9 : ¬ (n + 4 = n + 2) := fun z => by have z : @Eq Nat _ _ := z; omega
  have n10 : ¬ (n + 4 = n + 3) := fun z => by have z : @Eq Nat _ _ := z; omega
  have e4 : ZF n a b (n + 4) = some (.ext fun h => IsZip h (n + 4) (n + 2) (n + 3) .none) := by
    unfold ZF
    rw [if_neg n7, if_neg n8, if_neg n9, if_neg n10, if_pos rfl]
  have lia : ia.length = ks.length := by rw [← ra.length, List.length_map]
  have lib : ib.length = ks.length := by rw [← rb.length, hl]
  have ksz : ks.length ≤ sizeLine := by simpa using sa
  have hkey : ∀ {k : Key} {u : Value}, RelV (kV k) u → keyIs k u = true := fun {k u} r => by
    cases k with
    | inl i => obtain ⟨t, rfl⟩ := r; simp [keyIs, Value.isInt]
    | inr x => obtain ⟨t, rfl⟩ := r; simp [keyIs, Value.isStrOf]
  refine PySem.call_dict_pairs (knd := mixKind X.prog X.w) (kvs := ks.zip ib) (PairArg.zip (n + 4) (n + 2) (n + 3) n (n + 1) a b (zip_apart la lb) ia.toArray ib.toArray) (I.ok.hd hc) ⟨ex e4, ex e2, ex e3, ex e0, ex e1, pa.isList, pb.isList⟩ ⟨?_, fun i key v ⟨z1, z2⟩ => ?_⟩ ?_ fun h' tk hd k => ?_
  · rw [List.length_zip, List.size_toArray, List.size_toArray, lia]
  · have z1 : ia[i]? = some key := by simpa using z1
    have z2 : ib[i]? = some v := by simpa using z2
    have li : i < ks.length := by rw [← lia]; exact (List.getElem?_eq_some_iff.mp z1).1
    refine ⟨ks[i], ?_, ?_⟩
    · rw [List.getElem?_zip_eq_some]
      exact ⟨List.getElem?_eq_getElem li, z2⟩
    · obtain ⟨u', g1, g2⟩ := Vals.get ra (i := i) (x := kV ks[i]) (by rw [List.getElem?_map, List.getElem?_eq_getElem li]; rfl)
      rw [z1] at g1
      cases g1
      exact hkey g2
  · rw [List.size_toArray, List.size_toArray]
    exact Nat.le_trans (Nat.min_le_left _ _) (by rw [lia]; exact ksz)
  have nd' : ((ks.zip ib).map (·.1)).Nodup := by
    rw [List.map_fst_zip (by rw [lib]; exact Nat.le_refl _)]
    exact nd
  rw [merged_nil_of_nodup _ nd'] at hd
  have hfree := I.hok.fresh (Nat.le_refl s.heap.objs.size)
  have zx : ∀ {c : Addr} {o : HO}, ZF n a b c = some o → ∃ p, o = .ext p := fun {c o} e => by
    unfold ZF at e
    split at e
    · cases e; exact ⟨_, rfl⟩
    split at e
    · cases e; exact ⟨_, rfl⟩
    split at e
    · cases e; exact ⟨_, rfl⟩
    split at e
    · cases e; exact ⟨_, rfl⟩
    split at e
    · cases e; exact ⟨_, rfl⟩
    · cases e
  have zn : ∀ {c : Addr} {u : HO}, H c = some u → (∀ p, u ≠ .ext p) → ZF n a b c = none := fun {c u} e hu => by
    cases z : ZF n a b c with
    | none => rfl
    | some o =>
      obtain ⟨p, rfl⟩ := zx z
      rw [hz c _ z] at e
      exact absurd (Option.some.inj e).symm (hu p)
  have zd : ∀ {c : Addr}, ZF n a b c = none → zdrop H n a b c = H c := fun {c} e => by
    unfold zdrop
    rw [e]
    rfl
  have ne : ∀ {c : Addr} {u : HO}, H c = some u → c ≠ s.heap.objs.size := fun {c u} e z => by rw [z, hfree] at e; cases e
  have out : ∀ {c : Addr}, ZF n a b c = none → c ∉ [n + 4, n + 3, n, n + 1] := fun {c} e z => by
    obtain ⟨h1, h2, h3, h4⟩ := zf_none e
    simp only [List.mem_cons, List.not_mem_nil, or_false] at z
    rcases z with z | z | z | z
    · exact h4 z
    · exact h3 z
    · exact h1 z
    · exact h2 z
  have up : ∀ {c : Addr} {u : HO}, H c = some u → (∀ p, u ≠ .ext p) → upd (zdrop H n a b) s.heap.objs.size (.dK (ks.zip vs)) c = some u := fun {c u} e hu => (upd_ne (ne e)).trans ((zd (zn e hu)).trans e)
  refine ⟨.ref s.heap.objs.size, upd (zdrop H n a b) s.heap.objs.size (.dK (ks.zip vs)), I.call (ch := [n + 4, n + 3, n, n + 1]) ⟨fun c o e _ _ hx => k c o hx e, fun c o e _ _ hx => ⟨o.slots, k c o hx e⟩, fun c o e hn _ => ?_, fun c o e hx => ⟨o, k c o hx e⟩, fun c xs e => up e (fun p z => by cases z), fun c o u e => up e (fun p z => by cases z), fun c ps e => ⟨#[], by simpa using up e (fun p z => by cases z)⟩⟩ (fun c u e => ?_) I.bare fun c hc => ?_, rfl, q _ hfree⟩
  · refine (upd_ne fun z => ?_).trans ?_
    · have := Heap.lt_size e
      rw [z] at this
      exact absurd this (Nat.lt_irrefl _)
    · unfold zdrop
      split
      · rfl
      · exact hn
  · by_cases z : c = s.heap.objs.size
    · subst z
      rw [upd_same] at e
      cases e
      have hm : (s.heap.objs.size == sysModules) = false := beq_eq_false_iff_ne.mpr (Nat.ne_of_gt I.big)
      refine (show ObjOk X.prog X.w _ _ _ (.dK (ks.zip vs)) from ⟨by rw [List.length_zip]; exact Nat.le_trans (Nat.min_le_left _ _) ksz, hm, ks.zip ib, ?_, hd⟩)
      have go : ∀ {ks : List Key} {vs : List V} {us : List Value}, Vals vs us → KV (ks.zip vs) (ks.zip us) := by
        intro ks vs us h
        induction h generalizing ks with
        | nil => cases ks <;> exact .nil
        | @cons v u vs us hv _ ih =>
          cases ks with
          | nil => exact .nil
          | cons k ks => exact .cons ⟨rfl, hv⟩ ih
      exact go rb
    · rw [upd_ne z] at e
      cases zz : ZF n a b c with
      | some o =>
        unfold zdrop at e
        rw [zz] at e
        cases e
      | none =>
        rw [zd zz] at e
        refine (I.hok c u e).stay (fun d o w g => k d o ?_ g) (fun d g => up g fun p z => by cases z) fun d xs g => up g fun p z => by cases z
        rcases w with rfl | w
        · exact out zz
        · exact out (zn w fun p z => by cases z)
  · have zc : ∃ p, ZF n a b c = some (.ext p) ∧ n ≤ c := by
      simp only [List.mem_cons, List.not_mem_nil, or_false] at hc
      rcases hc with rfl | rfl | rfl | rfl
      · exact ⟨_, e4, (zf_new e4).1⟩
      · exact ⟨_, e3, (zf_new e3).1⟩
      · exact ⟨_, e0, (zf_new e0).1⟩
      · exact ⟨_, e1, (zf_new e1).1⟩
    obtain ⟨p, hp, hnc⟩ := zc
    have hH := hz c _ hp
    refine ⟨.inr (Nat.le_trans h0 hnc), fun z => ?_, fun x d hx z => ?_, fun pp hpp z => ?_⟩
    · rw [z, I.free] at hH; cases hH
    · rw [← z, I.freeC x d hx] at hH; cases hH
    · rw [← z, (I.pin pp hpp).2.1] at hH; cases hH
end
end L2.Dx

set_option Elab.async false
set_option linter.all false
set_option maxRecDepth 100000
set_option maxHeartbeats 4000000
namespace KA
open PySem PySem.Spec PyProof.Rows L2 L2.Dx Kx
theorem NodesOk.take' {l : List Str} (h : NodesOk l) {k : Nat} (h1 : 2 ≤ k) (h2 : k ≤ l.length) : NodesOk (l.take k) := by
  have hi := h.hi
  have hl : (l.take k).length = k := by rw [List.length_take]; omega
  exact ⟨by rw [hl]; exact h1, by rw [hl]; omega, fun z hz => h.nm z (List.mem_of_mem_take hz), h.asc.sublist (List.take_sublist _ _)⟩
theorem asc_lt {l : List Str} (h : l.Pairwise ltS) {i j : Nat} {x y : Str} (hi : l[i]? = some x) (hj : l[j]? = some y) (lt : i < j) : ltS x y := by
  obtain ⟨a, rfl⟩ := List.getElem?_eq_some_iff.mp hi
  obtain ⟨b, rfl⟩ := List.getElem?_eq_some_iff.mp hj
  exact List.pairwise_iff_getElem.mp h i j a b lt
/-- by position -/
theorem ren_zip {nodes os : List Str} (hn : NodesOk nodes) (ho : NodesOk os) (hl : os.length = nodes.length) : ∃ ρ : Str → Str, nodes.map ρ = os ∧ Ren ρ nodes os := by
  let ρ : Str → Str := fun x => (os[nodes.idxOf x]?).getD ""
  have at_ : ∀ {i : Nat} {x : Str}, nodes[i]? = some x → os[i]? = some (ρ x) := fun {i x} h => by
    obtain ⟨hi, rfl⟩ := List.getElem?_eq_some_iff.mp h
    have : nodes.idxOf nodes[i] = i := hn.nodup.idxOf_getElem i hi
    show _ = some ((os[nodes.idxOf nodes[i]]?).getD "")
    rw [this, List.getElem?_eq_getElem (by omega)]
    rfl
  have hm : nodes.map ρ = os := by
    apply List.ext_getElem?
    intro i
    rw [List.getElem?_map]
    cases h : nodes[i]? with
    | none =>
      have : nodes.length ≤ i := List.getElem?_eq_none_iff.mp h
      rw [List.getElem?_eq_none (by omega)]
      rfl
    | some x => rw [at_ h]; rfl
  refine ⟨ρ, hm, fun x hx => by rw [← hm]; exact List.mem_map_of_mem hx, fun x hx y hy l => ?_⟩
  obtain ⟨i, hi⟩ := List.mem_iff_getElem?.mp hx
  obtain ⟨j, hj⟩ := List.mem_iff_getElem?.mp hy
  rcases Nat.lt_trichotomy i j with c | c | c
  · exact asc_lt ho.asc (at_ hi) (at_ hj) c
  · subst c
    rw [hi] at hj
    cases hj
    exact absurd l (ltS_irrefl _)
  · exact absurd (List.lt_trans l (asc_lt hn.asc hj hi c)) (List.lt_irrefl _)
theorem ren_id {nodes others : List Str} (h : ∀ x ∈ nodes, x ∈ others) : Ren id nodes others := ⟨h, fun _ _ _ _ l => l⟩
/-- one name more -/
theorem nodes_q {nodes ys : List Str} (hn : NodesOk nodes) (hp : ∀ z ∈ nodes, z ∈ pool) (hl : nodes.length ≤ 8) (perm : ys.Perm (nodes ++ [("q" : Str)])) (asc : sortedS ys = true) : NodesOk ys ∧ Ren id nodes ys := by
  have hq : ("q" : Str) ∉ nodes := fun z => absurd (hp _ z) (by decide +kernel)
  have nd : (nodes ++ [("q" : Str)]).Nodup := by
    rw [List.nodup_append]
    refine ⟨hn.nodup, by simp, fun a ha b hb e => ?_⟩
    rw [List.mem_singleton.mp hb] at e
    exact hq (by rw [← e]; exact ha)
  have len := perm.length_eq
  rw [List.length_append, List.length_singleton] at len
  have lo := hn.lo
  refine ⟨⟨by omega, by omega, fun z hz => ?_, sortedS_pw asc (perm.nodup_iff.mpr nd)⟩, ren_id fun x hx => perm.mem_iff.mpr (List.mem_append_left _ hx)⟩
  rcases List.mem_append.mp (perm.mem_iff.mp hz) with h | h
  · exact hn.nm z h
  · rw [List.mem_singleton.mp h]
    exact ⟨by decide +kernel, by decide +kernel, fun c hc => by
      have : c ∈ [113] := hc
      rw [List.mem_singleton.mp this]
      decide⟩
/-- no run without a node that has an event -/
theorem less_node {nodes : List Str} {es : List Ev} {x : Str} (hf : NodesOk (nodes.filter fun y => decide (y ≠ x))) {i : Nat} {e : Ev} (he : es[i]? = some e) (hx : e.node' = x) : ¬ RunOk (nodes.filter fun y => decide (y ≠ x)) es := fun ok => by
  have f := ev_in hf ok he
  have : x ∈ nodes.filter fun y => decide (y ≠ x) := by
    cases e with
    | snd y rs => exact (show y = x from hx) ▸ f.1
    | opn y s n => exact (show y = x from hx) ▸ f.1
  rw [List.mem_filter] at this
  simp at this
theorem fewer_ok {nodes : List Str} {x : Str} (hn : NodesOk nodes) (h : 2 < nodes.length) : NodesOk (nodes.filter fun y => decide (y ≠ x)) := by
  have h1 : nodes.length ≤ (nodes.filter fun y => decide (y ≠ x)).length + 1 := by
    have := hn.nodup
    have e : ∀ l : List Str, l.Nodup → l.length ≤ (l.filter fun y => decide (y ≠ x)).length + 1 := by
      intro l
      induction l with
      | nil => exact fun _ => by simp
      | cons a l ih =>
        intro nd
        obtain ⟨n1, n2⟩ := List.nodup_cons.mp nd
        by_cases c : a = x
        · subst c
          have : (l.filter fun y => decide (y ≠ a)) = l := List.filter_eq_self.mpr fun y hy => by
            rw [decide_eq_true_eq]
            exact fun z => n1 (by rw [← z]; exact hy)
          rw [List.filter_cons_of_neg (by simp), this]
          simp
        · rw [List.filter_cons_of_pos (by simpa using c)]
          have := ih n2
          simp only [List.length_cons]
          omega
    exact e nodes this
  have hi := hn.hi
  have h2 := List.length_filter_le (fun y => decide (y ≠ x)) nodes
  exact ⟨by omega, by omega, fun z hz => hn.nm z (List.mem_filter.mp hz).1, hn.asc.sublist List.filter_sublist⟩
/-- after zip and dict everything stands as it stood -/
theorem zip_same {H : Hp} {n a b p : Addr} {o : HO} (hf : ∀ c, n ≤ c → H c = none) (hp : ovr H (ZF n a b) p = none) : Same H (upd (zdrop (ovr H (ZF n a b)) n a b) p o) := fun c u e => by
  have hz : ZF n a b c = none := by
    cases z : ZF n a b c with
    | none => rfl
    | some o' => rw [hf c (zf_new z).1] at e; cases e
  have h1 : ovr H (ZF n a b) c = some u := (ovr_out hz).trans e
  refine (upd_ne fun z => ?_).trans ?_
  · rw [z, hp] at h1; cases h1
  · unfold zdrop
    rw [hz]
    exact h1
end KA
namespace KA
open PySem PySem.Spec PyProof.Rows L2 L2.Dx Kx
theorem paired_nodes {K : PySem.W.Frag} {H : Hp} : ∀ {ps : List Addr} {nodes : List Str}, ps.length = nodes.length → (∀ (j : Nat) (a : Addr) (x : Str), ps[j]? = some a → nodes[j]? = some x → H a = some (.tup [.str x, .str x])) → Paired (fun p kv => SqT K H p [kV kv.1, kv.2]) ps (nodes.map fun x => ((Sum.inr x : Key), V.str x))
  | [], [], _, _ => .nil
  | [], _ :: _, h, _ => by cases h
  | _ :: _, [], h, _ => by cases h
  | p :: ps, x :: nodes, h, f => .cons (tpI (f 0 p x rfl rfl)) (paired_nodes (by simpa using h) fun j a y h1 h2 => f (j + 1) a y (by simpa using h1) (by simpa using h2))
theorem putK_fresh {kvs : List (Key × V)} {k : Key} {v : V} (h : ∀ p ∈ kvs, p.1 ≠ k) : putK kvs k v = kvs ++ [(k, v)] := by
  unfold putK
  rw [if_neg]
  rw [Bool.not_eq_true, List.any_eq_false]
  intro p hp
  simpa using h p hp
theorem mergeK_nodup : ∀ (more acc : List (Key × V)), ((acc ++ more).map (·.1)).Nodup → mergeK acc more = acc ++ more
  | [], acc, _ => by rw [List.append_nil]; rfl
  | p :: more, acc, h => by
    have e : mergeK acc (p :: more) = mergeK (putK acc p.1 p.2) more := rfl
    rw [e, putK_fresh fun q hq z => by
      rw [List.map_append, List.nodup_append] at h
      exact h.2.2 q.1 (List.mem_map_of_mem hq) p.1 (by simp) z, mergeK_nodup more (acc ++ [(p.1, p.2)]) (by rw [List.append_assoc]; exact h), List.append_assoc]
    rfl
theorem merge_nodes {nodes : List Str} (h : nodes.Nodup) : mergeK [] (nodes.map fun x => ((Sum.inr x : Key), V.str x)) = nodes.map fun x => ((Sum.inr x : Key), V.str x) := by
  rw [mergeK_nodup _ [] (by
    rw [List.nil_append, List.map_map]
    exact List.Pairwise.map _ (fun a b hab e => hab (Sum.inr.inj e)) h)]
  rfl
end KA

set_option Elab.async false
set_option linter.all false
set_option maxRecDepth 100000
set_option maxHeartbeats 16000000
namespace KA
open PySem PySem.Spec PyProof.Rows L2 L2.Dx Kx
section
variable {P : Program} {w : World} {K : PySem.W.Frag} {mg : Str → Option Value} {base : Heap}
theorem same_but {H0 H H' : Hp} {sd : Addr} (s : Same H0 H) (h : H0 sd = none) (b : But [sd] H H') : Same H0 H' := fun a o e => b a o (by simpa using ne_of_none e h) (s a o e)
theorem seed_same {H H' : Hp} {sd : Addr} (h : SeedAt H sd) (s : Same H H') : SeedAt H' sd := by
  obtain ⟨x, y, z, h1, h2⟩ := h
  exact ⟨x, y, z, s _ _ h1, h2⟩
def sp_right : Sp := fun vs H Q _ => ∃ (ρ : Str → Str) (N R D M : Addr) (nodes others : List Str) (as : List Addr) (es : List Ev), vs = [.ref N, .ref R, .ref D, .ref M] ∧ H N = some (.lst (nodes.map V.str)) ∧ NodesOk nodes ∧ H M = some (.lst (others.map V.str)) ∧ NodesOk others ∧ Ren ρ nodes others ∧ RunAt H R as es ∧ es.length ≤ 900 ∧ RunOk nodes es ∧
  H D = some (.dK (nodes.map fun x => ((Sum.inr x : Key), V.str (ρ x)))) ∧ ∀ H', Same H H' → Q (.bl true) H'
theorem ok__law_right (T : Txt K mg) : FnOk P w K mg base CX0 5 T.f__law_right T.fd__law_right ["nodes", "run", "names", "others"] sp_right := by
  refine (okv__law_right T).weak ?_
  rintro vs H Q E ⟨ρ, N, R, D, M, nodes, others, as, es, rfl, hN, hn, hM, ho, r, hR, hl, ok, hD, q⟩
  refine ⟨[stD nodes, runD es, namesD ρ nodes, stD others], .bool true, fun _ => False, ?_, fun _ z => z.elim, rfl, F_right hn ho r ok hl, fun v H' s hv => ?_⟩
  · have : Vs.Hm H (fun _ => False) = H := by
      funext a
      unfold Vs.Hm
      rw [if_neg fun z => z]
    rw [this]
    refine .cons (at_stD' hN) (.cons (runD_at hR) (.cons ?_ (.cons (at_stD' hM) .nil)))
    have e1 : (nodes.map fun x => (PyData.str x, PyData.str (ρ x))) = ((nodes.map (Sum.inr : Str → Key)).map kD).zip (nodes.map fun x => PyData.str (ρ x)) := by
      rw [List.map_map, zip_map_map]
      rfl
    show Vs.At K H _ (.dict (nodes.map fun x => (PyData.str x, PyData.str (ρ x))))
    rw [e1]
    refine .dk (vs := nodes.map fun x => V.str (ρ x)) (.inl ?_) (by simp) ?_
    · rw [zip_map_map]
      exact hD
    · have : ∀ l : List Str, Vs.AtAll K H (l.map fun x => V.str (ρ x)) (l.map fun x => PyData.str (ρ x)) := by
        intro l
        induction l with
        | nil => exact .nil
        | cons a l ih => exact .cons (.str _) ih
      exact this nodes
  · cases hv
    exact q _ s
def sp_law (K : PySem.W.Frag) : Sp := fun vs H Q _ => ∃ (S : Addr) (ns : List Int), vs = [.ref S] ∧ SqL K H S (ns.map V.int) ∧ ns.length ≤ 63 ∧ ∀ H', Q (.bl true) H'
theorem ok_law (T : Txt K mg) : FnOk P w K mg base CX0 6 T.f_law T.fd_law ["script"] (sp_law K) := by
  refine T.F_law.ok sc_law (fun vs H Q E h => ?_) (fun cdv A outer s H vs Q E hr h => ?_)
  · obtain ⟨S, ns, rfl, _⟩ := h
    rfl
  · obtain ⟨S, ns, rfl, hS, hns, q⟩ := h
    refine ⟨_, (pss_cons (ps_for PassesOwn.never rfl (pi_range1 (by rfl) T.m_range (pa_cons (pe_callB (call_max2 rfl) (by rfl) T.m_max (by decide +kernel) (pa_cons pe_int (pa_cons (pe_callB (call_min2 rfl) (by rfl) T.m_min (by decide +kernel) (pa_cons pe_int (pa_cons (pe_op op_add (pe_callB call_len_seq (by rfl) T.m_len PySem.boot_len (pa_cons (pv 0) pa_nil)) pe_int) pa_nil))) pa_nil))) pa_nil)) (pg_name (i := 1) sc_law.nd rfl (by first | exact .inl rfl | exact .inr rfl))
      (pss_cons (ps_set (i := 2) sc_law.nd rfl (by first | exact .inl rfl | exact .inr rfl) (pe_call (ok__law_seed T) (hr.mono (by decide)) rfl T.M__law_seed T.F__law_seed.kp (b__law_seed T) .nil pass0 (pa_cons (pv 0) (pa_cons (pv 1) pa_nil))))
      (pss_cons (ps_set (i := 3) sc_law.nd rfl (by first | exact .inl rfl | exact .inr rfl) (pe_call (ok__law_nodes T) (hr.mono (by decide)) rfl T.M__law_nodes T.F__law_nodes.kp (b__law_nodes T) .nil pass0 (pa_cons (pv 2) (pa_cons pe_int pa_nil))))
      (pss_cons (ps_set (i := 4) sc_law.nd rfl (by first | exact .inl rfl | exact .inr rfl) (pe_call (ok__law_run T) (hr.mono (by decide)) rfl T.M__law_run T.F__law_run.kp (b__law_run T) .nil pass0 (pa_cons (pv 2) (pa_cons (pv 3) (pa_cons pe_int pa_nil)))))
      (pss_cons (ps_set (i := 5) sc_law.nd rfl (by first | exact .inl rfl | exact .inr rfl) (pe_call (ok__law_nodes T) (hr.mono (by decide)) rfl T.M__law_nodes T.F__law_nodes.kp (b__law_nodes T) .nil pass0 (pa_cons (pv 2) (pa_cons pe_int pa_nil))))
      (pss_cons (ps_if (pt_cmpR op_ge (pe_callB call_len_seq (by rfl) T.m_len PySem.boot_len (pa_cons (pv 5) pa_nil)) (pe_callB call_len_seq (by rfl) T.m_len PySem.boot_len (pa_cons (pv 3) pa_nil)) (nomark _))
        (pss_cons (ps_set (i := 5) sc_law.nd rfl (by first | exact .inl rfl | exact .inr rfl) (pe_slice sl_list (pv 5) po_none (po_some (pe_callB call_len_seq (by rfl) T.m_len PySem.boot_len (pa_cons (pv 3) pa_nil)))))
        (pss_one (ps_if (pt_not (pt_val (pe_call (ok__law_right T) (hr.mono (by decide)) rfl T.M__law_right T.F__law_right.kp (b__law_right T) .nil pass0 (pa_cons (pv 3) (pa_cons (pv 4) (pa_cons (pe_callTy (L2.Dx.cr_dictZip rfl) (by rfl) T.m_dict (by decide +kernel) (pa_cons (pe_callTy L2.Dx.cr_zip (by rfl) T.m_zip (by decide +kernel) (pa_cons (pv 3) (pa_cons (pv 5) pa_nil))) pa_nil)) (pa_cons (pv 5) pa_nil)))))))
          (pss_one (ps_ret pe_bl))
          pss_nil)))
        pss_nil)
      (pss_cons (ps_set (i := 6) sc_law.nd rfl (by first | exact .inl rfl | exact .inr rfl) (pe_callTy (call_dictP rfl) (by rfl) T.m_dict (by decide +kernel) (pa_cons (pe_lc (own := [("node", 8)]) rfl sc_law.nd (pi_list (pv 3)) (blkOk_by (N := ["script", "k", "seed", "nodes", "run", "others", "same", "used", "node", "fewer", "event", "one"]) (sc := defScope s_law) (by decide +kernel)) (fun _ _ _ _ _ => (pg_name (i := 8) sc_law.nd rfl (by first | exact .inl rfl | exact .inr rfl))) (fun _ _ _ _ _ => pts_nil) (fun _ _ _ _ _ => (pe_tup (pa_cons (pv 8) (pa_cons (pv 8) pa_nil))))) pa_nil)))
      (pss_cons (ps_if (pt_not (pt_val (pe_call (ok__law_right T) (hr.mono (by decide)) rfl T.M__law_right T.F__law_right.kp (b__law_right T) .nil pass0 (pa_cons (pv 3) (pa_cons (pv 4) (pa_cons (pv 6) (pa_cons (pe_callB cr_sortedS (by rfl) T.m_sorted (by decide +kernel) (pa_cons (pe_op op_cat (pv 3) (pe_lst (pa_cons pe_str pa_nil))) pa_nil)) pa_nil)))))))
        (pss_one (ps_ret pe_bl))
        pss_nil)
      (pss_cons (ps_setLc (i := 7) (own := [("event", 10)]) rfl sc_law.nd rfl rfl (sw_true rfl rfl rfl (by decide +kernel)) (pi_list (pv 4)) (blkOk_by (N := ["script", "k", "seed", "nodes", "run", "others", "same", "used", "node", "fewer", "event", "one"]) (sc := defScope s_law) (by decide +kernel)) (fun _ _ _ _ _ => (pg_name (i := 10) sc_law.nd rfl (by first | exact .inl rfl | exact .inr rfl))) (fun _ _ _ _ _ => pts_nil) (fun _ _ _ _ _ => (pe_ix (ix_tupK (K := K) rfl) (pv 10) pe_int (fun _ _ => rfl))))
      (pss_one (ps_for PassesOwn.never rfl (pi_list (pv 3)) (pg_name (i := 8) sc_law.nd rfl (by first | exact .inl rfl | exact .inr rfl))
        (pss_cons (ps_setLc (i := 9) (own := [("one", 11)]) rfl sc_law.nd rfl rfl (sw_true rfl rfl rfl (by decide +kernel)) (pi_list (pv 3)) (blkOk_by (N := ["script", "k", "seed", "nodes", "run", "others", "same", "used", "node", "fewer", "event", "one"]) (sc := defScope s_law) (by decide +kernel)) (fun _ _ _ _ _ => (pg_name (i := 11) sc_law.nd rfl (by first | exact .inl rfl | exact .inr rfl))) (fun _ _ _ _ _ => (pts_one (pt_cmpR op_ne (pv 11) (pv 8) (nomark _)))) (fun _ _ _ _ _ => (pv 11)))
        (pss_one (ps_if (PW.pt (pw_and (pt_cmpR op_gt (pe_callB call_len_seq (by rfl) T.m_len PySem.boot_len (pa_cons (pv 3) pa_nil)) pe_int (nomark _)) (pw_and (pt_cmpR op_in_seq (pv 8) (pv 7) rfl) (pw_and1 (pt_val (pe_call (ok_is_run T) (hr.mono (by decide)) rfl T.M_is_run T.F_is_run.kp (b_is_run T) .nil pass0 (pa_cons (pv 9) (pa_cons (pv 4) pa_nil))))))))
          (pss_one (ps_ret pe_bl))
          pss_nil))))))))))))))
    (pss_one (ps_ret pe_bl))), ?_⟩
    obtain ⟨cnt, hc1, hc2⟩ : ∃ c : Nat, c ≤ 6 ∧ (if (if (ns.length : Int) + 1 < 6 then (ns.length : Int) + 1 else 6) > 1 then (if (ns.length : Int) + 1 < 6 then (ns.length : Int) + 1 else 6) else 1) = (c : Int) := by
      by_cases c : ns.length + 1 < 6
      · rw [if_pos (by omega : (ns.length : Int) + 1 < 6)]
        by_cases d : 1 < ns.length + 1
        · exact ⟨ns.length + 1, by omega, by rw [if_pos (by omega)]; omega⟩
        · exact ⟨1, by omega, by rw [if_neg (by omega)]; rfl⟩
      · rw [if_neg (by omega : ¬ (ns.length : Int) + 1 < 6)]
        exact ⟨6, by omega, by rw [if_pos (by decide)]; rfl⟩
    refine ⟨.ref S, rfl, S, _, rfl, .inl hS, _, 1, rfl, rfl, 6, _, rfl, 1, _, rfl, (cnt : Nat), ?_, by omega, by omega, for_range (fun i σ H' => SqL K H' S (ns.map V.int) ∧ ∃ y1 y2 y3 y4 y5 y6 y7 y8 y9 y10 y11, σ = [some (.ref S), y1, y2, y3, y4, y5, y6, y7, y8, y9, y10, y11]) ?_ ?_ ?_⟩
    · rw [List.length_map, hc2]
    · exact ⟨hS, none, none, none, none, none, none, none, none, none, none, none, rfl⟩
    · rintro i σ H0 hi ⟨hS0, y1, y2, y3, y4, y5, y6, y7, y8, y9, y10, y11, rfl⟩
      rw [Int.toNat_natCast] at hi
      -- seed
      refine ⟨.ref S, rfl, _, rfl, S, ns, i, by rw [Int.zero_add]; rfl, hS0, by omega, fun H1 sd s1 nsd hs1 => ?_⟩
      -- nodes
      refine ⟨.ref sd, rfl, sd, 8, rfl, hs1, by decide, by decide, fun H4 N nodes b4 hs4 hN0 hN4 hn hpool hnl hNsd => ?_⟩
      have s4 : Same H0 H4 := same_but s1 nsd b4
      -- run
      refine ⟨.ref sd, rfl, .ref N, rfl, sd, N, nodes, 40, rfl, hs4, hNsd, hN4, hn, by decide, fun H8 R as es b8 hs8 hR0 hR8 hlen ok hRsd => ?_⟩
      have s8 : Same H0 H8 := same_but s4 nsd b8
      have hN8 := b8 _ _ (seed_strs hs4 hN4) hN4
      -- other names
      refine ⟨.ref sd, rfl, sd, 8, rfl, hs8, by decide, by decide, fun H9 M others b9 hs9 hM0 hM9 ho hpoolo hno hMsd => ?_⟩
      have s9 : Same H0 H9 := same_but s8 nsd b9
      obtain ⟨hN9, hR9⟩ := Given.but' hs8 b9 hN8 hR8
      clear s4 b8 hs4 hN4 hN0 b4 hs1 s1 hR8 hN8 hR0 s8 b9 hs8 hM0 hs9
      by_cases c : nodes.length ≤ others.length
      · refine ⟨.ref M, rfl, M, _, rfl, .inl (ltI hM9), .ref N, rfl, N, _, rfl, .inl (ltI hN9), _, _, rfl, rfl, true, ?_, iteT ?_⟩
        · exact congrArg V.bl (decide_eq_true (by rw [List.length_map, List.length_map]; omega))
        refine ⟨.ref M, rfl, .ref N, rfl, N, _, rfl, .inl (ltI hN9), _, rfl, M, _, rfl, ltI hM9, fun l hl => ?_⟩
        have hcut : cutV (others.map V.str) none (some (((nodes.map V.str).length : Nat) : Int)) = (others.take nodes.length).map V.str := by
          rw [List.length_map]
          unfold cutV HT.sIx
          dsimp only
          rw [if_neg (by omega), List.drop_zero, List.length_map, Int.toNat_natCast, Nat.min_eq_left c, Nat.sub_zero, List.map_take]
        rw [hcut]
        have t10 := same_new (o := .lst ((others.take nodes.length).map V.str)) hl
        have hl10 : (upd H9 l (.lst ((others.take nodes.length).map V.str))) l = some (.lst ((others.take nodes.length).map V.str)) := upd_same
        generalize upd H9 l (.lst ((others.take nodes.length).map V.str)) = H10 at t10 hl10 ⊢
        have htk : (others.take nodes.length).length = nodes.length := by rw [List.length_take]; omega
        have ho' := ho.take' hn.lo c
        obtain ⟨ρ, hρ, rρ⟩ := ren_zip hn ho' htk
        have hN10 := t10 _ _ hN9
        refine ⟨.ref N, rfl, .ref R, rfl, .ref N, rfl, .ref l, rfl, N, l, nodes.map V.str, _, rfl, ltI hN10, ltI hl10, fun n h0 hf ln ll => ?_⟩
        have zo : ∀ {b : Addr}, b < n → ZF n N l b = none := fun {b} hb => by
          cases z : ZF n N l b with
          | none => rfl
          | some o => exact absurd (zf_new z).1 (Nat.not_le_of_lt hb)
        refine ⟨n, N, l, nodes.map Sum.inr, (others.take nodes.length).map V.str, rfl, h0, ln, ll, fun c o e => ovr_in e, ltI (by rw [ovr_out (zo ln), hN10, List.map_map]; rfl), ltI ((ovr_out (zo ll)).trans hl10), by rw [List.length_map, List.length_map, htk], ?_, fun p hp => ?_⟩
        · exact List.Pairwise.map _ (fun a b hab e => hab (Sum.inr.inj e)) hn.nodup
        have s11 := zip_same (o := .dK ((nodes.map Sum.inr).zip ((others.take nodes.length).map V.str))) hf hp
        refine ⟨.ref l, rfl, ρ, N, R, p, l, nodes, others.take nodes.length, as, es, rfl, s11 _ _ hN10, hn, s11 _ _ hl10, ho', rρ, hR9.same (t10.trans s11), by omega, ok, ?_, fun Hz s12 => ⟨_, rfl, iteF ?_⟩⟩
        · rw [upd_same, ← hρ, List.map_map, zip_map_map]
          rfl
        have sz := t10.trans (s11.trans s12)
        have hNz := sz _ _ hN9
        have hRz := hR9.same sz
        have sz := s9.trans sz
        clear s11 s12 t10 hl10 hp hf
        -- the same names
        refine ⟨.ref N, rfl, N, rfl, ⟨_, ltI hNz⟩, fun Dl hDl => lc_list (xs := nodes.map V.str) (fun i H' => Same Hz H' ∧ ∃ ps : List Addr, ps.length = i ∧ H' Dl = some (.lst (ps.map V.ref)) ∧ ∀ (j : Nat) (a : Addr) (x : Str), ps[j]? = some a → nodes[j]? = some x → H' a = some (.tup [.str x, .str x])) ⟨same_new hDl, [], rfl, upd_same, fun j a x z => by simp at z⟩ (fun i H' _ hI => ltI (hI.1 _ _ hNz)) ?_ ?_⟩
        · rintro i v H' hx ⟨s', ps, hpl, hD', hps⟩
          rw [List.getElem?_map] at hx
          obtain ⟨x, hxi, rfl⟩ := Option.map_eq_some_iff.mp hx
          have hi := (List.getElem?_eq_some_iff.mp hxi).1
          refine ⟨by simp [wipe, List.set_set], ?_⟩
          dsimp only [tYes]
          rw [if_pos rfl]
          refine ⟨.str x, rfl, .str x, rfl, by show 2 ≤ sizeLine; decide, fun p hp => ?_⟩
          have z1 := same_new (o := .tup [.str x, .str x]) hp
          refine ⟨_, z1 _ _ hD', small1000 (by rw [List.length_map]; omega), ?_, ps ++ [p], by simp [hpl], by rw [upd_same, List.map_append]; rfl, fun j a y h1 h2 => ?_⟩
          · exact same_put (s'.trans z1) hDl
          · have na : ∀ {b : Addr} {xs : List V}, (upd H' p (.tup [.str x, .str x])) b = some (.tup xs) → b ≠ Dl := fun {b xs} e z => by
              rw [z, z1 _ _ hD'] at e
              cases e
            by_cases c2 : j < ps.length
            · rw [List.getElem?_append_left c2] at h1
              have := z1 _ _ (hps j a y h1 h2)
              exact (upd_ne (na this)).trans this
            · have h3 : j = ps.length := by
                have := (List.getElem?_eq_some_iff.mp h1).1
                simp at this
                omega
              subst h3
              rw [hpl] at h2
              rw [hxi] at h2
              cases h2
              simp at h1
              subst h1
              exact (upd_ne (na upd_same)).trans upd_same
        rintro H13 ⟨s13, ps, hpl, hD13, hps⟩
        rw [List.length_map] at hpl
        refine ⟨Dl, ps, nodes.map (fun x => ((Sum.inr x : Key), V.str x)), rfl, ltI hD13, paired_nodes hpl hps, fun pD hpD => ?_⟩
        rw [merge_nodes hn.nodup]
        have s14 := s13.trans (same_new (o := .dK (nodes.map fun x => ((Sum.inr x : Key), V.str x))) hpD)
        have hpD14 : (upd H13 pD (.dK (nodes.map fun x => ((Sum.inr x : Key), V.str x)))) pD = some (.dK (nodes.map fun x => ((Sum.inr x : Key), V.str x))) := upd_same
        generalize upd H13 pD (.dK (nodes.map fun x => ((Sum.inr x : Key), V.str x))) = H14 at s14 hpD14 ⊢
        clear hD13 hps s13 hpD
        -- one name more
        refine ⟨.ref N, rfl, .ref R, rfl, .ref pD, rfl, .ref N, rfl, by show 1 ≤ sizeLine; decide, fun lq hlq => ?_⟩
        have s15 := s14.trans (same_new (o := .lst [.str "q"]) hlq)
        have hpD15 := same_new (o := .lst [.str "q"]) hlq _ _ hpD14
        have hlq15 : (upd H14 lq (.lst [.str "q"])) lq = some (.lst [.str "q"]) := upd_same
        generalize upd H14 lq (.lst [.str "q"]) = H15 at s15 hpD15 hlq15 ⊢
        have n12 := hn.hi
        refine ⟨N, lq, nodes.map V.str, [.str "q"], rfl, rfl, s15 _ _ hNz, hlq15, ?_, fun lc hlc => ?_⟩
        · exact Nat.le_trans (show (nodes.map V.str).length + 1 ≤ 100000 by rw [List.length_map]; omega) (by decide)
        have s16 := s15.trans (same_new (o := .lst (nodes.map V.str ++ [.str "q"])) hlc)
        have hpD16 := same_new (o := .lst (nodes.map V.str ++ [.str "q"])) hlc _ _ hpD15
        have hlc16 : (upd H15 lc (.lst (nodes.map V.str ++ [.str "q"]))) lc = some (.lst ((nodes ++ [("q" : Str)]).map V.str)) := upd_same.trans (by rw [List.map_append]; rfl)
        generalize upd H15 lc (.lst (nodes.map V.str ++ [.str "q"])) = H16 at s16 hpD16 hlc16 ⊢
        refine ⟨lc, nodes ++ [("q" : Str)], rfl, ltI hlc16, by rw [List.length_append, List.length_singleton]; omega, fun ys pS perm asc hpS => ?_⟩
        obtain ⟨hys, rid⟩ := nodes_q hn hpool hnl perm asc
        have s17 := s16.trans (same_new (o := .lst (ys.map V.str)) hpS)
        have hpD17 := same_new (o := .lst (ys.map V.str)) hpS _ _ hpD16
        refine ⟨id, N, R, pD, pS, nodes, ys, as, es, rfl, s17 _ _ hNz, hn, upd_same, hys, rid, hRz.same s17, by omega, ok, hpD17, fun H18 s18 => ⟨_, rfl, iteF ?_⟩⟩
        have s18 := s17.trans s18
        clear s14 s15 s16 s17 hpD14 hpD15 hpD16 hpD17 hlq15 hlc16 hpS hlc hlq perm asc
        have hN18 := s18 _ _ hNz
        have hR18 := hRz.same s18
        have sz18 := sz.trans s18
        -- the nodes of the events
        refine ⟨.ref R, rfl, R, rfl, ⟨_, ltI hR18.at'⟩, fun Du hDu => lc_list (xs := as.map V.ref) (fun i H' => Same H18 H' ∧ H' Du = some (.lst ((es.take i).map fun e => V.str e.node'))) ⟨same_new hDu, upd_same⟩ (fun i H' _ hI => ltI (hI.1 _ _ hR18.at')) ?_ ?_⟩
        · rintro i v H' hx ⟨s', hD'⟩
          rw [List.getElem?_map] at hx
          obtain ⟨a, hai, rfl⟩ := Option.map_eq_some_iff.mp hx
          have hi := (List.getElem?_eq_some_iff.mp hai).1
          obtain ⟨e, he⟩ : ∃ e, es[i]? = some e := ⟨_, List.getElem?_eq_getElem (by rw [← hR18.len]; exact hi)⟩
          have hev := (hR18.ev i a e hai he).same s'
          refine ⟨by simp [wipe, List.set_set], ?_⟩
          dsimp only [tYes]
          rw [if_pos rfl]
          have hlen : ((es.take i).map fun e => V.str e.node').length < sizeLine := small1000 (by rw [List.length_map]; exact Nat.le_trans (List.length_take_le' _ _) (by omega))
          have fin : Same H18 (upd H' Du (.lst ((es.take i).map (fun e => V.str e.node') ++ [.str e.node']))) ∧ (upd H' Du (.lst ((es.take i).map (fun e => V.str e.node') ++ [.str e.node']))) Du = some (.lst ((es.take (i + 1)).map fun e => V.str e.node')) :=
            ⟨same_put s' hDu, by rw [upd_same, take_snoc he, List.map_append]; rfl⟩
          cases e with
          | snd x rs =>
            obtain ⟨l2, g1, g2⟩ := hev
            exact ⟨.ref a, rfl, a, _, 1, .str x, rfl, rfl, tpI g1, rfl, _, hD', hlen, fin⟩
          | opn x t n =>
            obtain ⟨l2, g1, g2⟩ := hev
            exact ⟨.ref a, rfl, a, _, 1, .str x, rfl, rfl, tpI g1, rfl, _, hD', hlen, fin⟩
        rintro H19 ⟨s19, hD19⟩
        rw [List.length_map, hR18.len, List.take_length] at hD19
        have hN19 := s19 _ _ hN18
        have hR19 := hR18.same s19
        have sz19 := sz18.trans s19
        -- without a node
        refine ⟨.ref N, rfl, N, rfl, ⟨_, ltI hN19⟩, for_list (xs := nodes.map V.str) (fun i σ H' => Same H19 H' ∧ ∃ v2 v5 v6 v8 v9 v10 v11, σ = [some (.ref S), v2, v5, some (.ref N), some (.ref R), v6, v8, some (.ref Du), v9, v10, v11.1, v11.2]) ⟨Same.refl _, _, _, _, _, _, _, (_, _), rfl⟩ (fun i σ H' _ hI => ltI (hI.1 _ _ hN19)) ?_ ?_⟩
        · rintro i v σ H' hx ⟨s', v2, v5, v6, v8, v9, v10, v11, rfl⟩
          rw [List.getElem?_map] at hx
          obtain ⟨x, hxi, rfl⟩ := Option.map_eq_some_iff.mp hx
          have hN' := s' _ _ hN19
          refine ⟨.ref N, rfl, N, rfl, ⟨_, ltI hN'⟩, fun Df hDf => lc_others (x := x) (show 11 < 12 by decide) (by decide) rfl hN' (by omega) hDf fun H21 hb21 hD21 => ?_⟩
          have s21 : Same H' H21 := fun b o e => (hb21 b (ne_of_none e hDf)).trans e
          have hN21 := s21 _ _ hN'
          have hR21 := (hR19.same s').same s21
          have s' := s'.trans s21
          have hDu' : H21 Du = some (.lst ((es.map Ev.node').map V.str)) := (s' _ _ hD19).trans (by rw [List.map_map]; rfl)
          by_cases g1 : 2 < nodes.length
          · refine ⟨.ref N, rfl, N, _, rfl, .inl (ltI hN21), _, 2, rfl, rfl, true, ?_, iteT ⟨.str x, rfl, .ref Du, rfl, Du, _, rfl, .inl (ltI hDu'), rfl, flat_str _, _, rfl, ?_⟩⟩
            · exact congrArg V.bl (decide_eq_true (by rw [List.length_map]; omega))
            have e : (if (false = true) then !inV (.str x) ((es.map Ev.node').map V.str) else inV (.str x) ((es.map Ev.node').map V.str)) = decide (x ∈ es.map Ev.node') := inV_str
            rw [e]
            by_cases g2 : x ∈ es.map Ev.node'
            · rw [decide_eq_true g2]
              have hfo := fewer_ok (x := x) hn g1
              obtain ⟨e1, he1, hx1⟩ := List.mem_map.mp g2
              obtain ⟨k1, hk1⟩ := List.mem_iff_getElem?.mp he1
              exact iteT ⟨.ref Df, rfl, .ref R, rfl, Df, R, _, as, es, rfl, ⟨hD21, hfo, hR21, by omega, texts_of hn ok⟩, fun okf => absurd okf (less_node hfo hk1 hx1), fun _ H22 s22 => ⟨_, rfl, iteF ⟨s'.trans s22, _, _, _, _, _, _, (_, _), rfl⟩⟩⟩
            · rw [decide_eq_false g2]
              exact iteF (iteF ⟨s', _, _, _, _, _, _, (_, _), rfl⟩)
          · refine ⟨.ref N, rfl, N, _, rfl, .inl (ltI hN21), _, 2, rfl, rfl, false, ?_, iteF (iteF ⟨s', _, _, _, _, _, _, (_, _), rfl⟩)⟩
            exact congrArg V.bl (decide_eq_false (by rw [List.length_map]; omega))
        · rintro σ H' ⟨s', v2, v5, v6, v8, v9, v10, v11, rfl⟩
          exact ⟨sq_move hS0 fun o ho => (sz19.trans s') _ _ ho, _, _, _, _, _, _, _, _, _, _, _, rfl⟩
      · refine ⟨.ref M, rfl, M, _, rfl, .inl (ltI hM9), .ref N, rfl, N, _, rfl, .inl (ltI hN9), _, _, rfl, rfl, false, ?_, iteF ?_⟩
        · exact congrArg V.bl (decide_eq_false (by rw [List.length_map, List.length_map]; omega))
        have sz := s9
        have hNz := hN9
        have hRz := hR9
        generalize H9 = Hz at sz hNz hRz ⊢
        -- the same names
        refine ⟨.ref N, rfl, N, rfl, ⟨_, ltI hNz⟩, fun Dl hDl => lc_list (xs := nodes.map V.str) (fun i H' => Same Hz H' ∧ ∃ ps : List Addr, ps.length = i ∧ H' Dl = some (.lst (ps.map V.ref)) ∧ ∀ (j : Nat) (a : Addr) (x : Str), ps[j]? = some a → nodes[j]? = some x → H' a = some (.tup [.str x, .str x])) ⟨same_new hDl, [], rfl, upd_same, fun j a x z => by simp at z⟩ (fun i H' _ hI => ltI (hI.1 _ _ hNz)) ?_ ?_⟩
        · rintro i v H' hx ⟨s', ps, hpl, hD', hps⟩
          rw [List.getElem?_map] at hx
          obtain ⟨x, hxi, rfl⟩ := Option.map_eq_some_iff.mp hx
          have hi := (List.getElem?_eq_some_iff.mp hxi).1
          refine ⟨by simp [wipe, List.set_set], ?_⟩
          dsimp only [tYes]
          rw [if_pos rfl]
          refine ⟨.str x, rfl, .str x, rfl, by show 2 ≤ sizeLine; decide, fun p hp => ?_⟩
          have z1 := same_new (o := .tup [.str x, .str x]) hp
          refine ⟨_, z1 _ _ hD', small1000 (by rw [List.length_map]; omega), ?_, ps ++ [p], by simp [hpl], by rw [upd_same, List.map_append]; rfl, fun j a y h1 h2 => ?_⟩
          · exact same_put (s'.trans z1) hDl
          · have na : ∀ {b : Addr} {xs : List V}, (upd H' p (.tup [.str x, .str x])) b = some (.tup xs) → b ≠ Dl := fun {b xs} e z => by
              rw [z, z1 _ _ hD'] at e
              cases e
            by_cases c2 : j < ps.length
            · rw [List.getElem?_append_left c2] at h1
              have := z1 _ _ (hps j a y h1 h2)
              exact (upd_ne (na this)).trans this
            · have h3 : j = ps.length := by
                have := (List.getElem?_eq_some_iff.mp h1).1
                simp at this
                omega
              subst h3
              rw [hpl] at h2
              rw [hxi] at h2
              cases h2
              simp at h1
              subst h1
              exact (upd_ne (na upd_same)).trans upd_same
        rintro H13 ⟨s13, ps, hpl, hD13, hps⟩
        rw [List.length_map] at hpl
        refine ⟨Dl, ps, nodes.map (fun x => ((Sum.inr x : Key), V.str x)), rfl, ltI hD13, paired_nodes hpl hps, fun pD hpD => ?_⟩
        rw [merge_nodes hn.nodup]
        have s14 := s13.trans (same_new (o := .dK (nodes.map fun x => ((Sum.inr x : Key), V.str x))) hpD)
        have hpD14 : (upd H13 pD (.dK (nodes.map fun x => ((Sum.inr x : Key), V.str x)))) pD = some (.dK (nodes.map fun x => ((Sum.inr x : Key), V.str x))) := upd_same
        generalize upd H13 pD (.dK (nodes.map fun x => ((Sum.inr x : Key), V.str x))) = H14 at s14 hpD14 ⊢
        clear hD13 hps s13 hpD
        -- one name more
        refine ⟨.ref N, rfl, .ref R, rfl, .ref pD, rfl, .ref N, rfl, by show 1 ≤ sizeLine; decide, fun lq hlq => ?_⟩
        have s15 := s14.trans (same_new (o := .lst [.str "q"]) hlq)
        have hpD15 := same_new (o := .lst [.str "q"]) hlq _ _ hpD14
        have hlq15 : (upd H14 lq (.lst [.str "q"])) lq = some (.lst [.str "q"]) := upd_same
        generalize upd H14 lq (.lst [.str "q"]) = H15 at s15 hpD15 hlq15 ⊢
        have n12 := hn.hi
        refine ⟨N, lq, nodes.map V.str, [.str "q"], rfl, rfl, s15 _ _ hNz, hlq15, ?_, fun lc hlc => ?_⟩
        · exact Nat.le_trans (show (nodes.map V.str).length + 1 ≤ 100000 by rw [List.length_map]; omega) (by decide)
        have s16 := s15.trans (same_new (o := .lst (nodes.map V.str ++ [.str "q"])) hlc)
        have hpD16 := same_new (o := .lst (nodes.map V.str ++ [.str "q"])) hlc _ _ hpD15
        have hlc16 : (upd H15 lc (.lst (nodes.map V.str ++ [.str "q"]))) lc = some (.lst ((nodes ++ [("q" : Str)]).map V.str)) := upd_same.trans (by rw [List.map_append]; rfl)
        generalize upd H15 lc (.lst (nodes.map V.str ++ [.str "q"])) = H16 at s16 hpD16 hlc16 ⊢
        refine ⟨lc, nodes ++ [("q" : Str)], rfl, ltI hlc16, by rw [List.length_append, List.length_singleton]; omega, fun ys pS perm asc hpS => ?_⟩
        obtain ⟨hys, rid⟩ := nodes_q hn hpool hnl perm asc
        have s17 := s16.trans (same_new (o := .lst (ys.map V.str)) hpS)
        have hpD17 := same_new (o := .lst (ys.map V.str)) hpS _ _ hpD16
        refine ⟨id, N, R, pD, pS, nodes, ys, as, es, rfl, s17 _ _ hNz, hn, upd_same, hys, rid, hRz.same s17, by omega, ok, hpD17, fun H18 s18 => ⟨_, rfl, iteF ?_⟩⟩
        have s18 := s17.trans s18
        clear s14 s15 s16 s17 hpD14 hpD15 hpD16 hpD17 hlq15 hlc16 hpS hlc hlq perm asc
        have hN18 := s18 _ _ hNz
        have hR18 := hRz.same s18
        have sz18 := sz.trans s18
        -- the nodes of the events
        refine ⟨.ref R, rfl, R, rfl, ⟨_, ltI hR18.at'⟩, fun Du hDu => lc_list (xs := as.map V.ref) (fun i H' => Same H18 H' ∧ H' Du = some (.lst ((es.take i).map fun e => V.str e.node'))) ⟨same_new hDu, upd_same⟩ (fun i H' _ hI => ltI (hI.1 _ _ hR18.at')) ?_ ?_⟩
        · rintro i v H' hx ⟨s', hD'⟩
          rw [List.getElem?_map] at hx
          obtain ⟨a, hai, rfl⟩ := Option.map_eq_some_iff.mp hx
          have hi := (List.getElem?_eq_some_iff.mp hai).1
          obtain ⟨e, he⟩ : ∃ e, es[i]? = some e := ⟨_, List.getElem?_eq_getElem (by rw [← hR18.len]; exact hi)⟩
          have hev := (hR18.ev i a e hai he).same s'
          refine ⟨by simp [wipe, List.set_set], ?_⟩
          dsimp only [tYes]
          rw [if_pos rfl]
          have hlen : ((es.take i).map fun e => V.str e.node').length < sizeLine := small1000 (by rw [List.length_map]; exact Nat.le_trans (List.length_take_le' _ _) (by omega))
          have fin : Same H18 (upd H' Du (.lst ((es.take i).map (fun e => V.str e.node') ++ [.str e.node']))) ∧ (upd H' Du (.lst ((es.take i).map (fun e => V.str e.node') ++ [.str e.node']))) Du = some (.lst ((es.take (i + 1)).map fun e => V.str e.node')) :=
            ⟨same_put s' hDu, by rw [upd_same, take_snoc he, List.map_append]; rfl⟩
          cases e with
          | snd x rs =>
            obtain ⟨l2, g1, g2⟩ := hev
            exact ⟨.ref a, rfl, a, _, 1, .str x, rfl, rfl, tpI g1, rfl, _, hD', hlen, fin⟩
          | opn x t n =>
            obtain ⟨l2, g1, g2⟩ := hev
            exact ⟨.ref a, rfl, a, _, 1, .str x, rfl, rfl, tpI g1, rfl, _, hD', hlen, fin⟩
        rintro H19 ⟨s19, hD19⟩
        rw [List.length_map, hR18.len, List.take_length] at hD19
        have hN19 := s19 _ _ hN18
        have hR19 := hR18.same s19
        have sz19 := sz18.trans s19
        -- without a node
        refine ⟨.ref N, rfl, N, rfl, ⟨_, ltI hN19⟩, for_list (xs := nodes.map V.str) (fun i σ H' => Same H19 H' ∧ ∃ v2 v5 v6 v8 v9 v10 v11, σ = [some (.ref S), v2, v5, some (.ref N), some (.ref R), v6, v8, some (.ref Du), v9, v10, v11.1, v11.2]) ⟨Same.refl _, _, _, _, _, _, _, (_, _), rfl⟩ (fun i σ H' _ hI => ltI (hI.1 _ _ hN19)) ?_ ?_⟩
        · rintro i v σ H' hx ⟨s', v2, v5, v6, v8, v9, v10, v11, rfl⟩
          rw [List.getElem?_map] at hx
          obtain ⟨x, hxi, rfl⟩ := Option.map_eq_some_iff.mp hx
          have hN' := s' _ _ hN19
          refine ⟨.ref N, rfl, N, rfl, ⟨_, ltI hN'⟩, fun Df hDf => lc_others (x := x) (show 11 < 12 by decide) (by decide) rfl hN' (by omega) hDf fun H21 hb21 hD21 => ?_⟩
          have s21 : Same H' H21 := fun b o e => (hb21 b (ne_of_none e hDf)).trans e
          have hN21 := s21 _ _ hN'
          have hR21 := (hR19.same s').same s21
          have s' := s'.trans s21
          have hDu' : H21 Du = some (.lst ((es.map Ev.node').map V.str)) := (s' _ _ hD19).trans (by rw [List.map_map]; rfl)
          by_cases g1 : 2 < nodes.length
          · refine ⟨.ref N, rfl, N, _, rfl, .inl (ltI hN21), _, 2, rfl, rfl, true, ?_, iteT ⟨.str x, rfl, .ref Du, rfl, Du, _, rfl, .inl (ltI hDu'), rfl, flat_str _, _, rfl, ?_⟩⟩
            · exact congrArg V.bl (decide_eq_true (by rw [List.length_map]; omega))
            have e : (if (false = true) then !inV (.str x) ((es.map Ev.node').map V.str) else inV (.str x) ((es.map Ev.node').map V.str)) = decide (x ∈ es.map Ev.node') := inV_str
            rw [e]
            by_cases g2 : x ∈ es.map Ev.node'
            · rw [decide_eq_true g2]
              have hfo := fewer_ok (x := x) hn g1
              obtain ⟨e1, he1, hx1⟩ := List.mem_map.mp g2
              obtain ⟨k1, hk1⟩ := List.mem_iff_getElem?.mp he1
              exact iteT ⟨.ref Df, rfl, .ref R, rfl, Df, R, _, as, es, rfl, ⟨hD21, hfo, hR21, by omega, texts_of hn ok⟩, fun okf => absurd okf (less_node hfo hk1 hx1), fun _ H22 s22 => ⟨_, rfl, iteF ⟨s'.trans s22, _, _, _, _, _, _, (_, _), rfl⟩⟩⟩
            · rw [decide_eq_false g2]
              exact iteF (iteF ⟨s', _, _, _, _, _, _, (_, _), rfl⟩)
          · refine ⟨.ref N, rfl, N, _, rfl, .inl (ltI hN21), _, 2, rfl, rfl, false, ?_, iteF (iteF ⟨s', _, _, _, _, _, _, (_, _), rfl⟩)⟩
            exact congrArg V.bl (decide_eq_false (by rw [List.length_map]; omega))
        · rintro σ H' ⟨s', v2, v5, v6, v8, v9, v10, v11, rfl⟩
          exact ⟨sq_move hS0 fun o ho => (sz19.trans s') _ _ ho, _, _, _, _, _, _, _, _, _, _, _, rfl⟩
    · rintro σ H' _
      exact q _
end
end KA

set_option Elab.async false
set_option linter.all false
set_option maxRecDepth 100000
set_option maxHeartbeats 16000000
namespace KA
open PySem PySem.Spec PyProof.Rows L2 L2.Dx Kx
theorem all_mk {l : PySem.W.OpenLaw} {w : World} {K : PySem.W.Frag} {h : Heap} {mg : Str → Option Value} {fa : Addr} (X : K.In h) (G : h.Ns mainGlobals mg) (hfa : mg "law" = some (.ref fa))
    {f_is_nodes : Addr} {od_is_nodes an_is_nodes : Option Addr} {sl_is_nodes : Array (Option Value)} {oc_is_nodes kV_is_nodes dc_is_nodes pm_is_nodes cd_is_nodes ct_is_nodes : Value}
    {f_is_run : Addr} {od_is_run an_is_run : Option Addr} {sl_is_run : Array (Option Value)} {oc_is_run kV_is_run dc_is_run pm_is_run cd_is_run ct_is_run : Value}
    {f_messages_of : Addr} {od_messages_of an_messages_of : Option Addr} {sl_messages_of : Array (Option Value)} {oc_messages_of kV_messages_of dc_messages_of pm_messages_of cd_messages_of ct_messages_of : Value}
    {f_send_index : Addr} {od_send_index an_send_index : Option Addr} {sl_send_index : Array (Option Value)} {oc_send_index kV_send_index dc_send_index pm_send_index cd_send_index ct_send_index : Value}
    {f_open_index : Addr} {od_open_index an_open_index : Option Addr} {sl_open_index : Array (Option Value)} {oc_open_index kV_open_index dc_open_index pm_open_index cd_open_index ct_open_index : Value}
    {f_is_node : Addr} {od_is_node an_is_node : Option Addr} {sl_is_node : Array (Option Value)} {oc_is_node kV_is_node dc_is_node pm_is_node cd_is_node ct_is_node : Value}
    {f_is_receivers : Addr} {od_is_receivers an_is_receivers : Option Addr} {sl_is_receivers : Array (Option Value)} {oc_is_receivers kV_is_receivers dc_is_receivers pm_is_receivers cd_is_receivers ct_is_receivers : Value}
    {f_find_send : Addr} {od_find_send an_find_send : Option Addr} {sl_find_send : Array (Option Value)} {oc_find_send kV_find_send dc_find_send pm_find_send cd_find_send ct_find_send : Value}
    {f_scan_run : Addr} {od_scan_run an_scan_run : Option Addr} {sl_scan_run : Array (Option Value)} {oc_scan_run kV_scan_run dc_scan_run pm_scan_run cd_scan_run ct_scan_run : Value}
    {f_check_nodes : Addr} {od_check_nodes an_check_nodes : Option Addr} {sl_check_nodes : Array (Option Value)} {oc_check_nodes kV_check_nodes dc_check_nodes pm_check_nodes cd_check_nodes ct_check_nodes : Value}
    {f_check_run : Addr} {od_check_run an_check_run : Option Addr} {sl_check_run : Array (Option Value)} {oc_check_run kV_check_run dc_check_run pm_check_run cd_check_run ct_check_run : Value}
    {f_check_node : Addr} {od_check_node an_check_node : Option Addr} {sl_check_node : Array (Option Value)} {oc_check_node kV_check_node dc_check_node pm_check_node cd_check_node ct_check_node : Value}
    {f_check_message : Addr} {od_check_message an_check_message : Option Addr} {sl_check_message : Array (Option Value)} {oc_check_message kV_check_message dc_check_message pm_check_message cd_check_message ct_check_message : Value}
    {f__law_seed : Addr} {od__law_seed an__law_seed : Option Addr} {sl__law_seed : Array (Option Value)} {oc__law_seed kV__law_seed dc__law_seed pm__law_seed cd__law_seed ct__law_seed : Value}
    {f__law_next : Addr} {od__law_next an__law_next : Option Addr} {sl__law_next : Array (Option Value)} {oc__law_next kV__law_next dc__law_next pm__law_next cd__law_next ct__law_next : Value}
    {f__law_nodes : Addr} {od__law_nodes an__law_nodes : Option Addr} {sl__law_nodes : Array (Option Value)} {oc__law_nodes kV__law_nodes dc__law_nodes pm__law_nodes cd__law_nodes ct__law_nodes : Value}
    {f__law_run : Addr} {od__law_run an__law_run : Option Addr} {sl__law_run : Array (Option Value)} {oc__law_run kV__law_run dc__law_run pm__law_run cd__law_run ct__law_run : Value}
    {f__law_renamed : Addr} {od__law_renamed an__law_renamed : Option Addr} {sl__law_renamed : Array (Option Value)} {oc__law_renamed kV__law_renamed dc__law_renamed pm__law_renamed cd__law_renamed ct__law_renamed : Value}
    {f__law_right : Addr} {od__law_right an__law_right : Option Addr} {sl__law_right : Array (Option Value)} {oc__law_right kV__law_right dc__law_right pm__law_right cd__law_right ct__law_right : Value}
    {f_law : Addr} {od_law an_law : Option Addr} {sl_law : Array (Option Value)} {oc_law kV_law dc_law pm_law cd_law ct_law : Value}
    (a_is_nodes : PySem.W.nsIn K mainGlobals "is_nodes" = some (some (.ref f_is_nodes))) (l_is_nodes : K.lookup f_is_nodes = some ⟨oc_is_nodes, od_is_nodes, .func (PySem.W.fnOf "is_nodes" "is_nodes" (defArgs s_is_nodes) (defBody s_is_nodes) (defScope s_is_nodes) .none kV_is_nodes dc_is_nodes pm_is_nodes an_is_nodes cd_is_nodes ct_is_nodes), sl_is_nodes⟩) (c_is_nodes : PySem.W.codeIn K cd_is_nodes "is_nodes" = true) (k_is_nodes : PySem.W.keepIn K (.ref f_is_nodes) = true)
    (a_is_run : PySem.W.nsIn K mainGlobals "is_run" = some (some (.ref f_is_run))) (l_is_run : K.lookup f_is_run = some ⟨oc_is_run, od_is_run, .func (PySem.W.fnOf "is_run" "is_run" (defArgs s_is_run) (defBody s_is_run) (defScope s_is_run) .none kV_is_run dc_is_run pm_is_run an_is_run cd_is_run ct_is_run), sl_is_run⟩) (c_is_run : PySem.W.codeIn K cd_is_run "is_run" = true) (k_is_run : PySem.W.keepIn K (.ref f_is_run) = true)
    (a_messages_of : PySem.W.nsIn K mainGlobals "messages_of" = some (some (.ref f_messages_of))) (l_messages_of : K.lookup f_messages_of = some ⟨oc_messages_of, od_messages_of, .func (PySem.W.fnOf "messages_of" "messages_of" (defArgs s_messages_of) (defBody s_messages_of) (defScope s_messages_of) .none kV_messages_of dc_messages_of pm_messages_of an_messages_of cd_messages_of ct_messages_of), sl_messages_of⟩) (c_messages_of : PySem.W.codeIn K cd_messages_of "messages_of" = true) (k_messages_of : PySem.W.keepIn K (.ref f_messages_of) = true)
    (a_send_index : PySem.W.nsIn K mainGlobals "send_index" = some (some (.ref f_send_index))) (l_send_index : K.lookup f_send_index = some ⟨oc_send_index, od_send_index, .func (PySem.W.fnOf "send_index" "send_index" (defArgs s_send_index) (defBody s_send_index) (defScope s_send_index) .none kV_send_index dc_send_index pm_send_index an_send_index cd_send_index ct_send_index), sl_send_index⟩) (c_send_index : PySem.W.codeIn K cd_send_index "send_index" = true) (k_send_index : PySem.W.keepIn K (.ref f_send_index) = true)
    (a_open_index : PySem.W.nsIn K mainGlobals "open_index" = some (some (.ref f_open_index))) (l_open_index : K.lookup f_open_index = some ⟨oc_open_index, od_open_index, .func (PySem.W.fnOf "open_index" "open_index" (defArgs s_open_index) (defBody s_open_index) (defScope s_open_index) .none kV_open_index dc_open_index pm_open_index an_open_index cd_open_index ct_open_index), sl_open_index⟩) (c_open_index : PySem.W.codeIn K cd_open_index "open_index" = true) (k_open_index : PySem.W.keepIn K (.ref f_open_index) = true)
    (a_is_node : PySem.W.nsIn K mainGlobals "is_node" = some (some (.ref f_is_node))) (l_is_node : K.lookup f_is_node = some ⟨oc_is_node, od_is_node, .func (PySem.W.fnOf "is_node" "is_node" (defArgs s_is_node) (defBody s_is_node) (defScope s_is_node) .none kV_is_node dc_is_node pm_is_node an_is_node cd_is_node ct_is_node), sl_is_node⟩) (c_is_node : PySem.W.codeIn K cd_is_node "is_node" = true) (k_is_node : PySem.W.keepIn K (.ref f_is_node) = true)
    (a_is_receivers : PySem.W.nsIn K mainGlobals "is_receivers" = some (some (.ref f_is_receivers))) (l_is_receivers : K.lookup f_is_receivers = some ⟨oc_is_receivers, od_is_receivers, .func (PySem.W.fnOf "is_receivers" "is_receivers" (defArgs s_is_receivers) (defBody s_is_receivers) (defScope s_is_receivers) .none kV_is_receivers dc_is_receivers pm_is_receivers an_is_receivers cd_is_receivers ct_is_receivers), sl_is_receivers⟩) (c_is_receivers : PySem.W.codeIn K cd_is_receivers "is_receivers" = true) (k_is_receivers : PySem.W.keepIn K (.ref f_is_receivers) = true)
    (a_find_send : PySem.W.nsIn K mainGlobals "find_send" = some (some (.ref f_find_send))) (l_find_send : K.lookup f_find_send = some ⟨oc_find_send, od_find_send, .func (PySem.W.fnOf "find_send" "find_send" (defArgs s_find_send) (defBody s_find_send) (defScope s_find_send) .none kV_find_send dc_find_send pm_find_send an_find_send cd_find_send ct_find_send), sl_find_send⟩) (c_find_send : PySem.W.codeIn K cd_find_send "find_send" = true) (k_find_send : PySem.W.keepIn K (.ref f_find_send) = true)
    (a_scan_run : PySem.W.nsIn K mainGlobals "scan_run" = some (some (.ref f_scan_run))) (l_scan_run : K.lookup f_scan_run = some ⟨oc_scan_run, od_scan_run, .func (PySem.W.fnOf "scan_run" "scan_run" (defArgs s_scan_run) (defBody s_scan_run) (defScope s_scan_run) .none kV_scan_run dc_scan_run pm_scan_run an_scan_run cd_scan_run ct_scan_run), sl_scan_run⟩) (c_scan_run : PySem.W.codeIn K cd_scan_run "scan_run" = true) (k_scan_run : PySem.W.keepIn K (.ref f_scan_run) = true)
    (a_check_nodes : PySem.W.nsIn K mainGlobals "check_nodes" = some (some (.ref f_check_nodes))) (l_check_nodes : K.lookup f_check_nodes = some ⟨oc_check_nodes, od_check_nodes, .func (PySem.W.fnOf "check_nodes" "check_nodes" (defArgs s_check_nodes) (defBody s_check_nodes) (defScope s_check_nodes) .none kV_check_nodes dc_check_nodes pm_check_nodes an_check_nodes cd_check_nodes ct_check_nodes), sl_check_nodes⟩) (c_check_nodes : PySem.W.codeIn K cd_check_nodes "check_nodes" = true) (k_check_nodes : PySem.W.keepIn K (.ref f_check_nodes) = true)
    (a_check_run : PySem.W.nsIn K mainGlobals "check_run" = some (some (.ref f_check_run))) (l_check_run : K.lookup f_check_run = some ⟨oc_check_run, od_check_run, .func (PySem.W.fnOf "check_run" "check_run" (defArgs s_check_run) (defBody s_check_run) (defScope s_check_run) .none kV_check_run dc_check_run pm_check_run an_check_run cd_check_run ct_check_run), sl_check_run⟩) (c_check_run : PySem.W.codeIn K cd_check_run "check_run" = true) (k_check_run : PySem.W.keepIn K (.ref f_check_run) = true)
    (a_check_node : PySem.W.nsIn K mainGlobals "check_node" = some (some (.ref f_check_node))) (l_check_node : K.lookup f_check_node = some ⟨oc_check_node, od_check_node, .func (PySem.W.fnOf "check_node" "check_node" (defArgs s_check_node) (defBody s_check_node) (defScope s_check_node) .none kV_check_node dc_check_node pm_check_node an_check_node cd_check_node ct_check_node), sl_check_node⟩) (c_check_node : PySem.W.codeIn K cd_check_node "check_node" = true) (k_check_node : PySem.W.keepIn K (.ref f_check_node) = true)
    (a_check_message : PySem.W.nsIn K mainGlobals "check_message" = some (some (.ref f_check_message))) (l_check_message : K.lookup f_check_message = some ⟨oc_check_message, od_check_message, .func (PySem.W.fnOf "check_message" "check_message" (defArgs s_check_message) (defBody s_check_message) (defScope s_check_message) .none kV_check_message dc_check_message pm_check_message an_check_message cd_check_message ct_check_message), sl_check_message⟩) (c_check_message : PySem.W.codeIn K cd_check_message "check_message" = true) (k_check_message : PySem.W.keepIn K (.ref f_check_message) = true)
    (a__law_seed : PySem.W.nsIn K mainGlobals "_law_seed" = some (some (.ref f__law_seed))) (l__law_seed : K.lookup f__law_seed = some ⟨oc__law_seed, od__law_seed, .func (PySem.W.fnOf "_law_seed" "_law_seed" (defArgs s__law_seed) (defBody s__law_seed) (defScope s__law_seed) .none kV__law_seed dc__law_seed pm__law_seed an__law_seed cd__law_seed ct__law_seed), sl__law_seed⟩) (c__law_seed : PySem.W.codeIn K cd__law_seed "_law_seed" = true) (k__law_seed : PySem.W.keepIn K (.ref f__law_seed) = true)
    (a__law_next : PySem.W.nsIn K mainGlobals "_law_next" = some (some (.ref f__law_next))) (l__law_next : K.lookup f__law_next = some ⟨oc__law_next, od__law_next, .func (PySem.W.fnOf "_law_next" "_law_next" (defArgs s__law_next) (defBody s__law_next) (defScope s__law_next) .none kV__law_next dc__law_next pm__law_next an__law_next cd__law_next ct__law_next), sl__law_next⟩) (c__law_next : PySem.W.codeIn K cd__law_next "_law_next" = true) (k__law_next : PySem.W.keepIn K (.ref f__law_next) = true)
    (a__law_nodes : PySem.W.nsIn K mainGlobals "_law_nodes" = some (some (.ref f__law_nodes))) (l__law_nodes : K.lookup f__law_nodes = some ⟨oc__law_nodes, od__law_nodes, .func (PySem.W.fnOf "_law_nodes" "_law_nodes" (defArgs s__law_nodes) (defBody s__law_nodes) (defScope s__law_nodes) .none kV__law_nodes dc__law_nodes pm__law_nodes an__law_nodes cd__law_nodes ct__law_nodes), sl__law_nodes⟩) (c__law_nodes : PySem.W.codeIn K cd__law_nodes "_law_nodes" = true) (k__law_nodes : PySem.W.keepIn K (.ref f__law_nodes) = true)
    (a__law_run : PySem.W.nsIn K mainGlobals "_law_run" = some (some (.ref f__law_run))) (l__law_run : K.lookup f__law_run = some ⟨oc__law_run, od__law_run, .func (PySem.W.fnOf "_law_run" "_law_run" (defArgs s__law_run) (defBody s__law_run) (defScope s__law_run) .none kV__law_run dc__law_run pm__law_run an__law_run cd__law_run ct__law_run), sl__law_run⟩) (c__law_run : PySem.W.codeIn K cd__law_run "_law_run" = true) (k__law_run : PySem.W.keepIn K (.ref f__law_run) = true)
    (a__law_renamed : PySem.W.nsIn K mainGlobals "_law_renamed" = some (some (.ref f__law_renamed))) (l__law_renamed : K.lookup f__law_renamed = some ⟨oc__law_renamed, od__law_renamed, .func (PySem.W.fnOf "_law_renamed" "_law_renamed" (defArgs s__law_renamed) (defBody s__law_renamed) (defScope s__law_renamed) .none kV__law_renamed dc__law_renamed pm__law_renamed an__law_renamed cd__law_renamed ct__law_renamed), sl__law_renamed⟩) (c__law_renamed : PySem.W.codeIn K cd__law_renamed "_law_renamed" = true) (k__law_renamed : PySem.W.keepIn K (.ref f__law_renamed) = true)
    (a__law_right : PySem.W.nsIn K mainGlobals "_law_right" = some (some (.ref f__law_right))) (l__law_right : K.lookup f__law_right = some ⟨oc__law_right, od__law_right, .func (PySem.W.fnOf "_law_right" "_law_right" (defArgs s__law_right) (defBody s__law_right) (defScope s__law_right) .none kV__law_right dc__law_right pm__law_right an__law_right cd__law_right ct__law_right), sl__law_right⟩) (c__law_right : PySem.W.codeIn K cd__law_right "_law_right" = true) (k__law_right : PySem.W.keepIn K (.ref f__law_right) = true)
    (a_law : PySem.W.nsIn K mainGlobals "law" = some (some (.ref f_law))) (l_law : K.lookup f_law = some ⟨oc_law, od_law, .func (PySem.W.fnOf "law" "law" (defArgs s_law) (defBody s_law) (defScope s_law) .none kV_law dc_law pm_law an_law cd_law ct_law), sl_law⟩) (c_law : PySem.W.codeIn K cd_law "law" = true) (k_law : PySem.W.keepIn K (.ref f_law) = true)
    (z_isinstance : PySem.W.nsIn K mainGlobals "isinstance" = some none) (z_list : PySem.W.nsIn K mainGlobals "list" = some none) (z_str : PySem.W.nsIn K mainGlobals "str" = some none) (z_len : PySem.W.nsIn K mainGlobals "len" = some none) (z_tuple : PySem.W.nsIn K mainGlobals "tuple" = some none) (z_int : PySem.W.nsIn K mainGlobals "int" = some none) (z_bool : PySem.W.nsIn K mainGlobals "bool" = some none) (z_dict : PySem.W.nsIn K mainGlobals "dict" = some none) (z_sum : PySem.W.nsIn K mainGlobals "sum" = some none) (z_max : PySem.W.nsIn K mainGlobals "max" = some none) (z_min : PySem.W.nsIn K mainGlobals "min" = some none) (z_range : PySem.W.nsIn K mainGlobals "range" = some none) (z_enumerate : PySem.W.nsIn K mainGlobals "enumerate" = some none) (z_sorted : PySem.W.nsIn K mainGlobals "sorted" = some none) (z_zip : PySem.W.nsIn K mainGlobals "zip" = some none) (z_reversed : PySem.W.nsIn K mainGlobals "reversed" = some none) (z_abs : PySem.W.nsIn K mainGlobals "abs" = some none) (z_repr : PySem.W.nsIn K mainGlobals "repr" = some none) (z_set : PySem.W.nsIn K mainGlobals "set" = some none) (z_any : PySem.W.nsIn K mainGlobals "any" = some none) (z_all : PySem.W.nsIn K mainGlobals "all" = some none) :
    ∃ fd : FuncData, (∀ (s : Shared) (v : Value), BindsTo s fd ⟨[v], []⟩ [("script", v)]) ∧ ∀ base : Heap, K.In base → base.Ns mainGlobals mg → FnOk l.prog w K mg base CX0 6 fa fd ["script"] (sp_law K) := by
  have e := hfa.symm.trans (PySem.W.mg_of X G a_law)
  cases e
  refine ⟨PySem.W.fnOf "law" "law" (defArgs s_law) (defBody s_law) (defScope s_law) .none kV_law dc_law pm_law an_law cd_law ct_law, fun s v => .of_eq rfl, fun base _ _ => ?_⟩
  exact ok_law (P := l.prog) (w := w) (base := base) ({ f_is_nodes := _, fd_is_nodes := _, F_is_nodes := fun_mk (st := s_is_nodes) l_is_nodes c_is_nodes k_is_nodes, M_is_nodes := PySem.W.mg_of X G a_is_nodes, f_is_run := _, fd_is_run := _, F_is_run := fun_mk (st := s_is_run) l_is_run c_is_run k_is_run, M_is_run := PySem.W.mg_of X G a_is_run, f_messages_of := _, fd_messages_of := _, F_messages_of := fun_mk (st := s_messages_of) l_messages_of c_messages_of k_messages_of, M_messages_of := PySem.W.mg_of X G a_messages_of, f_send_index := _, fd_send_index := _, F_send_index := fun_mk (st := s_send_index) l_send_index c_send_index k_send_index, M_send_index := PySem.W.mg_of X G a_send_index, f_open_index := _, fd_open_index := _, F_open_index := fun_mk (st := s_open_index) l_open_index c_open_index k_open_index, M_open_index := PySem.W.mg_of X G a_open_index, f_is_node := _, fd_is_node := _, F_is_node := fun_mk (st := s_is_node) l_is_node c_is_node k_is_node, M_is_node := PySem.W.mg_of X G a_is_node, f_is_receivers := _, fd_is_receivers := _, F_is_receivers := fun_mk (st := s_is_receivers) l_is_receivers c_is_receivers k_is_receivers, M_is_receivers := PySem.W.mg_of X G a_is_receivers, f_find_send := _, fd_find_send := _, F_find_send := fun_mk (st := s_find_send) l_find_send c_find_send k_find_send, M_find_send := PySem.W.mg_of X G a_find_send, f_scan_run := _, fd_scan_run := _, F_scan_run := fun_mk (st := s_scan_run) l_scan_run c_scan_run k_scan_run, M_scan_run := PySem.W.mg_of X G a_scan_run, f_check_nodes := _, fd_check_nodes := _, F_check_nodes := fun_mk (st := s_check_nodes) l_check_nodes c_check_nodes k_check_nodes, M_check_nodes := PySem.W.mg_of X G a_check_nodes, f_check_run := _, fd_check_run := _, F_check_run := fun_mk (st := s_check_run) l_check_run c_check_run k_check_run, M_check_run := PySem.W.mg_of X G a_check_run, f_check_node := _, fd_check_node := _, F_check_node := fun_mk (st := s_check_node) l_check_node c_check_node k_check_node, M_check_node := PySem.W.mg_of X G a_check_node, f_check_message := _, fd_check_message := _, F_check_message := fun_mk (st := s_check_message) l_check_message c_check_message k_check_message, M_check_message := PySem.W.mg_of X G a_check_message, f__law_seed := _, fd__law_seed := _, F__law_seed := fun_mk (st := s__law_seed) l__law_seed c__law_seed k__law_seed, M__law_seed := PySem.W.mg_of X G a__law_seed, f__law_next := _, fd__law_next := _, F__law_next := fun_mk (st := s__law_next) l__law_next c__law_next k__law_next, M__law_next := PySem.W.mg_of X G a__law_next, f__law_nodes := _, fd__law_nodes := _, F__law_nodes := fun_mk (st := s__law_nodes) l__law_nodes c__law_nodes k__law_nodes, M__law_nodes := PySem.W.mg_of X G a__law_nodes, f__law_run := _, fd__law_run := _, F__law_run := fun_mk (st := s__law_run) l__law_run c__law_run k__law_run, M__law_run := PySem.W.mg_of X G a__law_run, f__law_renamed := _, fd__law_renamed := _, F__law_renamed := fun_mk (st := s__law_renamed) l__law_renamed c__law_renamed k__law_renamed, M__law_renamed := PySem.W.mg_of X G a__law_renamed, f__law_right := _, fd__law_right := _, F__law_right := fun_mk (st := s__law_right) l__law_right c__law_right k__law_right, M__law_right := PySem.W.mg_of X G a__law_right, f_law := _, fd_law := _, F_law := fun_mk (st := s_law) l_law c_law k_law, M_law := PySem.W.mg_of X G a_law, m_isinstance := PySem.W.mg_none_of X G z_isinstance, m_list := PySem.W.mg_none_of X G z_list, m_str := PySem.W.mg_none_of X G z_str, m_len := PySem.W.mg_none_of X G z_len, m_tuple := PySem.W.mg_none_of X G z_tuple, m_int := PySem.W.mg_none_of X G z_int, m_bool := PySem.W.mg_none_of X G z_bool, m_dict := PySem.W.mg_none_of X G z_dict, m_sum := PySem.W.mg_none_of X G z_sum, m_max := PySem.W.mg_none_of X G z_max, m_min := PySem.W.mg_none_of X G z_min, m_range := PySem.W.mg_none_of X G z_range, m_enumerate := PySem.W.mg_none_of X G z_enumerate, m_sorted := PySem.W.mg_none_of X G z_sorted, m_zip := PySem.W.mg_none_of X G z_zip, m_reversed := PySem.W.mg_none_of X G z_reversed, m_abs := PySem.W.mg_none_of X G z_abs, m_repr := PySem.W.mg_none_of X G z_repr, m_set := PySem.W.mg_none_of X G z_set, m_any := PySem.W.mg_none_of X G z_any, m_all := PySem.W.mg_none_of X G z_all } : Txt K mg)
end KA
open PySem PySem.W PyProof.Rows
set_option maxHeartbeats 0 in
theorem PySem.Challenge.cw_waitlists_k05_whole_renamed_nodes_holds : PySem.Challenge.rw_waitlists_k05_whole_renamed_nodes.Holds := by
  w_on; o_law; k_head; (case hw => w_witness2)
  k_fill
  refine L2.walk_of (l := PySem.Challenge.rw_waitlists_k05_whole_renamed_nodes) (n := 63) (k := 6) (x := "script") (CX := fun _ => L2.CX0) (sp := fun w => KA.sp_law _) rfl (by decide) rfl ⟨rfl, by decide, by decide⟩ (fun w h Y => PySem.W.kIn_of Y) ?F (fun _ _ a ns hl _ hS => ⟨a, ns, rfl, hS, hl, fun _ => rfl⟩) (fun _ _ _ _ _ h => h)
  case F =>
    intro w mg fa h KX G hmg
    refine' KA.all_mk KX G hmg ?a_is_nodes ?l_is_nodes ?c_is_nodes ?k_is_nodes ?a_is_run ?l_is_run ?c_is_run ?k_is_run ?a_messages_of ?l_messages_of ?c_messages_of ?k_messages_of ?a_send_index ?l_send_index ?c_send_index ?k_send_index ?a_open_index ?l_open_index ?c_open_index ?k_open_index ?a_is_node ?l_is_node ?c_is_node ?k_is_node ?a_is_receivers ?l_is_receivers ?c_is_receivers ?k_is_receivers ?a_find_send ?l_find_send ?c_find_send ?k_find_send ?a_scan_run ?l_scan_run ?c_scan_run ?k_scan_run ?a_check_nodes ?l_check_nodes ?c_check_nodes ?k_check_nodes ?a_check_run ?l_check_run ?c_check_run ?k_check_run ?a_check_node ?l_check_node ?c_check_node ?k_check_node ?a_check_message ?l_check_message ?c_check_message ?k_check_message ?a__law_seed ?l__law_seed ?c__law_seed ?k__law_seed ?a__law_next ?l__law_next ?c__law_next ?k__law_next ?a__law_nodes ?l__law_nodes ?c__law_nodes ?k__law_nodes ?a__law_run ?l__law_run ?c__law_run ?k__law_run ?a__law_renamed ?l__law_renamed ?c__law_renamed ?k__law_renamed ?a__law_right ?l__law_right ?c__law_right ?k__law_right ?a_law ?l_law ?c_law ?k_law ?z_isinstance ?z_list ?z_str ?z_len ?z_tuple ?z_int ?z_bool ?z_dict ?z_sum ?z_max ?z_min ?z_range ?z_enumerate ?z_sorted ?z_zip ?z_reversed ?z_abs ?z_repr ?z_set ?z_any ?z_all
    (case a_is_nodes => k_is); (case l_is_nodes => k_is); (case c_is_nodes => k_is); (case k_is_nodes => k_is); (case a_is_run => k_is); (case l_is_run => k_is); (case c_is_run => k_is); (case k_is_run => k_is); (case a_messages_of => k_is); (case l_messages_of => k_is); (case c_messages_of => k_is); (case k_messages_of => k_is); (case a_send_index => k_is); (case l_send_index => k_is); (case c_send_index => k_is); (case k_send_index => k_is); (case a_open_index => k_is); (case l_open_index => k_is); (case c_open_index => k_is); (case k_open_index => k_is); (case a_is_node => k_is); (case l_is_node => k_is); (case c_is_node => k_is); (case k_is_node => k_is); (case a_is_receivers => k_is); (case l_is_receivers => k_is); (case c_is_receivers => k_is); (case k_is_receivers => k_is); (case a_find_send => k_is); (case l_find_send => k_is); (case c_find_send => k_is); (case k_find_send => k_is); (case a_scan_run => k_is); (case l_scan_run => k_is); (case c_scan_run => k_is); (case k_scan_run => k_is); (case a_check_nodes => k_is); (case l_check_nodes => k_is); (case c_check_nodes => k_is); (case k_check_nodes => k_is); (case a_check_run => k_is); (case l_check_run => k_is); (case c_check_run => k_is); (case k_check_run => k_is); (case a_check_node => k_is); (case l_check_node => k_is); (case c_check_node => k_is); (case k_check_node => k_is); (case a_check_message => k_is); (case l_check_message => k_is); (case c_check_message => k_is); (case k_check_message => k_is); (case a__law_seed => k_is); (case l__law_seed => k_is); (case c__law_seed => k_is); (case k__law_seed => k_is); (case a__law_next => k_is); (case l__law_next => k_is); (case c__law_next => k_is); (case k__law_next => k_is); (case a__law_nodes => k_is); (case l__law_nodes => k_is); (case c__law_nodes => k_is); (case k__law_nodes => k_is); (case a__law_run => k_is); (case l__law_run => k_is); (case c__law_run => k_is); (case k__law_run => k_is); (case a__law_renamed => k_is); (case l__law_renamed => k_is); (case c__law_renamed => k_is); (case k__law_renamed => k_is); (case a__law_right => k_is); (case l__law_right => k_is); (case c__law_right => k_is); (case k__law_right => k_is); (case a_law => k_is); (case l_law => k_is); (case c_law => k_is); (case k_law => k_is); (case z_isinstance => k_is); (case z_list => k_is); (case z_str => k_is); (case z_len => k_is); (case z_tuple => k_is); (case z_int => k_is); (case z_bool => k_is); (case z_dict => k_is); (case z_sum => k_is); (case z_max => k_is); (case z_min => k_is); (case z_range => k_is); (case z_enumerate => k_is); (case z_sorted => k_is); (case z_zip => k_is); (case z_reversed => k_is); (case z_abs => k_is); (case z_repr => k_is); (case z_set => k_is); (case z_any => k_is); (case z_all => k_is)
