import PyProof.Rows.All
import Wide.All
import OpenK.AllK
import Wide.FinOn
import PyProof.ListMulRoad
import HandS.ForMost
import HandS.IsInst
import HandS.TupAny
import HandS.TupMul
import HandS.Star
import HandS.Wide
import HandS.Style
import HandS.TryOnly
import HandS.NoneIn
import HandS.Gcd
import KE.DatumOrd
import HandS.GenBody
import HandS.GenYield
import HandS.GenList
import HandS.FStr
import PySem.Challenge.RW_noroadback_k04_whole_lists_of_rings
set_option Elab.async false
set_option linter.all false
set_option maxRecDepth 100000
set_option maxHeartbeats 4000000
/-! Words in which an entry and its opposite strike each other out: what is left, and what goes along with it. -/
namespace Fr
/-- the entry e laid on a pile (its top first) -/
def push (e : Int) : List Int → List Int
  | [] => [e]
  | x :: t => if x = -e then t else e :: x :: t
def act (w s : List Int) : List Int := w.foldl (fun s e => push e s) s
def red (w : List Int) : List Int := (act w []).reverse
def Nf : List Int → Prop
  | [] => True
  | [_] => True
  | x :: y :: t => x ≠ -y ∧ Nf (y :: t)
def opp (w : List Int) : List Int := (w.map fun e => -e).reverse
def rep (w : List Int) : Nat → List Int
  | 0 => []
  | n + 1 => rep w n ++ w

theorem push_eq {e x : Int} {t : List Int} (h : x = -e) : push e (x :: t) = t := by
  show (if x = -e then t else e :: x :: t) = t
  rw [if_pos h]
theorem push_on {e x : Int} {t : List Int} (h : ¬ x = -e) : push e (x :: t) = e :: x :: t := by
  show (if x = -e then t else e :: x :: t) = e :: x :: t
  rw [if_neg h]
theorem Nf.tail {x : Int} {t : List Int} (h : Nf (x :: t)) : Nf t := by
  cases t with
  | nil => exact True.intro
  | cons y t => exact h.2
theorem push_nf {e : Int} {s : List Int} (h : Nf s) : Nf (push e s) := by
  cases s with
  | nil => exact True.intro
  | cons x t =>
    by_cases hx : x = -e
    · rw [push_eq hx]; exact h.tail
    · rw [push_on hx]; exact ⟨fun q => hx (by omega), h⟩
theorem push_back {e : Int} {s : List Int} (h : Nf s) : push (-e) (push e s) = s := by
  cases s with
  | nil => exact push_eq (t := []) (by omega)
  | cons x t =>
    by_cases hx : x = -e
    · have h1 : push e (x :: t) = t := push_eq hx
      rw [h1]
      cases t with
      | nil => show [-e] = [x]; rw [hx]
      | cons y t =>
        have hn : ¬ y = - -e := fun q => h.1 (by omega)
        show (if y = - -e then t else -e :: y :: t) = x :: y :: t
        rw [if_neg hn, hx]
    · have h1 : push e (x :: t) = e :: x :: t := push_on hx
      rw [h1]
      show (if e = - -e then x :: t else _) = x :: t
      rw [if_pos (by omega)]
theorem push_fwd {e : Int} {s : List Int} (h : Nf s) : push e (push (-e) s) = s := by
  have := push_back (e := -e) h
  rwa [Int.neg_neg] at this
theorem act_nil (s : List Int) : act [] s = s := rfl
theorem act_cons (e : Int) (w s : List Int) : act (e :: w) s = act w (push e s) := rfl
theorem act_app (a b s : List Int) : act (a ++ b) s = act b (act a s) := List.foldl_append
theorem act_nf : ∀ (w : List Int) {s : List Int}, Nf s → Nf (act w s)
  | [], _, h => h
  | e :: w, _, h => act_nf w (push_nf h)
theorem opp_nil : opp [] = [] := rfl
theorem opp_cons (e : Int) (w : List Int) : opp (e :: w) = opp w ++ [-e] := by unfold opp; rw [List.map_cons, List.reverse_cons]
theorem opp_app (a b : List Int) : opp (a ++ b) = opp b ++ opp a := by unfold opp; rw [List.map_append, List.reverse_append]
theorem opp_opp (w : List Int) : opp (opp w) = w := by
  induction w with
  | nil => rfl
  | cons e w ih => rw [opp_cons, opp_app, ih]; show [- -e] ++ w = e :: w; rw [Int.neg_neg]; rfl
theorem opp_len (w : List Int) : (opp w).length = w.length := by unfold opp; rw [List.length_reverse, List.length_map]
theorem act_opp : ∀ (w : List Int) {s : List Int}, Nf s → act (opp w) (act w s) = s
  | [], _, _ => rfl
  | e :: w, s, h => by
    rw [opp_cons, act_app]
    show push (-e) (act (opp w) (act w (push e s))) = s
    rw [act_opp w (push_nf h)]
    exact push_back h
theorem opp_act (w : List Int) {s : List Int} (h : Nf s) : act w (act (opp w) s) = s := by
  have := act_opp (opp w) h
  rwa [opp_opp] at this
theorem snoc_ind {P : List Int → Prop} (h0 : P []) (h1 : ∀ w e, P w → P (w ++ [e])) (w : List Int) : P w := by
  have h : ∀ v : List Int, P v.reverse := fun v => by
    induction v with
    | nil => exact h0
    | cons e v ih => rw [List.reverse_cons]; exact h1 _ _ ih
  have := h w.reverse
  rwa [List.reverse_reverse] at this
theorem red_snoc (w : List Int) (e : Int) : red (w ++ [e]) = (push e (act w [])).reverse := by unfold red; rw [act_app]; rfl
/-- what is left acts as the whole -/
theorem act_red (w : List Int) : ∀ {s : List Int}, Nf s → act (red w) s = act w s := by
  refine snoc_ind (P := fun w => ∀ {s : List Int}, Nf s → act (red w) s = act w s) (fun _ => rfl) (fun w e ih => ?_) w
  intro s h
  rw [red_snoc, act_app]
  show act (push e (act w [])).reverse s = push e (act w s)
  rw [← ih h]
  unfold red
  cases q : act w [] with
  | nil => rfl
  | cons x t =>
    by_cases hx : x = -e
    · have h1 : push e (x :: t) = t := push_eq hx
      rw [h1, List.reverse_cons, act_app, hx]
      show act t.reverse s = push e (push (-e) (act t.reverse s))
      rw [push_fwd (act_nf _ h)]
    · have h1 : push e (x :: t) = e :: x :: t := push_on hx
      rw [h1, List.reverse_cons, act_app]
      rfl
theorem Nf.of_act (w : List Int) : Nf (act w []) := act_nf w (s := []) True.intro
/-- a bare row with a bare end: the two ends as they meet -/
theorem nf_snoc2 : ∀ {w : List Int} {x y : Int}, Nf (w ++ [x]) → x ≠ -y → Nf (w ++ [x, y])
  | [], _, _, _, h => ⟨h, True.intro⟩
  | [a], _, _, h1, h => ⟨h1.1, h, True.intro⟩
  | a :: b :: w, _, _, h1, h => ⟨h1.1, nf_snoc2 (w := b :: w) h1.2 h⟩
theorem nf_rev {w : List Int} (h : Nf w) : Nf w.reverse := by
  induction w with
  | nil => exact True.intro
  | cons x w ih =>
    cases w with
    | nil => exact True.intro
    | cons y w =>
      rw [List.reverse_cons, List.reverse_cons, List.append_assoc]
      have h2 := ih h.2
      rw [List.reverse_cons] at h2
      exact nf_snoc2 h2 fun q => h.1 (by omega)
theorem red_nf (w : List Int) : Nf (red w) := nf_rev (Nf.of_act w)
theorem nf_front : ∀ {a b : List Int}, Nf (a ++ b) → Nf a
  | [], _, _ => True.intro
  | [_], _, _ => True.intro
  | _ :: y :: a, _, h => ⟨h.1, nf_front (a := y :: a) h.2⟩
theorem nf_back : ∀ {a b : List Int}, Nf (a ++ b) → Nf b
  | [], _, h => h
  | _ :: _, _, h => nf_back h.tail
theorem act_bare (w : List Int) : Nf w → act w [] = w.reverse := by
  refine snoc_ind (P := fun w => Nf w → act w [] = w.reverse) (fun _ => rfl) (fun w e ih h => ?_) w
  rw [act_app, ih (nf_front h), List.reverse_append]
  show push e w.reverse = [e].reverse ++ w.reverse
  cases q : w.reverse with
  | nil => rfl
  | cons x t =>
    have hw : w = t.reverse ++ [x] := by
      have := congrArg List.reverse q
      rwa [List.reverse_reverse, List.reverse_cons] at this
    rw [hw, List.append_assoc] at h
    have h2 : Nf [x, e] := nf_back h
    show (if x = -e then t else e :: x :: t) = e :: x :: t
    rw [if_neg h2.1]
theorem red_id {w : List Int} (h : Nf w) : red w = w := by unfold red; rw [act_bare w h, List.reverse_reverse]
theorem red_congr {a b : List Int} (h : act a [] = act b []) : red a = red b := by unfold red; rw [h]
theorem red_app_l (a b : List Int) : red (red a ++ b) = red (a ++ b) := red_congr (by rw [act_app, act_app, act_red a (s := []) True.intro])
theorem red_app_r (a b : List Int) : red (a ++ red b) = red (a ++ b) := red_congr (by rw [act_app, act_app, act_red b (Nf.of_act a)])
theorem red_red (a : List Int) : red (red a) = red a := red_id (red_nf a)
theorem red_opp_self (w : List Int) : red (w ++ opp w) = [] := by
  unfold red
  rw [act_app, act_opp w (s := []) True.intro]
  rfl
theorem red_opp (x : List Int) : red (opp x) = red (opp (red x)) := by
  refine red_congr ?_
  have n : Nf (act (opp (red x)) []) := act_nf _ (s := []) True.intro
  have h1 : act x (act (opp (red x)) []) = [] := by
    rw [← act_red x n]
    exact opp_act (red x) (s := []) True.intro
  have h2 := act_opp x n
  rw [h1] at h2
  exact h2
theorem nf_map_neg : ∀ {w : List Int}, Nf w → Nf (w.map fun e => -e)
  | [], _ => True.intro
  | [_], _ => True.intro
  | x :: y :: w, h => ⟨fun q => h.1 (by have q2 : -x = - -y := q; omega), nf_map_neg (w := y :: w) h.2⟩
theorem nf_opp {w : List Int} (h : Nf w) : Nf (opp w) := nf_rev (nf_map_neg h)
theorem opp_red (x : List Int) : opp (red x) = red (opp x) := by rw [red_opp, red_id (nf_opp (red_nf x))]
/-- a struck pair -/
theorem red_strike (a b : List Int) (x y : Int) (h : x = -y) : red (a ++ x :: y :: b) = red (a ++ b) := red_congr (by
  rw [act_app, act_app, act_cons, act_cons]
  have e : y = -x := by omega
  rw [e, push_back (Nf.of_act a)])

/-! powers -/
theorem rep_len (w : List Int) : ∀ n, (rep w n).length = n * w.length
  | 0 => by simp [rep]
  | n + 1 => by
    show (rep w n ++ w).length = _
    rw [List.length_append, rep_len w n, Nat.succ_mul]
theorem rep_nil : ∀ n, rep [] n = []
  | 0 => rfl
  | n + 1 => by show rep [] n ++ [] = []; rw [rep_nil n]; rfl
theorem rep_front (w : List Int) : ∀ n, rep w (n + 1) = w ++ rep w n
  | 0 => by show [] ++ w = w ++ []; simp
  | n + 1 => by
    show rep w (n + 1) ++ w = w ++ (rep w n ++ w)
    rw [rep_front w n, List.append_assoc]
theorem opp_rep (w : List Int) : ∀ n, opp (rep w n) = rep (opp w) n
  | 0 => rfl
  | n + 1 => by
    show opp (rep w n ++ w) = rep (opp w) (n + 1)
    rw [opp_app, opp_rep w n, rep_front]
theorem flat_rep (w : List Int) : ∀ n, (List.replicate n w).flatten = rep w n
  | 0 => rfl
  | n + 1 => by
    rw [List.replicate_succ, List.flatten_cons, flat_rep w n, rep_front]
/-- the power of a word for a number of any sign, not yet bare -/
def pw (w : List Int) (m : Int) : List Int := if m < 0 then rep (opp w) (-m).toNat else rep w m.toNat
theorem pw_succ (w : List Int) (m : Int) {s : List Int} (h : Nf s) : act (pw w (m + 1)) s = act w (act (pw w m) s) := by
  unfold pw
  by_cases h0 : m < 0
  · rw [if_pos h0]
    obtain ⟨k, hk⟩ : ∃ k : Nat, (-m).toNat = k + 1 := ⟨(-m).toNat - 1, by omega⟩
    rw [hk]
    show _ = act w (act (rep (opp w) k ++ opp w) s)
    rw [act_app, opp_act w (act_nf _ h)]
    by_cases h1 : m + 1 < 0
    · rw [if_pos h1]
      have : (-(m + 1)).toNat = k := by omega
      rw [this]
    · rw [if_neg h1]
      have e1 : (m + 1).toNat = 0 := by omega
      have e2 : k = 0 := by omega
      rw [e1, e2]
      rfl
  · rw [if_neg h0, if_neg (by omega : ¬ m + 1 < 0)]
    have : (m + 1).toNat = m.toNat + 1 := by omega
    rw [this]
    show act (rep w m.toNat ++ w) s = _
    rw [act_app]
theorem pw_add (w : List Int) (m : Int) : ∀ (n : Nat) {s : List Int}, Nf s → act (pw w (m + n)) s = act (rep w n) (act (pw w m) s)
  | 0, s, h => by
    have : m + ((0 : Nat) : Int) = m := by omega
    rw [this]
    rfl
  | n + 1, s, h => by
    have : m + ((n + 1 : Nat) : Int) = (m + n) + 1 := by omega
    rw [this, pw_succ w (m + n) h, pw_add w m n h]
    show _ = act (rep w n ++ w) _
    rw [act_app]
theorem red_pw_add (w : List Int) (m : Int) (n : Nat) : red (pw w (m + n)) = red (red (pw w m) ++ red (pw w (n : Int))) := by
  rw [red_app_l, red_app_r]
  refine red_congr ?_
  rw [pw_add w m n (s := []) True.intro, act_app]
  unfold pw
  rw [if_neg (by omega : ¬ (n : Int) < 0), Int.toNat_natCast]
theorem nf_join : ∀ {a b : List Int}, Nf a → Nf b → (∀ x y, a.getLast? = some x → b.head? = some y → x ≠ -y) → Nf (a ++ b)
  | [], _, _, hb, _ => hb
  | [x], [], _, _, _ => True.intro
  | [x], y :: b, _, hb, h => ⟨h x y rfl rfl, hb⟩
  | x :: z :: a, b, ha, hb, h => ⟨ha.1, nf_join (a := z :: a) ha.2 hb fun u v hu hv => h u v (by rw [List.getLast?_cons_cons]; exact hu) hv⟩
theorem last_rep {w : List Int} {x : Int} (h : w.getLast? = some x) (n : Nat) : (rep w (n + 1)).getLast? = some x := by
  show (rep w n ++ w).getLast? = some x
  rw [List.getLast?_append, h]
  rfl
theorem head_rep {w : List Int} {x : Int} (h : w.head? = some x) (n : Nat) : (rep w (n + 1)).head? = some x := by
  rw [rep_front, List.head?_append, h]
  rfl
theorem nf_rep {w : List Int} (h : Nf w) (hj : ∀ x y, w.getLast? = some x → w.head? = some y → x ≠ -y) : ∀ n, Nf (rep w n)
  | 0 => True.intro
  | n + 1 => by
    show Nf (rep w n ++ w)
    refine nf_join (nf_rep h hj n) h fun x y hx hy => ?_
    cases n with
    | zero => cases hx
    | succ n =>
      cases q : w.getLast? with
      | none =>
        have : w = [] := List.getLast?_eq_none_iff.mp q
        rw [this] at hy
        cases hy
      | some z =>
        rw [last_rep q n] at hx
        cases hx
        exact hj x y q hy
/-- a bare word in its two parts: its power as the program writes it -/
theorem red_pow {c m : List Int} (h : Nf (c ++ m ++ opp c)) (hm : m ≠ []) (hj : ∀ x y, m.getLast? = some x → m.head? = some y → x ≠ -y) (n : Nat) :
    red (rep (c ++ m ++ opp c) (n + 1)) = c ++ rep m (n + 1) ++ opp c := by
  have a1 : ∀ (n : Nat) {s : List Int}, Nf s → act (rep (c ++ m ++ opp c) n) s = act (c ++ rep m n ++ opp c) s := fun n => by
    induction n with
    | zero =>
      intro s hs
      show s = act (c ++ [] ++ opp c) s
      rw [List.append_nil, act_app, act_opp c hs]
    | succ n ih =>
      intro s hs
      show act (rep (c ++ m ++ opp c) n ++ (c ++ m ++ opp c)) s = act (c ++ (rep m n ++ m) ++ opp c) s
      rw [act_app, ih hs]
      simp only [act_app]
      rw [opp_act c (act_nf _ (act_nf _ hs))]
  have e : red (rep (c ++ m ++ opp c) (n + 1)) = red (c ++ rep m (n + 1) ++ opp c) := red_congr (a1 (n + 1) (s := []) True.intro)
  rw [e]
  refine red_id ?_
  have hcm : Nf (c ++ m) := nf_front h
  have hm1 : Nf m := nf_back hcm
  obtain ⟨z, hz⟩ : ∃ z, m.getLast? = some z := by
    cases q : m.getLast? with
    | none => exact absurd (List.getLast?_eq_none_iff.mp q) hm
    | some z => exact ⟨z, rfl⟩
  obtain ⟨u, hu⟩ : ∃ u, m.head? = some u := by
    cases m with
    | nil => exact absurd rfl hm
    | cons a b => exact ⟨a, rfl⟩
  have jn : ∀ {a b : List Int} {x y : Int}, Nf (a ++ b) → a.getLast? = some x → b.head? = some y → x ≠ -y := fun {a b x y} hab hx hy => by
    obtain ⟨a', ha⟩ : ∃ a', a = a' ++ [x] := by
      have hne : a ≠ [] := fun q => by rw [q] at hx; cases hx
      refine ⟨a.dropLast, ?_⟩
      rw [List.getLast?_eq_some_getLast hne] at hx
      have := List.dropLast_concat_getLast hne
      rw [Option.some.inj hx] at this
      exact this.symm
    obtain ⟨b', hb⟩ : ∃ b', b = y :: b' := by
      cases b with
      | nil => cases hy
      | cons p q => cases hy; exact ⟨q, rfl⟩
    rw [ha, hb, List.append_assoc] at hab
    have h2 : Nf ([x] ++ y :: b') := nf_back hab
    exact h2.1
  refine nf_join (nf_join (nf_front hcm) (nf_rep hm1 hj (n + 1)) fun x y hx hy => ?_) (nf_back h) fun x y hx hy => ?_
  · rw [head_rep hu n] at hy
    cases hy
    exact jn hcm hx hu
  · rw [List.getLast?_append, last_rep hz n] at hx
    cases hx
    exact jn h (by rw [List.getLast?_append, hz]; rfl) hy
end Fr

/-! rules of my own: a call by a positional promise, great powers, a tuple times a number, a tuple turned round -/
namespace N0
open PySem PySem.Spec PyProof.Rows L2 HT

structure Cl (P : Program) (w : World) (K : PySem.W.Frag) (mg : Str → Option Value) (base : Heap) (k : Nat) (x : Str) (sp : Sp) : Prop where
  ex : ∃ f : Addr, FnR P w K mg base CX0 k f sp ∧ mg x = some (.ref f) ∧ PySem.W.keepIn K (.ref f) = true
abbrev tFn (sp : Sp) (t : TA) : TE := fun σ H Q => t σ H fun vs H1 => sp vs H1 Q E0
section
variable {X : Cx} {x : Str} {k j : Nat} {sp : Sp} {e : Expr} {es : List Expr} {t : TA} {p pos : Pos}
theorem pe_f (c : Cl X.prog X.w X.K X.mg X.base k x sp) (hr : Room j X.A) (hk : k ≤ j) (hg : Gl X x) (ha : PA X (e :: es) t) (hdb : (x == ("__debug__" : Str)) = false := by decide)
    (he : starEach (e :: es) X.env = (false, eval e X.env) :: starEach es X.env := by rfl) (hpl : (backTo pos (starEach es X.env)).any (·.1) = false := by rfl) : PE X (.Call (.Name x p) (e :: es) [] pos) (tFn sp t) := by
  obtain ⟨f, F, hm, kp⟩ := c.ex
  refine ⟨fun pins s σ H Q I h => ?_⟩
  refine wpAny_Call_Name_kw (ld_glob I hg hm ?_ hdb)
  refine PySem.W.callWith_K (h₀ := X.base) I.ok.mod.kin kp (thn (ha.run pos pins s σ H _ I h) fun us s1 ⟨vs, H1, I1, r, q⟩ => ⟨I1.kIn, ?_⟩) he hpl
  exact wpAny_call (run_fnR F (hr.mono hk) pass0 I1 r q)
end
section
variable {P : Program} {w : World} {K : PySem.W.Frag} {mg : Str → Option Value} {base : Heap} {k : Nat} {x : Str} {sp sp' : Sp} {f : Addr} {fd : FuncData} {ps : List Str}
theorem cl_of (G : FnOk P w K mg base CX0 k f fd ps sp) (hm : mg x = some (.ref f)) (kp : PySem.W.keepIn K (.ref f) = true) (hb : Binds K fd ps []) : Cl P w K mg base k x sp :=
  ⟨f, (G.raw hb .nil).imp fun vs H Q E h => by rw [List.append_nil]; exact h, hm, kp⟩
theorem Cl.imp (c : Cl P w K mg base k x sp) (h : ∀ vs H Q E, sp' vs H Q E → sp vs H Q E) : Cl P w K mg base k x sp' := by
  obtain ⟨f, F, hm, kp⟩ := c.ex
  exact ⟨f, F.imp h, hm, kp⟩
end
def CPowG (i j : Int) : Prop := 0 ≤ j ∧ (Builtin.Int.intBits i : Int) * j ≤ 2 ^ 27
section
variable {X : Cx}
theorem op_powG : OpR X (binaryOp .Pow) (rI CPowG fun i j => .int (i ^ j.toNat)) := opI fun _ _ _ _ _ _ _ hc q => PyProof.Rows.pow_int hc.1 hc.2 q

/-! a tuple turned round -/
theorem pick_back (xs : Array Value) : ((List.range xs.size).filterMap fun (m : Nat) => xs[(((xs.size : Int) - 1) + (m : Int) * (-1)).toNat]?).toArray = xs.toList.reverse.toArray := by
  congr 1
  have h : ∀ m ∈ List.range xs.size, xs[(((xs.size : Int) - 1) + (m : Int) * (-1)).toNat]? = some (xs.toList.reverse.getD m .none) := fun m hm => by
    have hm := List.mem_range.mp hm
    have e : (((xs.size : Int) - 1) + (m : Int) * (-1)).toNat = xs.size - 1 - m := by omega
    rw [e, List.getD_eq_getElem?_getD, List.getElem?_reverse (by rw [Array.length_toList]; exact hm), Array.length_toList, Array.getElem?_toList, Array.getElem?_eq_getElem (by omega)]
    rfl
  have h2 : ∀ l : List Nat, (∀ m ∈ l, xs[(((xs.size : Int) - 1) + (m : Int) * (-1)).toNat]? = some (xs.toList.reverse.getD m .none)) → l.filterMap (fun (m : Nat) => xs[(((xs.size : Int) - 1) + (m : Int) * (-1)).toNat]?) = l.map fun m => xs.toList.reverse.getD m .none := fun l => by
    induction l with
    | nil => intro _; rfl
    | cons a l ih => intro hl; rw [List.filterMap_cons, hl a List.mem_cons_self, List.map_cons, ih fun m hm => hl m (List.mem_cons_of_mem _ hm)]
  rw [h2 _ h]
  refine List.ext_getElem? fun i => ?_
  rw [List.getElem?_map]
  by_cases hi : i < xs.size
  · rw [List.getElem?_range hi]
    show some (xs.toList.reverse.getD i .none) = _
    rw [List.getD_eq_getElem?_getD, List.getElem?_eq_getElem (by rw [List.length_reverse, Array.length_toList]; exact hi)]
    rfl
  · rw [List.getElem?_eq_none (by rw [List.length_range]; omega), List.getElem?_eq_none (by rw [List.length_reverse, Array.length_toList]; omega)]
    rfl
theorem back_applied {prog : Program} {w : World} {A : Around} {E : Value → Shared → Prop} {s : Shared} {sl : Addr} {vs : Value} {n : Nat} {Q : Int × Int × Nat → Shared → Prop} (hs : s.heap.IsSliceOf sl .none .none vs) (pv : IsPart vs (some (-1)))
    (h : Q (((n : Int) - 1), -1, n) s) : wpAny (model prog w) A (Builtin.Slice.sliceApplied (.ref sl) (pure (n : Int))) Q E s := by
  obtain ⟨os, ho, hcl, hda⟩ := id hs
  unfold Builtin.Slice.sliceApplied Builtin.Slice.sliceFields
  refine wpAny_bind (wpAny_bind (wpAny_field ho hda (x := .none) rfl (wpAny_bind (wpAny_field ho hda (x := .none) rfl (wpAny_bind (wpAny_field ho hda (x := vs) rfl (wpAny_pure ?_)))))))
  refine wpAny_bind (slicePart_ pv ?_)
  show wpAny _ _ (if ((-1 : Int) == 0) = true then _ else _) _ _ s
  rw [if_neg (by decide)]
  refine wpAny_bind (slicePart_none (wpAny_bind (slicePart_none (wpAny_bind (wpAny_pure ?_)))))
  have e1 : Builtin.Slice.sliceAdjust none none (-1) (n : Int) = ((n : Int) - 1, -1) := by
    unfold Builtin.Slice.sliceAdjust
    simp
  have e2 : Builtin.Slice.slicePlaces ((n : Int) - 1) (-1) (-1) = n := by
    unfold Builtin.Slice.slicePlaces
    simp
    omega
  show wpAny _ _ (match Builtin.Slice.sliceAdjust none none (-1) (n : Int) with | (a, b) => pure (a, (-1 : Int), Builtin.Slice.slicePlaces a b (-1))) _ _ s
  rw [e1]
  show wpAny _ _ (pure ((n : Int) - 1, (-1 : Int), Builtin.Slice.slicePlaces ((n : Int) - 1) (-1) (-1))) _ _ s
  rw [e2]
  exact wpAny_pure h
/-- t * k where t is empty or k is 1: t itself -/
theorem tup_mul_same (l : Addr) (items : Array Value) (n : Nat) (dd : Option Addr) (sl : Array (Option Value)) (x : Int) (u : Tok) (z0 : (decide (x < -(2 ^ 63)) || decide (x ≥ 2 ^ 63)) = false) (z1 : (items.isEmpty || x == 1) = true) :
    Meets (Builtin.«tuple.__mul__» ⟨[.ref l, .int x u], []⟩) (fun _ R s => s.heap.get? l = some { cls := .type "tuple", dict := dd, data := .seq items n, slots := sl } ∧ R (.ok (.ret (Value.ref l))) s) :=
  .of_wp fun prog w A R s h => by
    obtain ⟨hp, g, d, tk, os⟩ := s
    obtain ⟨hl, h⟩ := h
    have f1 := AutoSeq1.idx_int
    wp_walk using wpAny_loadPart' hl
    repeat (first
      | (refine wpAny_ite_false (decide_eq_false (by rw [z0]; exact Bool.false_ne_true)) ?_; wp_walk using wpAny_loadPart' hl)
      | (refine wpAny_ite_true (decide_eq_true z1) ?_; wp_walk using wpAny_loadPart' hl))
    exact ⟨_, rfl, h⟩
/-- t * k, k from 1 to 1000, t any tuple of at most 1000 -/
def rRepA (K : PySem.W.Frag) : R2 := fun x y H Q => ∃ l k xs, x = .ref l ∧ y = .int k ∧ SqT K H l xs ∧ 1 ≤ k ∧ k ≤ 1000 ∧ xs.length ≤ 1000 ∧
  (xs = [] ∨ k = 1 → Q (.ref l) H) ∧ (xs ≠ [] → 2 ≤ k → ∀ p, H p = none → Q (.ref p) (upd H p (.tup (List.replicate k.toNat xs).flatten)))
theorem op_repA : OpR X (binaryOp .Mult) (rRepA X.K) := by
  intro pn s sg H x y v u Q I rx ry h
  obtain ⟨l, k, xs, ex, ey, hT, k1, k2, hz, q1, q2⟩ := h
  by_cases hc : xs = [] ∨ k = 1
  · subst ex ey
    have q := q1 hc
    cases rx
    obtain ⟨t, rfl⟩ := ry
    obtain ⟨its, r, ⟨⟨cls, dd, data, sl⟩, ho, hcl, n, hd⟩, _⟩ := I.tuple hT
    simp only at hcl hd
    subst hcl hd
    have z0 : (decide (k < -(2 ^ 63)) || decide (k ≥ 2 ^ 63)) = false := by
      rw [decide_eq_false (by omega), decide_eq_false (by omega)] <;> rfl
    have z1 : (its.toArray.isEmpty || k == 1) = true := by
      rcases hc with e | e
      · subst e
        cases r
        rfl
      · rw [e, Bool.or_eq_true]
        exact .inr rfl
    exact wpAny_binaryOp_repeat_ref (T := "tuple") (U := "int") (by decide) ⟨_, ho, rfl⟩ (fun s' => typeIs_int s' k t) noFill_tuple_mul F.fills_int_mul F.slot_int_rmul repeat_tuple F.slot_int_index.lookup
      (call_meets F.slot_int_rmul (typeIs_int s k t) F.entry_int_rmul (F.args_int_rmul_2 _ _) (int_rmul_tuple k t l its.toArray n dd sl)
        ⟨ho, rfl, ⟨_, ho, rfl⟩, call_meets F.slot_tuple_mul ⟨_, ho, rfl⟩ F.entry_tuple_mul (F.args_tuple_mul_2 _ _) (tup_mul_same l its.toArray n dd sl k t z0 z1) ⟨ho, ⟨.ref l, H, I, rfl, q⟩⟩⟩)
  · have hn : xs ≠ [] := fun e => hc (.inl e)
    have h2 : k ≠ 1 := fun e => hc (.inr e)
    exact op_repT pn s sg H x y v u Q I rx ry ⟨l, k, xs, ex, ey, hT, hn, by omega, k2, hz, q2 hn (by omega)⟩

/-! t[::-1] -/
theorem tup_back {prog : Program} {w : World} {A : Around} {E : Value → Shared → Prop} {s : Shared} {t sl : Addr} {items : Array Value} {vs : Value} {Q : Value → Shared → Prop} (ht : IsTup s.heap t items) (hs : s.heap.IsSliceOf sl .none .none vs) (pv : IsPart vs (some (-1)))
    (h : Q (.ref s.heap.objs.size) { s with heap := s.heap.push { cls := .type "tuple", data := .seq items.toList.reverse.toArray } }) (hz : items.size ≤ sizeLine) : wpAny (model prog w) A (getItem (.ref t) (.ref sl)) Q E s := by
  have fit : sizeOk (.seq items.toList.reverse.toArray) := by
    show items.toList.reverse.toArray.size ≤ sizeLine
    rw [List.size_toArray, List.length_reverse, Array.length_toList]
    exact hz
  obtain ⟨os, ho, hcl, hda⟩ := id hs
  have hTy : s.TypeIs (.ref sl) "slice" := ⟨os, ho, hcl⟩
  unfold getItem
  try with_reducible refine wpAny_holding ?_
  first | refine wpAny_bind (wpAny_pure ?_) | skip
  refine wpAny_bind (wpAny_sequenceKey ht.typeIs (by decide) ?_)
  refine wpAny_bind (wpAny_callSpecial?_slot (name := Str.ofString "__getitem__") ht.typeIs PyProof.Rows.slot_tuple_getitem (wpAny_call_entry PyProof.Rows.slot_tuple_getitem ht.typeIs entry_tuple_getitem ?_ (args_tuple_getitem _ _)))
  show wpAny _ _ (Builtin.Tuple.tupleItemsOf (.ref t) >>= _) _ _ s
  refine wpAny_bind (tupleItemsOf_ ht (wpAny_bind (wpAny_typeOf hTy ?_)))
  rw [if_pos (by decide)]
  refine wpAny_bind (back_applied hs pv ?_)
  have hno : ¬ ((((items.size : Int) - 1) == 0 && (-1 : Int) == 1 && items.size == items.size) = true) := by
    rw [show ((-1 : Int) == 1) = false from rfl, Bool.and_false, Bool.false_and]
    exact Bool.false_ne_true
  show wpAny _ _ (if (((items.size : Int) - 1) == 0 && (-1 : Int) == 1 && items.size == items.size) = true then _ else _) _ _ s
  rw [if_neg hno, pick_back]
  first
    | exact wpAny_bind (m := Builtin.Tuple.tupleExact _) (wpAny_newObj_type (wpAny_pure ⟨_, rfl, wpAny_pure h⟩) fit)
    | exact wpAny_bind (m := Builtin.Tuple.tupleExact _) (wpAny_newObj_type (wpAny_bind (wpAny_pure (wpAny_pure ⟨_, rfl, wpAny_pure h⟩))) fit)
    | exact wpAny_bind (wpAny_bind (m := Builtin.Tuple.tupleExact _) (wpAny_newObj_type (wpAny_pure (wpAny_pure ⟨_, rfl, wpAny_pure h⟩)) fit))
    | exact wpAny_bind (wpAny_bind (m := Builtin.Tuple.tupleExact _) (wpAny_newObj_type (wpAny_pure ⟨_, rfl, wpAny_pure h⟩) fit))
def tRevT (K : PySem.W.Frag) (te : TE) : TE := fun σ H Q => te σ H fun x H1 => ∃ a xs, x = .ref a ∧ SqT K H1 a xs ∧ ∀ p, H1 p = none → Q (.ref p) (upd H1 p (.tup xs.reverse))
theorem pe_revT {e : Expr} {te : TE} {k : Nat} {p1 p2 p3 pos : Pos} (he : PE X e te) : PE X (.Subscript e (.Slice none none (some (.UnaryOp .USub (.Constant (.int 1) k p1) p2)) p3) pos) (tRevT X.K te) := by
  refine ⟨fun pn s sg H Q I h => ?_⟩
  refine Subscript_ (thn (he.run pn s sg H _ I h) fun v s1 ⟨x, H1, I1, r1, q1⟩ => ?_)
  obtain ⟨a, xs, ex, hx, q⟩ := q1
  subst ex
  cases r1
  have hst : PO X (some (.UnaryOp .USub (.Constant (.int 1) k p1) p2)) (tPart (tUn (rU fun i => .int (-i)) (tC (.int 1)))) := po_some (pe_un un_neg pe_int)
  refine wpAny_Slice (thn (po_none.run pn s1 sg H1 (fun o H2 => o = none ∧ H2 = H1) I1 ⟨rfl, rfl⟩) fun vl s2 ⟨l, H2, I2, pl, el, e2⟩ => ?_)
  subst el e2
  refine thn (po_none.run pn s2 sg H2 (fun o H3 => o = none ∧ H3 = H2) I2 ⟨rfl, rfl⟩) fun vu s3 ⟨u, H3, I3, pu, eu, e3⟩ => ?_
  subst eu e3
  refine thn (hst.run pn s3 sg H3 (fun o H4 => o = some (-1) ∧ H4 = H3) I3 ⟨1, rfl, -1, rfl, rfl, rfl⟩) fun vs s4 ⟨o, H4, I4, ps, eo, e4⟩ => ?_
  subst eo e4
  cases pl
  cases pu
  have I5 : Inv X pn sg H4 { s4 with heap := s4.heap.push { cls := .type "slice", data := .fields #[.none, .none, vs] } } := I4.kept (t' := s4.toks) fun b ob q => Heap.get?_push_of_some _ q
  obtain ⟨its, r, ht, hz⟩ := I5.tuple hx
  have hlen := r.length
  show wpAny (model X.prog X.w) X.A (subscriptTail e (.Slice none none (some (.UnaryOp .USub (.Constant (.int 1) k p1) p2)) p3) (.ref a) (.ref s4.heap.objs.size)) (EP X pn sg Q) X.xe { s4 with heap := s4.heap.push { cls := .type "slice", data := .fields #[.none, .none, vs] } }
  refine tail_any (ops := [.ref a, .ref s4.heap.objs.size]) ht.typeIs (PyProof.Rows.slot_tuple_getitem.lookup) ?_ (by with_unfolding_all rfl)
  refine tup_back ht (Heap.IsSliceOf.new _ .none .none vs) ps ?_ (by rw [List.size_toArray]; omega)
  refine ⟨.ref _, _, I5.laid (t' := s4.toks) (o := .tup xs.reverse) (fun b ob q => Heap.get?_push_of_some _ q) (Nat.le_refl _) ?_, rfl, q _ (I5.hok.fresh (Nat.le_refl _))⟩
  exact ⟨by rw [List.length_reverse]; exact hz, _, r.reverse, IsTup.new _ _⟩
end
end N0
namespace N0
open PySem
theorem bo_len : bootBuiltins "len" = some (.builtin "len") := by decide +kernel
theorem bo_abs : bootBuiltins "abs" = some (.builtin "abs") := by decide +kernel
theorem bo_max : bootBuiltins "max" = some (.builtin "max") := by decide +kernel
theorem bo_min : bootBuiltins "min" = some (.builtin "min") := by decide +kernel
theorem bo_all : bootBuiltins "all" = some (.builtin "all") := by decide +kernel
theorem bo_any : bootBuiltins "any" = some (.builtin "any") := by decide +kernel
theorem bo_sum : bootBuiltins "sum" = some (.builtin "sum") := by decide +kernel
theorem bo_isinstance : bootBuiltins "isinstance" = some (.builtin "isinstance") := by decide +kernel
theorem bo_int : bootBuiltins "int" = some (.type "int") := by decide +kernel
theorem bo_bool : bootBuiltins "bool" = some (.type "bool") := by decide +kernel
theorem bo_str : bootBuiltins "str" = some (.type "str") := by decide +kernel
theorem bo_list : bootBuiltins "list" = some (.type "list") := by decide +kernel
theorem bo_tuple : bootBuiltins "tuple" = some (.type "tuple") := by decide +kernel
end N0
namespace N0
open PySem PySem.Spec PyProof.Rows L2 HT
/-! the rules over the written part, this one said by name -/
theorem rel_ty {n : String} : RelV (.ty n) (.type n) := rfl
theorem rel_int {i : Int} {t : Tok} : RelV (.int i) (.int i t) := ⟨_, rfl⟩
section
variable {X : Cx} {K : PySem.W.Frag}
theorem kix_tup (h : X.K = K := by rfl) : IxR X (rIxT K) := h ▸ ix_tup
theorem kix_list (h : X.K = K := by rfl) : IxR X (rIxL K) := h ▸ ix_list
theorem ksl_tupA (h : X.K = K := by rfl) : SlR X (rSlA K) := h ▸ sl_tupA
theorem ksl_list (h : X.K = K := by rfl) : SlR X (rSlL K) := h ▸ sl_list
theorem kop_catA (h : X.K = K := by rfl) : OpR X (binaryOp .Add) (rCatA K) := h ▸ op_catA
theorem kop_repA (h : X.K = K := by rfl) : OpR X (binaryOp .Mult) (rRepA K) := h ▸ op_repA
theorem kop_eqD (hu : X.A.units + 64 < cLine) (h : X.K = K := by rfl) : OpR X (compareOp .Eq) (rEqD K) := h ▸ op_eqD hu
theorem kop_neD (hu : X.A.units + 64 < cLine) (h : X.K = K := by rfl) : OpR X (compareOp .NotEq) (rNeD K) := h ▸ op_neD hu
theorem kcall_isi (h : X.K = K := by rfl) : CallR X (.builtin "isinstance") (rIsi K) := h ▸ call_isi
theorem kcr_all (hc : X.calm = true) (h : X.K = K := by rfl) : CallR X (.builtin "all") (rAll K) := h ▸ cr_all hc
theorem kcr_any (hc : X.calm = true) (h : X.K = K := by rfl) : CallR X (.builtin "any") (rAny K) := h ▸ cr_any hc
theorem kcr_sum (hc : X.calm = true) (h : X.K = K := by rfl) : CallR X (.builtin "sum") (rSum K) := h ▸ cr_sum hc
theorem kcr_min (hc : X.calm = true) (h : X.K = K := by rfl) : CallR X (.builtin "min") (rMin K) := h ▸ cr_min hc
def rLen (K : PySem.W.Frag) : List V → Hp → VK → Prop := fun xs H Q => ∃ p ys, xs = [.ref p] ∧ (SqL K H p ys ∨ SqT K H p ys) ∧ Q (.int ys.length) H
theorem kcall_len (h : X.K = K := by rfl) : CallR X (.builtin "len") (rLen K) := h ▸ call_len_seq
def rListOf (K : PySem.W.Frag) : List V → Hp → VK → Prop := fun xs H Q => ∃ p ys, xs = [.ref p] ∧ (SqL K H p ys ∨ SqT K H p ys) ∧ ∀ l, H l = none → Q (.ref l) (upd H l (.lst ys))
theorem kcall_list (h : X.K = K := by rfl) : CallR X (.type "list") (rListOf K) := h ▸ call_list_of
def rTupOf (K : PySem.W.Frag) : List V → Hp → VK → Prop := fun xs H Q => ∃ p ys, xs = [.ref p] ∧ ((SqL K H p ys ∧ ∀ l, H l = none → Q (.ref l) (upd H l (.tup ys))) ∨ (SqT K H p ys ∧ Q (.ref p) H))
theorem kcall_tuple (h : X.K = K := by rfl) : CallR X (.type "tuple") (rTupOf K) := h ▸ call_tuple_of
variable {tg l : Expr} {tl : TE}
theorem kpi_list (hl : PE X l tl) (h : X.K = K := by rfl) : PI X tg l (iList K tl) := h ▸ pi_list hl
theorem kpi_tup (hl : PE X l tl) (h : X.K = K := by rfl) : PI X tg l (iTup K tl) := h ▸ pi_tup hl
theorem kpt_truth {a : Expr} {ta : TE} (ha : PE X a ta) (he : ∀ whole, isTrue a X.env whole = (do let v ← whole; standAt a.pos; holding [v] (truthy v))) (h : X.K = K := by rfl) :
    PT X a (fun σ H Q => ta σ H fun x H' => ∃ k, TruV K x H' k ∧ Q k H') := h ▸ pt_truth ha he
theorem kpe_revT {e : Expr} {te : TE} {k : Nat} {p1 p2 p3 pos : Pos} (he : PE X e te) (h : X.K = K := by rfl) : PE X (.Subscript e (.Slice none none (some (.UnaryOp .USub (.Constant (.int 1) k p1) p2)) p3) pos) (tRevT K te) := h ▸ pe_revT he
theorem kpg_tup {es : List Expr} {k : Nat} {t : TGs} {n : Nat} {pos : Pos} (hc : X.calm = true) (hh : PGs X es t) (h : X.K = K := by rfl)
    (hn : (assignEach es X.env).length = n := by rfl) (hst : (assignEach es X.env).findIdx? (·.1) = none := by rfl) : PG X (.Tuple es k pos) (gTup K n t) := h ▸ pg_tup hc hh hn hst
end
end N0

namespace N0
open PySem PySem.Spec PyProof.Rows L2 HT
/-! ### what stays: all but a sack of three numbers -/
def Sk (H : Hp) : Option Addr → Prop
  | none => True
  | some s => ∃ a b c : Int, H s = some (.lst [.int a, .int b, .int c])
structure Rs (S : Option Addr) (H H' : Hp) : Prop where
  s0 : Sk H S
  s1 : Sk H' S
  keep : ∀ a o, S ≠ some a → H a = some o → H' a = some o
section
variable {S : Option Addr} {H H1 H2 : Hp} {K : PySem.W.Frag} {a p : Addr} {xs : List V} {o : HO}
theorem Rs.of (h : Sk H S) : Rs S H H := ⟨h, h, fun _ _ _ e => e⟩
theorem Rs.r1 (r : Rs S H H1) : Rs S H1 H1 := .of r.s1
theorem Rs.tr (r : Rs S H H1) (q : Rs S H1 H2) : Rs S H H2 := ⟨r.s0, q.s1, fun a o n e => q.keep a o n (r.keep a o n e)⟩
theorem Sk.same (h : Sk H S) (e : Same H H1) : Sk H1 S := by
  cases S with
  | none => exact True.intro
  | some s => obtain ⟨a, b, c, q⟩ := h; exact ⟨a, b, c, e _ _ q⟩
theorem Rs.same (h : Sk H S) (e : Same H H1) : Rs S H H1 := ⟨h, h.same e, fun a o _ q => e a o q⟩
theorem Rs.to (r : Rs none H H1) : Same H H1 := fun a o e => r.keep a o (fun q => nomatch q) e
theorem Sk.ne (r : Sk H S) (h : H a = some o) (hn : ∀ ys, o ≠ .lst ys) : S ≠ some a := fun q => by
  subst q
  obtain ⟨x, y, z, e⟩ := r
  rw [h] at e
  cases e
  exact hn _ rfl
theorem Rs.tup (r : Rs S H H1) (h : SqT K H a xs) : SqT K H1 a xs := by
  rcases h with (h | ⟨o, h⟩) | h
  · exact .inl (.inl (r.keep _ _ (r.s0.ne h fun _ q => nomatch q) h))
  · exact .inl (.inr ⟨o, r.keep _ _ (r.s0.ne h fun _ q => nomatch q) h⟩)
  · exact .inr h
theorem Rs.lst (r : Rs S H H1) (n : S ≠ some a) (h : SqL K H a xs) : SqL K H1 a xs := by
  rcases h with (h | ⟨o, h⟩) | h
  · exact .inl (.inl (r.keep _ _ n h))
  · exact .inl (.inr ⟨o, r.keep _ _ n h⟩)
  · exact .inr h
theorem new_same (hp : H p = none) : Same H (upd H p o) := fun b u e => by
  rw [upd_ne (ne_of_none e hp)]
  exact e
theorem same_tup (e : Same H H1) (h : SqT K H a xs) : SqT K H1 a xs := (Rs.same (S := none) True.intro e).tup h
/-- a thing that was not there may change -/
theorem same_mut (e : Same H H1) (hp : H p = none) : Same H (upd H1 p o) := fun b u q => by
  rw [upd_ne (ne_of_none q hp)]
  exact e b u q
theorem tup_of (h : H a = some (.tup xs)) : SqT K H a xs := .inl (.inl h)
theorem lst_of (h : H a = some (.lst xs)) : SqL K H a xs := .inl (.inl h)
theorem Rs.fresh (r : Rs S H H1) (hp : H1 p = none) (h0 : H p = none ∨ S = some p ∨ True) : S ≠ some p := fun q => by
  subst q
  obtain ⟨x, y, z, e⟩ := r.s1
  rw [hp] at e
  cases e
end

/-! ### kinds of values -/
/-- an entry of a tuple: a number, or something else -/
inductive En (K : PySem.W.Frag) (H : Hp) : V → Option Int → Prop
  | int (i : Int) : En K H (.int i) (some i)
  | oth {v : V} {t : String} {i b : Bool} (h : TyX K H v (.type t)) (k1 : kitB t "int" = some i) (k2 : kitB t "bool" = some b) (k3 : (i && !b) = false) : En K H v none
/-- a value: a tuple of entries, or something else -/
inductive Va (K : PySem.W.Frag) (H : Hp) : V → Option (List (Option Int)) → Prop
  | tup {a : Addr} {xs : List V} {os : List (Option Int)} (h : SqT K H a xs) (hl : xs.length = os.length) (he : ∀ (j : Nat) x o, xs[j]? = some x → os[j]? = some o → En K H x o) : Va K H (.ref a) (some os)
  | oth {v : V} {t : String} (h : TyX K H v (.type t)) (k : kitB t "tuple" = some false) : Va K H v none
section
variable {K : PySem.W.Frag} {H H1 : Hp}
theorem tyx_same {v : V} {t : Value} (e : Same H H1) (h : TyX K H v t) : TyX K H1 v t := by
  cases h with
  | base b =>
    refine .base ?_
    cases b with
    | non => exact .non
    | bl y => exact .bl y
    | int i => exact .int i
    | str y => exact .str y
    | flt y => exact .flt y
    | lst ea => exact .lst (e _ _ ea)
    | frz ea => exact .frz (e _ _ ea)
    | tup ea => exact .tup (e _ _ ea)
    | dK ea => exact .dK (e _ _ ea)
    | dT ea => exact .dT (e _ _ ea)
    | ins ea cl ha hn htk hm => exact .ins (e _ _ ea) cl ha hn htk hm
  | byt b => exact .byt b
  | set ea => exact .set (e _ _ ea)
  | kList ea c => exact .kList ea c
  | kTuple ea c => exact .kTuple ea c
  | kDict ea c => exact .kDict ea c
  | fTuple ea => exact .fTuple (e _ _ ea)
  | fDict ea => exact .fDict (e _ _ ea)
theorem En.same {v : V} {o : Option Int} (e : Same H H1) (h : En K H v o) : En K H1 v o := by
  cases h with
  | int i => exact .int i
  | oth h k1 k2 k3 => exact .oth (tyx_same e h) k1 k2 k3
theorem tyx_tup {a : Addr} {xs : List V} (h : SqT K H a xs) : TyX K H (.ref a) (.type "tuple") := by
  rcases h with (h | ⟨o, h⟩) | ⟨o, its, n, hk, hc, _⟩
  · exact .base (.tup h)
  · exact .fTuple h
  · exact .kTuple hk hc
/-- whether an entry is a letter or a contrary -/
def okE (n : Int) : Option Int → Bool
  | some i => decide (1 ≤ (if i < 0 then -i else i)) && decide ((if i < 0 then -i else i) ≤ n)
  | none => false
def intsOf : List (Option Int) → List Int
  | [] => []
  | some i :: r => i :: intsOf r
  | none :: r => intsOf r
/-- no entry beside its opposite, as the program asks it -/
def nfB (ns : List Int) : Bool := (List.range (ns.length - 1)).all fun j => !decide (ns.getD j 0 = - ns.getD (j + 1) 0)
def rowB (n m : Int) (os : List (Option Int)) : Bool := !decide (m < os.length) && os.all (okE n)
def bareB (n m : Int) (os : List (Option Int)) : Bool := rowB n m os && nfB (intsOf os)
theorem intsOf_some (ns : List Int) : intsOf (ns.map some) = ns := by
  induction ns with
  | nil => rfl
  | cons a l ih => show a :: intsOf (l.map some) = a :: l; rw [ih]
theorem all_some {n : Int} : ∀ {os : List (Option Int)}, os.all (okE n) = true → os = (intsOf os).map some
  | [], _ => rfl
  | some i :: r, h => by
    rw [List.all_cons, Bool.and_eq_true] at h
    show some i :: r = some i :: (intsOf r).map some
    rw [← all_some h.2]
  | none :: r, h => by
    rw [List.all_cons, Bool.and_eq_true] at h
    exact absurd h.1 Bool.false_ne_true
/-- a tuple of numbers as a value -/
theorem va_ints {a : Addr} {ns : List Int} (h : SqT K H a (ns.map V.int)) : Va K H (.ref a) (some (ns.map some)) := by
  refine .tup h (by rw [List.length_map, List.length_map]) fun j x o hx ho => ?_
  rw [List.getElem?_map] at hx ho
  cases q : ns[j]? with
  | none => rw [q] at hx; cases hx
  | some i =>
    rw [q] at hx ho
    cases hx
    cases ho
    exact .int i
theorem nfB_iff : ∀ {ns : List Int}, nfB ns = true ↔ Fr.Nf ns := by
  have key : ∀ ns : List Int, Fr.Nf ns ↔ ∀ j, j < ns.length - 1 → ns.getD j 0 ≠ - ns.getD (j + 1) 0 := fun ns => by
    induction ns with
    | nil => exact ⟨fun _ j hj => absurd hj (Nat.not_lt_zero _), fun _ => True.intro⟩
    | cons x t ih =>
      cases t with
      | nil => exact ⟨fun _ j hj => absurd hj (Nat.not_lt_zero _), fun _ => True.intro⟩
      | cons y t =>
        constructor
        · intro h j hj
          cases j with
          | zero => exact h.1
          | succ j =>
            have := (ih.mp h.2) j (by simp at hj ⊢; omega)
            exact this
        · intro h
          refine ⟨h 0 (by simp), ih.mpr fun j hj => ?_⟩
          exact h (j + 1) (by simp at hj ⊢; omega)
  intro ns
  rw [key ns]
  unfold nfB
  rw [List.all_eq_true]
  constructor
  · intro h j hj
    have := h j (List.mem_range.mpr hj)
    rw [Bool.not_eq_true'] at this
    exact of_decide_eq_false this
  · intro h j hj
    rw [Bool.not_eq_true']
    exact decide_eq_false (h j (List.mem_range.mp hj))
/-- letters and contraries of n letters -/
def Lt (n : Int) (ns : List Int) : Prop := ∀ i ∈ ns, i ≠ 0 ∧ -n ≤ i ∧ i ≤ n
/-- a word of n letters -/
structure Wd (n : Int) (ns : List Int) : Prop where
  lt : Lt n ns
  nf : Fr.Nf ns
theorem okE_lt {n : Int} {ns : List Int} (h : Lt n ns) : (ns.map some).all (okE n) = true := by
  rw [List.all_eq_true]
  intro o ho
  obtain ⟨i, hi, rfl⟩ := List.mem_map.mp ho
  obtain ⟨h0, h1, h2⟩ := h i hi
  show (decide _ && decide _) = true
  rw [Bool.and_eq_true]
  refine ⟨decide_eq_true ?_, decide_eq_true ?_⟩ <;> split <;> omega
theorem lt_okE {n : Int} {ns : List Int} (h : (ns.map some).all (okE n) = true) : Lt n ns := fun i hi => by
  have := List.all_eq_true.mp h (some i) (List.mem_map.mpr ⟨i, hi, rfl⟩)
  have h2 : (decide (1 ≤ (if i < 0 then -i else i)) && decide ((if i < 0 then -i else i) ≤ n)) = true := this
  rw [Bool.and_eq_true] at h2
  have a1 := of_decide_eq_true h2.1
  have a2 := of_decide_eq_true h2.2
  split at a1 <;> split at a2 <;> omega
theorem row_wd {n m : Int} {ns : List Int} (h : Lt n ns) (hm : (ns.length : Int) ≤ m) : rowB n m (ns.map some) = true := by
  unfold rowB
  rw [okE_lt h, List.length_map, Bool.and_true, Bool.not_eq_true']
  exact decide_eq_false (by omega)
theorem bare_wd {n m : Int} {ns : List Int} (h : Wd n ns) (hm : (ns.length : Int) ≤ m) : bareB n m (ns.map some) = true := by
  unfold bareB
  rw [row_wd h.lt hm, intsOf_some, nfB_iff.mpr h.nf]
  rfl
theorem lt_app {n : Int} {a b : List Int} (ha : Lt n a) (hb : Lt n b) : Lt n (a ++ b) := fun i hi => by
  rcases List.mem_append.mp hi with h | h
  · exact ha i h
  · exact hb i h
theorem lt_push {n e : Int} {s : List Int} (he : e ≠ 0 ∧ -n ≤ e ∧ e ≤ n) (hs : Lt n s) : Lt n (Fr.push e s) := by
  cases s with
  | nil => intro i hi; rw [List.mem_singleton.mp hi]; exact he
  | cons x t =>
    by_cases hx : x = -e
    · rw [Fr.push_eq hx]; exact fun i hi => hs i (List.mem_cons_of_mem _ hi)
    · rw [Fr.push_on hx]
      intro i hi
      rcases List.mem_cons.mp hi with h | h
      · rw [h]; exact he
      · exact hs i h
theorem lt_act {n : Int} : ∀ {w s : List Int}, Lt n w → Lt n s → Lt n (Fr.act w s)
  | [], _, _, hs => hs
  | e :: w, _, hw, hs => lt_act (w := w) (fun i hi => hw i (List.mem_cons_of_mem _ hi)) (lt_push (hw e List.mem_cons_self) hs)
theorem lt_rev {n : Int} {w : List Int} (h : Lt n w) : Lt n w.reverse := fun i hi => h i (List.mem_reverse.mp hi)
theorem lt_nil {n : Int} : Lt n [] := fun _ h => nomatch h
theorem wd_red {n : Int} {w : List Int} (h : Lt n w) : Wd n (Fr.red w) := ⟨lt_rev (lt_act h lt_nil), Fr.red_nf w⟩
theorem lt_opp {n : Int} {w : List Int} (h : Lt n w) : Lt n (Fr.opp w) := fun i hi => by
  unfold Fr.opp at hi
  obtain ⟨j, hj, e⟩ := List.mem_map.mp (List.mem_reverse.mp hi)
  have := h j hj
  omega
theorem len_push (e : Int) (s : List Int) : (Fr.push e s).length ≤ s.length + 1 := by
  cases s with
  | nil => exact Nat.le_refl _
  | cons x t =>
    by_cases hx : x = -e
    · rw [Fr.push_eq hx]; simp; omega
    · rw [Fr.push_on hx]; simp
theorem len_act : ∀ (w s : List Int), (Fr.act w s).length ≤ s.length + w.length
  | [], s => Nat.le_refl _
  | e :: w, s => by
    have h1 := len_act w (Fr.push e s)
    have h2 := len_push e s
    show (Fr.act w (Fr.push e s)).length ≤ _
    rw [List.length_cons]
    omega
theorem len_red (w : List Int) : (Fr.red w).length ≤ w.length := by
  have := len_act w []
  unfold Fr.red
  rw [List.length_reverse]
  simpa using this
end
/-! ### equality of tuples of numbers -/
theorem eqv_ints : ∀ a b : List Int, PyData.eqvAll (a.map PyData.int) (b.map PyData.int) = decide (a = b)
  | [], [] => rfl
  | [], _ :: _ => rfl
  | _ :: _, [] => rfl
  | x :: a, y :: b => by
    show (PyData.eqv (.int x) (.int y) && PyData.eqvAll (a.map PyData.int) (b.map PyData.int)) = _
    rw [eqv_ints a b]
    show ((x == y) && decide (a = b)) = decide (x :: a = y :: b)
    by_cases h : x = y
    · subst h
      by_cases h2 : a = b
      · subst h2; simp
      · simp [h2]
    · simp [h]
theorem eqv_tup (a b : List Int) : PyData.eqv (.tuple (a.map .int)) (.tuple (b.map .int)) = decide (a = b) := eqv_ints a b
theorem canLay_ints : ∀ a : List Int, PyData.canLayAll0 (a.map PyData.int) = true
  | [] => rfl
  | x :: a => by
    show (PyData.canLay0 (.int x) && PyData.canLayAll0 (a.map PyData.int)) = true
    rw [canLay_ints a]
    rfl
theorem dp_ints {K : PySem.W.Frag} {H : Hp} : ∀ ns : List Int, DpAll K H (ns.map V.int) (ns.map PyData.int)
  | [] => .nil
  | x :: a => .cons (.int x) (dp_ints a)
theorem dp_tup {K : PySem.W.Frag} {H : Hp} {a : Addr} {ns : List Int} (h : SqT K H a (ns.map V.int)) : Dp K H (.ref a) (.tuple (ns.map .int)) := .tup h (dp_ints ns)
end N0

namespace N0
open PySem PySem.Spec PyProof.Rows L2 HT
section
variable {K : PySem.W.Frag} {H : Hp} {a b : Addr} {ns ms : List Int} {Q : VK}
def cutI (ns : List Int) (lo hi : Option Int) : List Int := (ns.drop (sIx ns.length 0 lo)).take (sIx ns.length ns.length hi - sIx ns.length 0 lo)
theorem cut_map (ns : List Int) (lo hi : Option Int) : cutV (ns.map V.int) lo hi = (cutI ns lo hi).map V.int := by
  unfold cutV cutI
  rw [List.map_take, List.map_drop, List.length_map]
theorem sl_ints {lo hi : Option Int} (h : SqT K H a (ns.map V.int)) (k : ∀ H' p, Same H H' → SqT K H' p ((cutI ns lo hi).map V.int) → Q (.ref p) H') : rSlA K (.ref a) lo hi H Q := by
  refine ⟨a, _, rfl, h, fun hw => k _ _ (Same.refl _) ?_, fun _ p hp => k _ _ (new_same hp) (tup_of (by rw [upd_same, cut_map]))⟩
  rw [List.length_map] at hw
  unfold cutI
  rw [hw.1, hw.2, List.drop_zero, Nat.sub_zero, List.take_length]
  exact h
theorem cat_ints (h : SqT K H a (ns.map V.int)) (h2 : SqT K H b (ms.map V.int)) (hz : ns.length + ms.length ≤ 100000) (k : ∀ H' p, Same H H' → SqT K H' p ((ns ++ ms).map V.int) → Q (.ref p) H') : rCatA K (.ref a) (.ref b) H Q := by
  refine ⟨a, b, _, _, rfl, rfl, h, h2, ?_, fun e => k _ _ (Same.refl _) ?_, fun _ e => k _ _ (Same.refl _) ?_, fun _ _ p hp => k _ _ (new_same hp) (tup_of (by rw [upd_same, List.map_append]))⟩
  · rw [List.length_map, List.length_map]
    exact Nat.le_trans hz (by decide)
  · have : ns = [] := List.map_eq_nil_iff.mp e
    subst this
    exact h2
  · have : ms = [] := List.map_eq_nil_iff.mp e
    subst this
    rw [List.append_nil]
    exact h
theorem flat_map_rep (ns : List Int) : ∀ k : Nat, (List.replicate k (ns.map V.int)).flatten = (Fr.rep ns k).map V.int := fun k => by
  rw [← Fr.flat_rep, List.map_flatten, List.map_replicate]
theorem rep_ints {k : Int} (h : SqT K H a (ns.map V.int)) (k1 : 1 ≤ k) (k2 : k ≤ 1000) (hz : ns.length ≤ 1000) (q : ∀ H' p, Same H H' → SqT K H' p ((Fr.rep ns k.toNat).map V.int) → Q (.ref p) H') : rRepA K (.ref a) (.int k) H Q := by
  refine ⟨a, k, _, rfl, rfl, h, k1, k2, by rw [List.length_map]; exact hz, fun e => q _ _ (Same.refl _) ?_, fun _ _ p hp => q _ _ (new_same hp) (tup_of (by rw [upd_same, flat_map_rep]))⟩
  rcases e with e | e
  · have : ns = [] := List.map_eq_nil_iff.mp e
    subst this
    rw [Fr.rep_nil]
    exact h
  · subst e
    show SqT K H a ((Fr.rep ns 1).map V.int)
    exact h
theorem cutI_to (ns : List Int) (d : Nat) : cutI ns none (some (d : Int)) = ns.take d := by
  unfold cutI
  rw [sIx_none, sIx_nat, List.drop_zero, Nat.sub_zero]
  by_cases h : d ≤ ns.length
  · rw [Nat.min_eq_left h]
  · rw [Nat.min_eq_right (by omega), List.take_length, List.take_of_length_le (by omega)]
theorem cutI_from (ns : List Int) (d : Nat) : cutI ns (some (d : Int)) none = ns.drop d := by
  unfold cutI
  rw [sIx_none, sIx_nat]
  by_cases h : d ≤ ns.length
  · rw [Nat.min_eq_left h, List.take_of_length_le (by rw [List.length_drop]; omega)]
  · rw [Nat.min_eq_right (by omega), Nat.sub_self, List.take_zero, List.drop_of_length_le (by omega)]
theorem cutI_mid (ns : List Int) (d e : Nat) (he : e ≤ ns.length) (hd : d ≤ e) : cutI ns (some (d : Int)) (some (e : Int)) = (ns.drop d).take (e - d) := by
  unfold cutI
  rw [sIx_nat, sIx_nat, Nat.min_eq_left he, Nat.min_eq_left (by omega)]
end
theorem depth_ints : ∀ ns : List Int, PyData.depthAll (ns.map PyData.int) = 0
  | [] => rfl
  | x :: a => by
    show max (PyData.depth (.int x)) (PyData.depthAll (a.map PyData.int)) = 0
    rw [depth_ints a]
    rfl
theorem shaped_list (ns : List Int) : SeqAt.shaped (.list (ns.map .int)) = true := by
  unfold SeqAt.shaped
  rw [show PyData.canLay0 (.list (ns.map .int)) = PyData.canLayAll0 (ns.map .int) from rfl, canLay_ints, show PyData.depth (.list (ns.map .int)) = PyData.depthAll (ns.map .int) + 1 from rfl, depth_ints]
  rfl
theorem shaped_tup (ns : List Int) : SeqAt.shaped (.tuple (ns.map .int)) = true := by
  unfold SeqAt.shaped
  rw [show PyData.canLay0 (.tuple (ns.map .int)) = PyData.canLayAll0 (ns.map .int) from rfl, canLay_ints, show PyData.depth (.tuple (ns.map .int)) = PyData.depthAll (ns.map .int) + 1 from rfl, depth_ints]
  rfl
theorem eqv_list (a b : List Int) : PyData.eqv (.list (a.map .int)) (.list (b.map .int)) = decide (a = b) := eqv_ints a b
theorem dp_list {K : PySem.W.Frag} {H : Hp} {a : Addr} {ns : List Int} (h : SqL K H a (ns.map V.int)) : Dp K H (.ref a) (.list (ns.map .int)) := .lst h (dp_ints ns)
/-- two tuples of numbers compared -/
theorem ne_tup {K : PySem.W.Frag} {H : Hp} {a b : Addr} {ns ms : List Int} {Q : VK} (h : SqT K H a (ns.map V.int)) (h2 : SqT K H b (ms.map V.int)) (q : Q (.bl (!decide (ns = ms))) H) : rNeD K (.ref a) (.ref b) H Q :=
  ⟨_, _, dp_tup h, dp_tup h2, shaped_tup ns, shaped_tup ms, by rw [eqv_tup]; exact q⟩
theorem eq_tup {K : PySem.W.Frag} {H : Hp} {a b : Addr} {ns ms : List Int} {Q : VK} (h : SqT K H a (ns.map V.int)) (h2 : SqT K H b (ms.map V.int)) (q : Q (.bl (decide (ns = ms))) H) : rEqD K (.ref a) (.ref b) H Q :=
  ⟨_, _, dp_tup h, dp_tup h2, shaped_tup ns, shaped_tup ms, by rw [eqv_tup]; exact q⟩
theorem ne_list {K : PySem.W.Frag} {H : Hp} {a b : Addr} {ns ms : List Int} {Q : VK} (h : SqL K H a (ns.map V.int)) (h2 : SqL K H b (ms.map V.int)) (q : Q (.bl (!decide (ns = ms))) H) : rNeD K (.ref a) (.ref b) H Q :=
  ⟨_, _, dp_list h, dp_list h2, shaped_list ns, shaped_list ms, by rw [eqv_list]; exact q⟩
/-! the core by its two ends -/
def Pal (ns : List Int) (d : Nat) : Prop := 2 * d ≤ ns.length ∧ ∀ j, j < d → ns.getD j 0 = - ns.getD (ns.length - 1 - j) 0
theorem getD_of {ns : List Int} {j : Nat} (h : j < ns.length) : ns[j]? = some (ns.getD j 0) := by
  rw [List.getD_eq_getElem?_getD, List.getElem?_eq_getElem h]
  rfl
theorem pal_split {ns : List Int} {d : Nat} (h : Pal ns d) : ns = ns.take d ++ (ns.drop d).take (ns.length - d - d) ++ Fr.opp (ns.take d) := by
  obtain ⟨h1, h2⟩ := h
  have e : Fr.opp (ns.take d) = ns.drop (ns.length - d) := by
    refine List.ext_getElem? fun j => ?_
    by_cases hj : j < d
    · have a1 : (Fr.opp (ns.take d))[j]? = some (- ns.getD (d - 1 - j) 0) := by
        unfold Fr.opp
        rw [List.getElem?_reverse (by rw [List.length_map, List.length_take]; omega), List.length_map, List.length_take, Nat.min_eq_left (by omega), List.getElem?_map, List.getElem?_take, if_pos (by omega), getD_of (by omega)]
        rfl
      rw [a1, List.getElem?_drop, getD_of (by omega), h2 (d - 1 - j) (by omega), Int.neg_neg]
      have : ns.length - 1 - (d - 1 - j) = ns.length - d + j := by omega
      rw [this]
    · rw [List.getElem?_eq_none (by rw [Fr.opp_len, List.length_take]; omega), List.getElem?_eq_none (by rw [List.length_drop]; omega)]
  rw [e]
  have e2 : ns.drop d = (ns.drop d).take (ns.length - d - d) ++ ns.drop (ns.length - d) := by
    have := (List.take_append_drop (ns.length - d - d) (ns.drop d)).symm
    rw [List.drop_drop] at this
    have e3 : d + (ns.length - d - d) = ns.length - d := by omega
    rw [e3] at this
    exact this
  rw [List.append_assoc, ← e2, List.take_append_drop]
theorem nf_at : ∀ {ns : List Int}, Fr.Nf ns → ∀ j, j + 1 < ns.length → ns.getD j 0 ≠ - ns.getD (j + 1) 0
  | [], _, j, h => absurd h (Nat.not_lt_zero _)
  | [_], _, j, h => by simp at h
  | x :: y :: t, hn, 0, _ => hn.1
  | x :: y :: t, hn, j + 1, h => nf_at (ns := y :: t) hn.2 j (by simp at h ⊢; omega)
theorem pal_mid {n : Int} {ns : List Int} {d : Nat} (hw : Wd n ns) (h : Pal ns d) (hn : ns ≠ []) (stop : ¬ (2 * d + 1 < ns.length ∧ ns.getD d 0 = - ns.getD (ns.length - 1 - d) 0)) :
    (ns.drop d).take (ns.length - d - d) ≠ [] ∧ ∀ x y, ((ns.drop d).take (ns.length - d - d)).getLast? = some x → ((ns.drop d).take (ns.length - d - d)).head? = some y → x ≠ -y := by
  have hp : 0 < ns.length := List.length_pos_iff.mpr hn
  obtain ⟨h1, h2⟩ := h
  have h3 : 2 * d < ns.length := by
    by_cases q : 2 * d = ns.length
    · exfalso
      have hd : 0 < d := by omega
      have a1 := h2 (d - 1) (by omega)
      have e : ns.length - 1 - (d - 1) = d - 1 + 1 := by omega
      rw [e] at a1
      exact nf_at hw.nf (d - 1) (by omega) a1
    · omega
  have hlen : ((ns.drop d).take (ns.length - d - d)).length = ns.length - d - d := by rw [List.length_take, List.length_drop]; omega
  refine ⟨fun q => by rw [q] at hlen; simp at hlen; omega, fun x y hx hy => ?_⟩
  rw [List.getLast?_eq_getElem?, hlen, List.getElem?_take, if_pos (by omega), List.getElem?_drop, getD_of (by omega)] at hx
  rw [List.head?_eq_getElem?, List.getElem?_take, if_pos (by omega), List.getElem?_drop, getD_of (by omega)] at hy
  cases hx
  cases hy
  have e1 : d + (ns.length - d - d - 1) = ns.length - 1 - d := by omega
  rw [e1, Nat.add_zero]
  intro q
  by_cases h4 : 2 * d + 1 < ns.length
  · exact stop ⟨h4, by omega⟩
  · have e2 : ns.length - 1 - d = d := by omega
    rw [e2] at q
    have := (hw.lt (ns.getD d 0) (List.mem_of_getElem? (getD_of (ns := ns) (j := d) (by omega)))).1
    omega
end N0

namespace N0
open PySem PySem.Spec PyProof.Rows L2 HT
section
variable {K : PySem.W.Frag} {H H1 : Hp} {σ : L2.St}
theorem va_same {v : V} {o : Option (List (Option Int))} (e : Same H H1) (h : Va K H v o) : Va K H1 v o := by
  cases h with
  | tup h hl he => exact .tup (same_tup e h) hl fun j x o hx ho => (he j x o hx ho).same e
  | oth h k => exact .oth (tyx_same e h) k
/-- te gives a value of which P holds, and leaves all that was there -/
def EvS (te : TE) (σ : L2.St) (H : Hp) (P : V → Hp → Prop) : Prop := ∀ H1, Same H H1 → ∀ Q : VK, (∀ v H2, Same H1 H2 → P v H2 → Q v H2) → te σ H1 Q
abbrev IsE (K : PySem.W.Frag) (o : Option Int) : V → Hp → Prop := fun v H => En K H v o
abbrev IsT (K : PySem.W.Frag) (os : List (Option Int)) : V → Hp → Prop := fun v H => Va K H v (some os)
theorem evs_c {v : V} {P : V → Hp → Prop} (h : ∀ H1, Same H H1 → P v H1) : EvS (tC v) σ H P := fun H1 e Q q => q v H1 (Same.refl _) (h H1 e)
theorem evs_var {i : Nat} {v : V} {P : V → Hp → Prop} (hv : σ[i]? = some (some v)) (h : ∀ H1, Same H H1 → P v H1) : EvS (tVar i) σ H P := fun H1 e Q q => ⟨v, hv, q v H1 (Same.refl _) (h H1 e)⟩
theorem en_tup0 : IsT K [] (.ref a) (upd H a (.tup [])) := .tup (tup_of upd_same) rfl fun j x o hx _ => nomatch hx
theorem evs_t0 : EvS (tTup tNil) σ H (IsT K []) := fun H1 e Q q => ⟨Nat.zero_le _, fun p hp => q _ _ (new_same hp) (.tup (tup_of upd_same) rfl fun j x o hx _ => nomatch hx)⟩
theorem evs_t1 {te : TE} {o : Option Int} (h : EvS te σ H (IsE K o)) : EvS (tTup (tCons te tNil)) σ H (IsT K [o]) := fun H1 e Q q => h H1 e _ fun v H2 e2 hv =>
  ⟨by show 1 ≤ sizeLine; decide, fun p hp => q _ _ (Same.trans e2 (new_same hp)) (.tup (tup_of upd_same) rfl fun j x u hx hu => by
    cases j with
    | zero => cases hx; cases hu; exact hv.same (new_same hp)
    | succ j => cases hx)⟩
theorem evs_t2 {te tf : TE} {o u : Option Int} (h : EvS te σ H (IsE K o)) (h2 : EvS tf σ H (IsE K u)) : EvS (tTup (tCons te (tCons tf tNil))) σ H (IsT K [o, u]) := fun H1 e Q q => h H1 e _ fun v H2 e2 hv => h2 H2 (Same.trans e e2) _ fun v2 H3 e3 hv2 =>
  ⟨by show 2 ≤ sizeLine; decide, fun p hp => q _ _ (Same.trans (Same.trans e2 e3) (new_same hp)) (.tup (tup_of upd_same) rfl fun j x y hx hy => by
    cases j with
    | zero => cases hx; cases hy; exact (hv.same e3).same (new_same hp)
    | succ j =>
      cases j with
      | zero => cases hx; cases hy; exact hv2.same (new_same hp)
      | succ j => cases hx)⟩
theorem evs_cat {ta tb : TE} {os ps : List (Option Int)} (h1 : EvS ta σ H (IsT K os)) (h2 : EvS tb σ H (IsT K ps)) (hz : os.length + ps.length ≤ 100000) : EvS (tOp (rCatA K) ta tb) σ H (IsT K (os ++ ps)) := fun H1 e Q q =>
  h1 H1 e _ fun v H2 e2 hv => h2 H2 (Same.trans e e2) _ fun v2 H3 e3 hv2 => by
    have hv := va_same e3 hv
    cases hv with
    | @tup a xs _ h hl he =>
      cases hv2 with
      | @tup b ys _ h' hl' he' =>
        refine ⟨a, b, xs, ys, rfl, rfl, h, h', Nat.le_trans (by omega) (by decide : 100000 ≤ sizeLine), fun ex => q _ _ (Same.trans e2 e3) ?_, fun _ ey => q _ _ (Same.trans e2 e3) ?_, fun _ _ p hp => q _ _ (Same.trans (Same.trans e2 e3) (new_same hp)) ?_⟩
        · subst ex
          have : os = [] := List.eq_nil_of_length_eq_zero hl.symm
          subst this
          exact .tup h' hl' he'
        · subst ey
          have : ps = [] := List.eq_nil_of_length_eq_zero hl'.symm
          subst this
          rw [List.append_nil]
          exact .tup h hl he
        · refine .tup (tup_of upd_same) (by rw [List.length_append, List.length_append, hl, hl']) fun j x o hx ho => ?_
          refine En.same (new_same hp) ?_
          by_cases hj : j < xs.length
          · rw [List.getElem?_append_left hj] at hx
            rw [List.getElem?_append_left (by omega)] at ho
            exact he j x o hx ho
          · rw [List.getElem?_append_right (by omega)] at hx
            rw [List.getElem?_append_right (by omega), ← hl] at ho
            exact he' _ x o hx ho
theorem evs_ints {te : TE} {a : Addr} {ns : List Int} (h : EvS te σ H fun v H => ∃ a, v = .ref a ∧ SqT K H a (ns.map V.int)) : EvS te σ H (IsT K (ns.map some)) := fun H1 e Q q => h H1 e _ fun v H2 e2 ⟨a, ev, ha⟩ => q v H2 e2 (by rw [ev]; exact va_ints ha)
abbrev IsI (K : PySem.W.Frag) (ns : List Int) : V → Hp → Prop := fun v H => ∃ a, v = .ref a ∧ SqT K H a (ns.map V.int)
theorem isI {te : TE} {ns : List Int} (h : EvS te σ H (IsI K ns)) : EvS te σ H (IsT K (ns.map some)) := fun H1 e Q q => h H1 e _ fun v H2 e2 ⟨a, ev, ha⟩ => q v H2 e2 (by rw [ev]; exact va_ints ha)
theorem evs_to {i j : Nat} {a : Addr} {k : Nat} {ns : List Int} (hi : σ[i]? = some (some (.ref a))) (hj : σ[j]? = some (some (.int (k : Int)))) (h : SqT K H a (ns.map V.int)) : EvS (tSl (rSlA K) (tVar i) tNoPart (tPart (tVar j))) σ H (IsI K (ns.take k)) := fun H1 e Q q =>
  ⟨.ref a, hi, .int (k : Int), hj, (k : Int), rfl, sl_ints (same_tup e h) fun H2 p e2 hp => q _ _ e2 ⟨p, rfl, by rw [cutI_to] at hp; exact hp⟩⟩
theorem nopart {Q : Option Int → Hp → Prop} (h : Q none H) : tNoPart σ H Q := h
theorem evs_from {i j : Nat} {a : Addr} {k : Nat} {ns : List Int} (hi : σ[i]? = some (some (.ref a))) (hj : σ[j]? = some (some (.int (k : Int)))) (h : SqT K H a (ns.map V.int)) : EvS (tSl (rSlA K) (tVar i) (tPart (tVar j)) tNoPart) σ H (IsI K (ns.drop k)) := fun H1 e Q q =>
  ⟨.ref a, hi, .int (k : Int), hj, (k : Int), rfl, nopart (sl_ints (same_tup e h) fun H2 p e2 hp => q _ _ e2 ⟨p, rfl, by rw [cutI_from] at hp; exact hp⟩)⟩
/-- what is judged, and the word on it -/
def Itm (K : PySem.W.Frag) (J : Option (List (Option Int)) → Bool) : V → Hp → Prop := fun x H => ∃ (t : Addr) (v : V) (b : Bool) (o : Option (List (Option Int))), x = .ref t ∧ SqT K H t [v, .bl b] ∧ Va K H v o ∧ J o = b
theorem itm_same {J : Option (List (Option Int)) → Bool} {x : V} (e : Same H H1) (h : Itm K J x H) : Itm K J x H1 := by
  obtain ⟨t, v, b, o, e1, e2, e3, e4⟩ := h
  exact ⟨t, v, b, o, e1, same_tup e e2, va_same e e3, e4⟩
theorem evs_itm {J : Option (List (Option Int)) → Bool} {te : TE} {b : Bool} (h : EvS te σ H fun v H => ∃ o, Va K H v o ∧ J o = b) : EvS (tTup (tCons te (tCons (tC (.bl b)) tNil))) σ H (Itm K J) := fun H1 e Q q => h H1 e _ fun v H2 e2 ⟨o, hv, hj⟩ =>
  ⟨by show 2 ≤ sizeLine; decide, fun p hp => q _ _ (Same.trans e2 (new_same hp)) ⟨p, v, b, o, rfl, tup_of upd_same, va_same (new_same hp) hv, hj⟩⟩
theorem evs_of {te : TE} {P P' : V → Hp → Prop} (h : EvS te σ H P) (f : ∀ v H, P v H → P' v H) : EvS te σ H P' := fun H1 e Q q => h H1 e Q fun v H2 e2 hv => q v H2 e2 (f v H2 hv)
theorem itm_t {J : Option (List (Option Int)) → Bool} {te : TE} {b : Bool} {os : List (Option Int)} (h : EvS te σ H (IsT K os)) (hj : J (some os) = b) : EvS (tTup (tCons te (tCons (tC (.bl b)) tNil))) σ H (Itm K J) := evs_itm (evs_of h fun v H hv => ⟨_, hv, hj⟩)
theorem itm_o {J : Option (List (Option Int)) → Bool} {te : TE} {b : Bool} (h : EvS te σ H fun v H => Va K H v none) (hj : J none = b) : EvS (tTup (tCons te (tCons (tC (.bl b)) tNil))) σ H (Itm K J) := evs_itm (evs_of h fun v H hv => ⟨_, hv, hj⟩)
/-- the items of a display -/
def EvA (ta : TA) (σ : L2.St) (H : Hp) (n : Nat) (P : V → Hp → Prop) : Prop := ∀ H1, Same H H1 → ∀ Q : List V → Hp → Prop, (∀ vs H2, Same H1 H2 → vs.length = n → (∀ v ∈ vs, P v H2) → Q vs H2) → ta σ H1 Q
theorem eva_nil {P : V → Hp → Prop} : EvA tNil σ H 0 P := fun H1 e Q q => q [] H1 (Same.refl _) rfl fun _ h => nomatch h
theorem eva_cons {te : TE} {ta : TA} {n : Nat} {P : V → Hp → Prop} (pp : ∀ v H H1, Same H H1 → P v H → P v H1) (h : EvS te σ H P) (h2 : EvA ta σ H n P) : EvA (tCons te ta) σ H (n + 1) P := fun H1 e Q q => h H1 e _ fun v H2 e2 hv => h2 H2 (Same.trans e e2) _ fun vs H3 e3 hn hvs =>
  q _ _ (Same.trans e2 e3) (by rw [List.length_cons, hn]) fun u hu => by
    rcases List.mem_cons.mp hu with hu | hu
    · rw [hu]; exact pp _ _ _ e3 hv
    · exact hvs u hu
end
end N0

/-! rotations: which is least -/
namespace Rg
def Lt (a : Nat → Int) (s t : Nat) : Prop := ∃ j, (∀ i, i < j → a (s + i) = a (t + i)) ∧ a (s + j) < a (t + j)
variable {a : Nat → Int}
theorem Lt.irr {s : Nat} : ¬ Lt a s s := fun ⟨j, _, h⟩ => Int.lt_irrefl _ h
theorem Lt.asy {s t : Nat} (h : Lt a s t) : ¬ Lt a t s := fun ⟨j, h1, h2⟩ => by
  obtain ⟨i, g1, g2⟩ := h
  rcases Nat.lt_trichotomy i j with q | q | q
  · have := h1 i q; omega
  · subst q; omega
  · have := g1 j q; omega
theorem Lt.ntr {s t u : Nat} (h1 : ¬ Lt a s t) (h2 : ¬ Lt a t u) : ¬ Lt a s u := fun ⟨j, g1, g2⟩ => by
  have key : ∀ k, k ≤ j → ∀ i, i < k → a (t + i) = a (s + i) := by
    intro k
    induction k with
    | zero => exact fun _ i hi => absurd hi (Nat.not_lt_zero _)
    | succ k ih =>
      intro hk i hi
      have ih := ih (by omega)
      by_cases q : i < k
      · exact ih i q
      · have : i = k := by omega
        subst this
        have e1 : ¬ a (s + i) < a (t + i) := fun q => h1 ⟨i, fun m hm => (ih m hm).symm, q⟩
        have e2 : ¬ a (t + i) < a (u + i) := fun q => h2 ⟨i, fun m hm => (ih m hm).trans (g1 m (by omega)), q⟩
        have e3 := g1 i (by omega)
        omega
  have ih := key j (Nat.le_refl _)
  have e1 : ¬ a (s + j) < a (t + j) := fun q => h1 ⟨j, fun m hm => (ih m hm).symm, q⟩
  exact h2 ⟨j, fun m hm => (ih m hm).trans (g1 m hm), by omega⟩
theorem exists_min (a : Nat → Int) : ∀ n, 0 < n → ∃ m, m < n ∧ ∀ t, t < n → ¬ Lt a t m
  | 0, h => absurd h (Nat.lt_irrefl _)
  | 1, _ => ⟨0, by decide, fun t ht => (show t = 0 by omega) ▸ Lt.irr⟩
  | n + 2, _ => by
    obtain ⟨m, hm, h⟩ := exists_min a (n + 1) (by omega)
    by_cases q : Lt a (n + 1) m
    · refine ⟨n + 1, by omega, fun t ht => ?_⟩
      by_cases e : t = n + 1
      · subst e; exact Lt.irr
      · exact Lt.ntr (h t (by omega)) q.asy
    · refine ⟨m, by omega, fun t ht => ?_⟩
      by_cases e : t = n + 1
      · subst e; exact q
      · exact h t (by omega)
def Per (a : Nat → Int) (n : Nat) : Prop := ∀ i, a (i + n) = a i
theorem Per.mul {n : Nat} (h : Per a n) : ∀ k i, a (i + k * n) = a i
  | 0, i => by rw [Nat.zero_mul, Nat.add_zero]
  | k + 1, i => by rw [Nat.succ_mul, ← Nat.add_assoc, h, h.mul k]
theorem Per.mod {n : Nat} (h : Per a n) (t i : Nat) : a (t % n + i) = a (t + i) := by
  have e : t + i = t % n + i + (t / n) * n := by have := Nat.mod_add_div t n; rw [Nat.mul_comm] at this; omega
  rw [e, h.mul]
def Least (a : Nat → Int) (s : Nat) : Prop := ∀ t, ¬ Lt a t s
theorem least_min {n : Nat} (p : Per a n) (hn : 0 < n) {s : Nat} (h : ∀ t, t < n → ¬ Lt a t s) : Least a s := fun t ⟨j, h1, h2⟩ => h (t % n) (Nat.mod_lt _ hn) ⟨j, fun i hi => by rw [p.mod]; exact h1 i hi, by rw [p.mod]; exact h2⟩
theorem least_eq {s t : Nat} (hs : Least a s) (ht : Least a t) : ∀ i, a (s + i) = a (t + i) := fun i => by
  have key : ∀ k, ∀ i, i < k → a (s + i) = a (t + i) := by
    intro k
    induction k with
    | zero => exact fun i hi => absurd hi (Nat.not_lt_zero _)
    | succ k ih =>
      intro i hi
      by_cases q : i < k
      · exact ih i q
      · have : i = k := by omega
        subst this
        have e1 : ¬ a (s + i) < a (t + i) := fun q => ht s ⟨i, ih, q⟩
        have e2 : ¬ a (t + i) < a (s + i) := fun q => hs t ⟨i, fun m hm => (ih m hm).symm, q⟩
        omega
  exact key (i + 1) i (by omega)
theorem least_of_eq {s t : Nat} (hs : Least a s) (h : ∀ i, a (s + i) = a (t + i)) : Least a t := fun u ⟨j, h1, h2⟩ => hs u ⟨j, fun i hi => (h1 i hi).trans (h i).symm, by rw [h]; exact h2⟩
/-- two places that compete -/
structure Inv (a : Nat → Int) (f s k : Nat) : Prop where
  ne : f ≠ s
  eq : ∀ i, i < k → a (f + i) = a (s + i)
  bad : ∀ t, t < max f s → t ≠ f → t ≠ s → ∃ u, Lt a u t
theorem Inv.symm {f s k : Nat} (h : Inv a f s k) : Inv a s f k := ⟨h.ne.symm, fun i hi => (h.eq i hi).symm, fun t ht h1 h2 => h.bad t (by omega) h2 h1⟩
theorem Inv.start : Inv a 0 1 0 := ⟨by decide, fun i hi => absurd hi (Nat.not_lt_zero _), fun t ht h1 h2 => by omega⟩
theorem Inv.grow {f s k : Nat} (h : Inv a f s k) (e : a (f + k) = a (s + k)) : Inv a f s (k + 1) := ⟨h.ne, fun i hi => by
  by_cases q : i < k
  · exact h.eq i q
  · have : i = k := by omega
    subst this; exact e, h.bad⟩
theorem Inv.lost {f s k : Nat} (h : Inv a f s k) (e : a (s + k) < a (f + k)) (t : Nat) (h1 : f ≤ t) (h2 : t ≤ f + k) : ∃ u, Lt a u t := by
  refine ⟨s + (t - f), k - (t - f), fun i hi => ?_, ?_⟩
  · have e1 : s + (t - f) + i = s + ((t - f) + i) := by omega
    have e2 : t + i = f + ((t - f) + i) := by omega
    rw [e1, e2]
    exact (h.eq _ (by omega)).symm
  · have e1 : s + (t - f) + (k - (t - f)) = s + k := by omega
    have e2 : t + (k - (t - f)) = f + k := by omega
    rw [e1, e2]
    exact e
theorem Inv.on {f s k : Nat} (h : Inv a f s k) (e : a (s + k) < a (f + k)) (hne : f + k + 1 ≠ s) : Inv a (f + k + 1) s 0 := by
  refine ⟨hne, fun i hi => absurd hi (Nat.not_lt_zero _), fun t ht h1 h2 => ?_⟩
  by_cases q : f ≤ t ∧ t ≤ f + k
  · exact h.lost e t q.1 q.2
  · exact h.bad t (by omega) (by omega) h2
theorem Inv.on2 {f s k : Nat} (h : Inv a f s k) (e : a (s + k) < a (f + k)) (hne : f + k + 1 = s) : Inv a (f + k + 1) (s + 1) 0 := by
  refine ⟨by omega, fun i hi => absurd hi (Nat.not_lt_zero _), fun t ht h1 h2 => ?_⟩
  by_cases q : f ≤ t ∧ t ≤ f + k
  · exact h.lost e t q.1 q.2
  · exact h.bad t (by omega) (by omega) (by omega)
theorem Inv.done {n f s k : Nat} (p : Per a n) (hn : 0 < n) (h : Inv a f s k) (hlt : f < s) (hz : ¬ (s < n ∧ k < n)) : f < n ∧ Least a f := by
  obtain ⟨m, hm, hmin⟩ := exists_min a n hn
  have lm := least_min p hn hmin
  have nb : ∀ t, t < s → t ≠ f → ∃ u, Lt a u t := fun t ht h1 => h.bad t (by omega) h1 (by omega)
  by_cases q : m < s
  · by_cases e : m = f
    · subst e; exact ⟨hm, lm⟩
    · obtain ⟨u, hu⟩ := nb m q e
      exact absurd hu (lm u)
  · have hk : ¬ k < n := fun z => hz ⟨by omega, z⟩
    have per : ∀ i, a (f + i) = a (s + i) := fun i => by
      have e1 : a (f + i) = a (f + i % n) := by
        have := p.mul (i / n) (f + i % n)
        have e : f + i % n + i / n * n = f + i := by have := Nat.mod_add_div i n; rw [Nat.mul_comm] at this; omega
        rw [e] at this; exact this
      have e2 : a (s + i) = a (s + i % n) := by
        have := p.mul (i / n) (s + i % n)
        have e : s + i % n + i / n * n = s + i := by have := Nat.mod_add_div i n; rw [Nat.mul_comm] at this; omega
        rw [e] at this; exact this
      have := Nat.mod_lt i hn
      rw [e1, e2, h.eq (i % n) (by omega)]
    let d := s - f
    let b : Nat → Int := fun i => a (f + i)
    have pb : Per b d := fun i => by
      show a (f + (i + (s - f))) = a (f + i)
      have e : f + (i + (s - f)) = s + i := by omega
      rw [e, per]
    have hd : 0 < d := by show 0 < s - f; omega
    have eqs : ∀ i, a (f + (m - f) % d + i) = a (m + i) := fun i => by
      have := pb.mod (m - f) i
      show _
      have e1 : a (f + ((m - f) % d + i)) = a (f + ((m - f) + i)) := this
      have e2 : f + ((m - f) + i) = m + i := by omega
      have e3 : f + (m - f) % d + i = f + ((m - f) % d + i) := by omega
      rw [e3, e1, e2]
    have hmod := Nat.mod_lt (m - f) hd
    by_cases e : (m - f) % d = 0
    · rw [e, Nat.add_zero] at eqs
      exact ⟨by omega, least_of_eq lm fun i => (eqs i).symm⟩
    · obtain ⟨u, hu⟩ := nb (f + (m - f) % d) (by show _ < s; have : d = s - f := rfl; omega) (by omega)
      exact absurd hu (least_of_eq lm (fun i => (eqs i).symm) u)
theorem Inv.fin {n f s k : Nat} (p : Per a n) (hn : 0 < n) (h : Inv a f s k) (hz : ¬ (f < n ∧ s < n ∧ k < n)) : min f s < n ∧ Least a (min f s) := by
  rcases Nat.lt_or_ge f s with q | q
  · have := h.done p hn q (by omega)
    rw [Nat.min_eq_left (by omega)]; exact this
  · have hne := h.ne
    have := h.symm.done p hn (by omega) (by omega)
    rw [Nat.min_eq_right (by omega)]; exact this
/-! a list, round and round -/
def sq (l : List Int) (i : Nat) : Int := l.getD (i % l.length) 0
def rot (l : List Int) (k : Nat) : List Int := l.drop k ++ l.take k
theorem per_sq (l : List Int) : Per (sq l) l.length := fun i => by unfold sq; rw [Nat.add_mod_right]
theorem rot_len (l : List Int) (k : Nat) : (rot l k).length = l.length := by
  unfold rot; rw [List.length_append, List.length_drop, List.length_take]; omega
theorem rot_at {l : List Int} {k j : Nat} (hk : k ≤ l.length) (hj : j < l.length) : (rot l k).getD j 0 = sq l (k + j) := by
  unfold rot sq
  rw [List.getD_eq_getElem?_getD, List.getD_eq_getElem?_getD]
  by_cases q : j < l.length - k
  · rw [List.getElem?_append_left (by rw [List.length_drop]; exact q), List.getElem?_drop, Nat.mod_eq_of_lt (by omega)]
  · rw [List.getElem?_append_right (by rw [List.length_drop]; omega), List.length_drop, List.getElem?_take, if_pos (by omega)]
    have e : k + j = j - (l.length - k) + l.length := by omega
    rw [e, Nat.add_mod_right, Nat.mod_eq_of_lt (by omega)]
theorem list_ext {l m : List Int} (hl : l.length = m.length) (h : ∀ j, j < l.length → l.getD j 0 = m.getD j 0) : l = m := by
  refine List.ext_getElem? fun j => ?_
  by_cases q : j < l.length
  · rw [N0.getD_of q, N0.getD_of (hl ▸ q), h j q]
  · rw [List.getElem?_eq_none (by omega), List.getElem?_eq_none (by omega)]
theorem rot_sq {l : List Int} {k : Nat} (hk : k ≤ l.length) (i : Nat) : sq (rot l k) i = sq l (k + i) := by
  by_cases hn : l.length = 0
  · have : l = [] := List.eq_nil_of_length_eq_zero hn
    subst this
    unfold rot sq; simp
  · have : sq (rot l k) i = (rot l k).getD (i % l.length) 0 := by show (rot l k).getD (i % (rot l k).length) 0 = _; rw [rot_len]
    rw [this, rot_at hk (Nat.mod_lt _ (by omega))]
    have e := (per_sq l).mul (i / l.length) (k + i % l.length)
    have e1 : k + i % l.length + i / l.length * l.length = k + i := by have := Nat.mod_add_div i l.length; rw [Nat.mul_comm] at this; omega
    rw [e1] at e
    exact e.symm
theorem sq_self {l : List Int} {j : Nat} (hj : j < l.length) : sq l j = l.getD j 0 := by unfold sq; rw [Nat.mod_eq_of_lt hj]
/-- a row is the ring of another one -/
def Ring (m r : List Int) : Prop := r.length = m.length ∧ ∃ s, Least (sq m) s ∧ ∀ i, sq r i = sq m (s + i)
theorem ring_uniq {m r q : List Int} (h1 : Ring m r) (h2 : Ring m q) : r = q := by
  obtain ⟨l1, s, a1, b1⟩ := h1
  obtain ⟨l2, t, a2, b2⟩ := h2
  refine list_ext (l1.trans l2.symm) fun j hj => ?_
  have := least_eq a1 a2 j
  rw [← b1, ← b2, sq_self hj, sq_self (by omega)] at this
  exact this
theorem ring_rot {m : List Int} {k : Nat} (hk : k ≤ m.length) (h : Least (sq m) k) : Ring m (rot m k) := ⟨rot_len m k, k, h, fun i => rot_sq hk i⟩
/-- m is u turned -/
def Tn (u m : List Int) : Prop := m.length = u.length ∧ ∃ k, ∀ i, sq m i = sq u (k + i)
theorem tn_rot {m : List Int} {k : Nat} (hk : k ≤ m.length) : Tn m (rot m k) := ⟨rot_len m k, k, fun i => rot_sq hk i⟩
theorem Tn.refl (m : List Int) : Tn m m := ⟨rfl, 0, fun i => by rw [Nat.zero_add]⟩
theorem Tn.symm {u m : List Int} (h : Tn u m) : Tn m u := by
  obtain ⟨h1, k, h2⟩ := h
  by_cases hn : u.length = 0
  · have e1 : u = [] := List.eq_nil_of_length_eq_zero hn
    have e2 : m = [] := List.eq_nil_of_length_eq_zero (by omega)
    subst e1 e2
    exact Tn.refl _
  · refine ⟨h1.symm, u.length - k % u.length, fun i => ?_⟩
    rw [h2]
    have hm := Nat.mod_lt k (Nat.pos_of_ne_zero hn)
    have hd := Nat.mod_add_div k u.length
    rw [Nat.mul_comm] at hd
    have e : k + (u.length - k % u.length + i) = i + (k / u.length + 1) * u.length := by rw [Nat.add_mul, Nat.one_mul]; omega
    rw [e, (per_sq u).mul]
theorem Tn.trans {u m v : List Int} (h : Tn u m) (g : Tn m v) : Tn u v := by
  obtain ⟨h1, k, h2⟩ := h
  obtain ⟨g1, l, g2⟩ := g
  exact ⟨g1.trans h1, k + l, fun i => by rw [g2, h2, Nat.add_assoc]⟩
theorem Ring.tn {m r : List Int} (h : Ring m r) : Tn m r := ⟨h.1, h.2.choose, h.2.choose_spec.2⟩
theorem ring_tn {u m r : List Int} (h : Tn u m) (g : Ring u r) : Ring m r := by
  obtain ⟨g1, s, g2, g3⟩ := g
  obtain ⟨h1, k, h2⟩ := h.symm
  refine ⟨g1.trans h1, k + s, fun t ht => ?_, fun i => by rw [g3, h2, Nat.add_assoc]⟩
  obtain ⟨_, l, h4⟩ := h
  obtain ⟨j, e1, e2⟩ := ht
  rw [Nat.add_assoc] at e2
  refine g2 (l + t) ⟨j, fun i hi => ?_, ?_⟩
  · have := e1 i hi
    rw [h4, Nat.add_assoc k, ← h2, ← Nat.add_assoc] at this
    exact this
  · rw [h4, ← h2, ← Nat.add_assoc] at e2
    exact e2
theorem ring_ex (m : List Int) : ∃ r, Ring m r := by
  by_cases hn : m.length = 0
  · have e1 : m = [] := List.eq_nil_of_length_eq_zero hn
    subst e1
    exact ⟨[], rfl, 0, fun t ⟨j, _, h⟩ => by unfold sq at h; simp at h, fun i => by rw [Nat.zero_add]⟩
  · obtain ⟨k, hk, h⟩ := exists_min (sq m) m.length (by omega)
    exact ⟨rot m k, ring_rot (by omega) (least_min (per_sq m) (by omega) h)⟩
theorem tn_of_ring {u m r : List Int} (h : Ring u r) (g : Ring m r) : Tn u m := h.tn.trans g.tn.symm
theorem ring_nil : Ring [] [] := ⟨rfl, 0, fun t ⟨j, _, h⟩ => by unfold sq at h; simp at h, fun i => by rw [Nat.zero_add]⟩
theorem Ring.self {m r : List Int} (h : Ring m r) : Ring r r := ring_tn h.tn h
/-! by the order of tuples -/
theorem lex_of : ∀ (x y : List Int) (j : Nat), x.length = y.length → j < x.length → (∀ i, i < j → x.getD i 0 = y.getD i 0) → x.getD j 0 < y.getD j 0 → HT.lexLt x y = true
  | [], _, j, _, h, _, _ => absurd h (Nat.not_lt_zero _)
  | _ :: _, [], j, h, _, _, _ => nomatch h
  | x :: xs, y :: ys, 0, _, _, _, h2 => by
    have h2 : x < y := h2
    rw [HT.lexLt_cons, if_neg (by omega)]
    exact decide_eq_true h2
  | x :: xs, y :: ys, j + 1, hl, hj, h1, h2 => by
    have h0 : x = y := h1 0 (by omega)
    rw [HT.lexLt_cons, if_pos h0]
    exact lex_of xs ys j (by simpa using hl) (by simpa using hj) (fun i hi => h1 (i + 1) (by omega)) h2
theorem least_lex {l : List Int} {k : Nat} (hk : k < l.length) (h : ∀ t, t < l.length → HT.lexLt (rot l t) (rot l k) = false) : Least (sq l) k := by
  refine least_min (per_sq l) (by omega) fun t ht ⟨j, h1, h2⟩ => ?_
  have hj : j < l.length := by
    refine Decidable.byContradiction fun q => ?_
    have e := h1 (j % l.length) (by have := Nat.mod_lt j (show 0 < l.length by omega); omega)
    have p := fun t => (per_sq l).mul (j / l.length) (t + j % l.length)
    have e1 : ∀ t, t + j % l.length + j / l.length * l.length = t + j := fun t => by have := Nat.mod_add_div j l.length; rw [Nat.mul_comm] at this; omega
    have p1 := p t
    have p2 := p k
    rw [e1] at p1 p2
    omega
  have := lex_of (rot l t) (rot l k) j (by rw [rot_len, rot_len]) (by rw [rot_len]; exact hj) (fun i hi => by rw [rot_at (by omega) (by omega), rot_at (by omega) (by omega)]; exact h1 i hi) (by rw [rot_at (by omega) (by omega), rot_at (by omega) (by omega)]; exact h2)
  rw [h t ht] at this
  cases this
end Rg

/-! cores and rings of words -/
namespace Rg
open Fr
def Cr (m : List Int) : Prop := m ≠ [] ∧ ∀ x y, m.getLast? = some x → m.head? = some y → x ≠ -y
def Spl (ns c m : List Int) : Prop := ns = c ++ m ++ opp c ∧ (ns = [] → c = [] ∧ m = []) ∧ (ns ≠ [] → Cr m)
theorem snoc_of {m : List Int} (h : m ≠ []) : ∃ t q, m = t ++ [q] := ⟨m.dropLast, m.getLast h, (List.dropLast_concat_getLast h).symm⟩
theorem nf_mid {a b c : List Int} (h : Nf (a ++ b ++ c)) : Nf b := nf_back (nf_front h)
theorem nf_cons {x : Int} {w : List Int} (hw : Nf w) (h : ∀ y, w.head? = some y → x ≠ -y) : Nf (x :: w) := by
  cases w with
  | nil => exact True.intro
  | cons y t => exact ⟨h y rfl, hw⟩
theorem nf_end {x : Int} {w : List Int} (hw : Nf w) (h : ∀ y, w.getLast? = some y → y ≠ -x) : Nf (w ++ [x]) := nf_join hw True.intro fun u v hu hv => by cases hv; exact h u hu
theorem last_snoc (t : List Int) (q : Int) : (t ++ [q]).getLast? = some q := by rw [List.getLast?_append]; rfl
theorem nf_jn {a b : List Int} {x y : Int} (hab : Nf (a ++ b)) (hx : a.getLast? = some x) (hy : b.head? = some y) : x ≠ -y := by
  have hne : a ≠ [] := fun q => by rw [q] at hx; cases hx
  obtain ⟨t, q, rfl⟩ := snoc_of hne
  rw [last_snoc] at hx
  cases hx
  cases b with
  | nil => cases hy
  | cons z b' =>
    cases hy
    rw [List.append_assoc] at hab
    exact (nf_back hab).1
theorem turn1 {w c m : List Int} (hw : Nf w) (s : w = c ++ m ++ opp c) (h : Cr m) (x : Int) : ∃ c' m', red ([x] ++ w ++ [-x]) = c' ++ m' ++ opp c' ∧ Cr m' ∧ Tn m m' := by
  have long : (∀ y, w.head? = some y → x ≠ -y) → (∀ y, w.getLast? = some y → y ≠ x) → ∃ c' m', red ([x] ++ w ++ [-x]) = c' ++ m' ++ opp c' ∧ Cr m' ∧ Tn m m' := fun h1 h2 => by
    have hne : w ≠ [] := fun q => by
      rw [q] at s
      have := congrArg List.length s
      simp only [List.length_append, List.length_nil] at this
      exact h.1 (List.eq_nil_of_length_eq_zero (by omega))
    refine ⟨x :: c, m, ?_, h, Tn.refl m⟩
    rw [red_id, opp_cons, s]
    · simp [List.append_assoc]
    · refine nf_end (w := x :: w) (nf_cons hw h1) fun y hy => ?_
      have : (x :: w).getLast? = w.getLast? := by
        cases w with
        | nil => exact absurd rfl hne
        | cons a b => rw [List.getLast?_cons_cons]
      rw [this] at hy
      have := h2 y hy
      omega
  cases c with
  | cons y c =>
    rw [opp_cons] at s
    by_cases q : x = -y
    · refine ⟨c, m, ?_, h, Tn.refl m⟩
      have e : [x] ++ w ++ [-x] = [] ++ x :: y :: ((c ++ m ++ opp c) ++ [-y, -x]) := by rw [s]; simp [List.append_assoc]
      rw [e, red_strike _ _ _ _ q]
      have e2 : [] ++ ((c ++ m ++ opp c) ++ [-y, -x]) = (c ++ m ++ opp c) ++ (-y) :: (-x) :: [] := rfl
      rw [e2, red_strike _ _ _ _ (by omega), List.append_nil]
      refine red_id ?_
      have : w = [y] ++ (c ++ m ++ opp c) ++ [-y] := by rw [s]; simp [List.append_assoc]
      rw [this] at hw
      exact nf_mid hw
    · refine long (fun z hz => ?_) fun z hz => ?_
      · rw [s] at hz; cases hz; exact q
      · rw [s, ← List.append_assoc, last_snoc] at hz; cases hz; omega
  | nil =>
    have s : w = m := by rw [s]; simp [opp]
    subst s
    obtain ⟨p, t, rfl⟩ : ∃ p t, w = p :: t := by
      cases w with
      | nil => exact absurd rfl h.1
      | cons a b => exact ⟨a, b, rfl⟩
    by_cases q : x = -p
    · refine ⟨[], t ++ [p], ?_, ⟨by simp, fun u v hu hv => ?_⟩, tn_rot (m := p :: t) (k := 1) (by simp)⟩
      · have e : [x] ++ (p :: t) ++ [-x] = [] ++ x :: p :: (t ++ [-x]) := rfl
        rw [e, red_strike _ _ _ _ q, List.nil_append, show -x = p by omega]
        have : Nf (t ++ [p]) := by
          refine nf_end hw.tail fun y hy => ?_
          refine h.2 y p ?_ rfl
          cases t with
          | nil => cases hy
          | cons a b => rw [List.getLast?_cons_cons]; exact hy
        rw [red_id this]
        simp [opp]
      · rw [last_snoc] at hu
        cases hu
        cases t with
        | nil => cases hv; exact h.2 p p rfl rfl
        | cons a b => cases hv; exact hw.1
    · obtain ⟨t2, z, e0⟩ := snoc_of h.1
      by_cases q2 : z = x
      · subst q2
        rw [e0] at hw h ⊢
        refine ⟨[], z :: t2, ?_, ⟨by simp, fun u v hu hv => ?_⟩, ?_⟩
        · have e : [z] ++ (t2 ++ [z]) ++ [-z] = (z :: t2) ++ z :: (-z) :: [] := by simp [List.append_assoc]
          rw [e, red_strike _ _ _ _ (by omega), List.append_nil]
          have : Nf (z :: t2) := nf_cons (nf_front hw) fun y hy => by
            refine h.2 z y (last_snoc _ _) ?_
            cases t2 with
            | nil => cases hy
            | cons a b => exact hy
          rw [red_id this]
          simp [opp]
        · cases hv
          cases t2 with
          | nil => cases hu; exact h.2 z z rfl rfl
          | cons a b =>
            rw [List.getLast?_cons_cons] at hu
            exact nf_jn hw hu rfl
        · have := tn_rot (m := t2 ++ [z]) (k := t2.length) (by simp)
          unfold rot at this
          rw [List.drop_left, List.take_left] at this
          exact this
      · refine long (fun y hy => ?_) fun y hy => ?_
        · cases hy; exact q
        · rw [e0, last_snoc] at hy; cases hy; exact q2
theorem spl_nil : Spl [] [] [] := ⟨rfl, fun _ => ⟨rfl, rfl⟩, fun q => absurd rfl q⟩
theorem spl_of {w c m : List Int} (s : w = c ++ m ++ opp c) (h : Cr m) : Spl w c m := ⟨s, fun q => by
  rw [q] at s
  have := congrArg List.length s
  simp only [List.length_append, List.length_nil] at this
  exact absurd (List.eq_nil_of_length_eq_zero (by omega)) h.1, fun _ => h⟩
theorem turn (w c m : List Int) (hw : Nf w) (s : Spl w c m) : ∀ by_ : List Int, ∃ c' m', Spl (red (by_ ++ w ++ opp by_)) c' m' ∧ Tn m m'
  | b => by
    by_cases hn : w = []
    · obtain ⟨rfl, rfl⟩ := s.2.1 hn
      subst hn
      rw [List.append_nil, red_opp_self]
      exact ⟨[], [], spl_nil, Tn.refl _⟩
    · suffices ∃ c' m', red (b ++ w ++ opp b) = c' ++ m' ++ opp c' ∧ Cr m' ∧ Tn m m' by
        obtain ⟨c', m', e1, e2, e3⟩ := this
        exact ⟨c', m', spl_of e1 e2, e3⟩
      induction b with
      | nil => exact ⟨c, m, by rw [show ([] : List Int) ++ w ++ opp [] = w by simp [opp], red_id hw]; exact s.1, s.2.2 hn, Tn.refl _⟩
      | cons x b ih =>
        obtain ⟨c', m', e1, e2, e3⟩ := ih
        obtain ⟨c2, m2, f1, f2, f3⟩ := turn1 (red_nf (b ++ w ++ opp b)) e1 e2 x
        refine ⟨c2, m2, ?_, f2, e3.trans f3⟩
        rw [← f1, opp_cons]
        have e : x :: b ++ w ++ (opp b ++ [-x]) = [x] ++ ((b ++ w ++ opp b) ++ [-x]) := by simp [List.append_assoc]
        rw [e, ← red_app_r, ← red_app_l (b ++ w ++ opp b), red_app_r, List.append_assoc [x]]
theorem spl_uniq : ∀ {c c' : List Int} {w m m' : List Int}, Spl w c m → Spl w c' m' → c = c' ∧ m = m' := fun {c} => by
  suffices ∀ {c' w m m' : List Int}, w = c ++ m ++ opp c → w = c' ++ m' ++ opp c' → Cr m → Cr m' → c = c' ∧ m = m' by
    intro c' w m m' s s'
    by_cases hn : w = []
    · obtain ⟨rfl, rfl⟩ := s.2.1 hn
      obtain ⟨rfl, rfl⟩ := s'.2.1 hn
      exact ⟨rfl, rfl⟩
    · exact this s.1 s'.1 (s.2.2 hn) (s'.2.2 hn)
  have bad : ∀ {x : Int} {c m : List Int}, Cr (x :: c ++ m ++ opp (x :: c)) → False := fun {x c m} h => by
    rw [opp_cons, ← List.append_assoc] at h
    exact h.2 (-x) x (last_snoc _ _) rfl rfl
  induction c with
  | nil =>
    intro c' w m m' s s' h h'
    have s : w = m := by rw [s]; simp [opp]
    subst s
    cases c' with
    | nil => exact ⟨rfl, by rw [s']; simp [opp]⟩
    | cons x c' => rw [s'] at h; exact (bad h).elim
  | cons x c ih =>
    intro c' w m m' s s' h h'
    cases c' with
    | nil =>
      have s' : w = m' := by rw [s']; simp [opp]
      subst s'
      rw [s] at h'
      exact (bad h').elim
    | cons y c' =>
      rw [s, opp_cons, opp_cons, ← List.append_assoc, ← List.append_assoc] at s'
      injection s' with e1 e2
      subst e1
      have e3 := List.append_inj_left' e2 rfl
      obtain ⟨rfl, rfl⟩ := ih rfl e3 h h'
      exact ⟨rfl, rfl⟩
/-- the ring of a word -/
def RingW (w r : List Int) : Prop := ∃ c m, Spl w c m ∧ Ring m r
theorem ringw_uniq {w r q : List Int} (h : RingW w r) (g : RingW w q) : r = q := by
  obtain ⟨c, m, h1, h2⟩ := h
  obtain ⟨c', m', g1, g2⟩ := g
  obtain ⟨rfl, rfl⟩ := spl_uniq h1 g1
  exact ring_uniq h2 g2
theorem ringw_turn {w r : List Int} (hw : Nf w) (h : RingW w r) (b : List Int) : RingW (red (b ++ w ++ opp b)) r := by
  obtain ⟨c, m, h1, h2⟩ := h
  obtain ⟨c', m', g1, g2⟩ := turn w c m hw h1 b
  exact ⟨c', m', g1, ring_tn g2 h2⟩
theorem opp_last (m : List Int) : (opp m).getLast? = m.head?.map fun e => -e := by
  cases m with
  | nil => rfl
  | cons a b => rw [opp_cons, last_snoc]; rfl
theorem opp_head (m : List Int) : (opp m).head? = m.getLast?.map fun e => -e := by
  by_cases hn : m = []
  · subst hn; rfl
  · obtain ⟨t, q, rfl⟩ := snoc_of hn
    rw [opp_app, last_snoc]
    rfl
theorem cr_opp {m : List Int} (h : Cr m) : Cr (opp m) := by
  refine ⟨fun q => h.1 (by have := congrArg opp q; rw [opp_opp] at this; exact this), fun x y hx hy => ?_⟩
  rw [opp_last] at hx
  rw [opp_head] at hy
  cases h1 : m.head? with
  | none => rw [h1] at hx; cases hx
  | some a =>
    cases h2 : m.getLast? with
    | none => rw [h2] at hy; cases hy
    | some b =>
      rw [h1] at hx
      rw [h2] at hy
      cases hx
      cases hy
      have := h.2 b a h2 h1
      show -a ≠ - -b
      omega
theorem spl_opp {w c m : List Int} (s : Spl w c m) : Spl (opp w) c (opp m) := by
  by_cases hn : w = []
  · obtain ⟨rfl, rfl⟩ := s.2.1 hn
    subst hn
    exact spl_nil
  · refine spl_of ?_ (cr_opp (s.2.2 hn))
    rw [s.1, opp_app, opp_app, opp_opp, List.append_assoc]
theorem opp_at {m : List Int} {i : Nat} (hi : i < m.length) : (opp m).getD i 0 = - m.getD (m.length - 1 - i) 0 := by
  rw [List.getD_eq_getElem?_getD]
  unfold opp
  rw [List.getElem?_reverse (by rw [List.length_map]; exact hi), List.length_map, List.getElem?_map, N0.getD_of (by omega)]
  rfl
theorem no_back {m : List Int} (hn : Nf m) (hz : ∀ e, e ∈ m → e ≠ 0) (h : Tn m (opp m)) : m = [] := by
  refine Decidable.byContradiction fun hne => ?_
  have hp : 0 < m.length := List.length_pos_iff.mpr hne
  obtain ⟨_, k, h⟩ := h
  have hk := Nat.mod_lt k hp
  have h : ∀ i, i < m.length → - m.getD (m.length - 1 - i) 0 = sq m (k % m.length + i) := fun i hi => by
    have := h i
    rw [show sq (opp m) i = (opp m).getD i 0 from sq_self (by rw [opp_len]; exact hi), opp_at hi] at this
    rw [this, (per_sq m).mod]
  rcases Nat.mod_two_eq_zero_or_one (m.length - 1 - k % m.length) with q | q
  · have := h ((m.length - 1 - k % m.length) / 2) (by omega)
    rw [sq_self (by omega)] at this
    have e : k % m.length + (m.length - 1 - k % m.length) / 2 = m.length - 1 - (m.length - 1 - k % m.length) / 2 := by omega
    rw [e] at this
    exact hz _ (List.mem_of_getElem? (N0.getD_of (ns := m) (j := m.length - 1 - (m.length - 1 - k % m.length) / 2) (by omega))) (by omega)
  · have := h ((m.length - 2 - k % m.length) / 2) (by omega)
    rw [sq_self (by omega)] at this
    have e : m.length - 1 - (m.length - 2 - k % m.length) / 2 = k % m.length + (m.length - 2 - k % m.length) / 2 + 1 := by omega
    rw [e] at this
    exact N0.nf_at hn (k % m.length + (m.length - 2 - k % m.length) / 2) (by omega) this.symm
theorem spl_empty {w c m : List Int} (s : Spl w c m) (h : m = []) : w = [] := Decidable.byContradiction fun q => (s.2.2 q).1 h
theorem ringw_back {w r : List Int} (hn : Nf w) (hz : ∀ e, e ∈ w → e ≠ 0) (h : RingW w r) (g : RingW (opp w) r) : w = [] := by
  obtain ⟨c, m, h1, h2⟩ := h
  obtain ⟨c', m', g1, g2⟩ := g
  obtain ⟨rfl, rfl⟩ := spl_uniq g1 (spl_opp h1)
  refine spl_empty h1 (no_back (nf_mid (h1.1 ▸ hn)) (fun e he => hz e (by rw [h1.1]; simp [he])) (tn_of_ring h2 g2))
theorem rep_at (l : List Int) : ∀ n i, i < n * l.length → (rep l n).getD i 0 = l.getD (i % l.length) 0
  | 0, i, h => by omega
  | n + 1, i, h => by
    show (rep l n ++ l).getD i 0 = _
    rw [Nat.succ_mul] at h
    rw [List.getD_eq_getElem?_getD]
    by_cases q : i < n * l.length
    · rw [List.getElem?_append_left (by rw [rep_len]; exact q), ← List.getD_eq_getElem?_getD, rep_at l n i q]
    · rw [List.getElem?_append_right (by rw [rep_len]; omega), rep_len, ← List.getD_eq_getElem?_getD]
      have e : i = (i - n * l.length) + n * l.length := by omega
      have e2 : i % l.length = i - n * l.length := by
        rw [e, Nat.add_mul_mod_self_right, Nat.mod_eq_of_lt (by omega)]
        omega
      rw [e2]
theorem sq_rep (l : List Int) (n : Nat) : sq (rep l (n + 1)) = sq l := by
  funext i
  unfold sq
  by_cases hn : l = []
  · subst hn; rw [rep_nil]
  · have hp : 0 < l.length := List.length_pos_iff.mpr hn
    have : 0 < (n + 1) * l.length := Nat.mul_pos (by omega) hp
    rw [rep_at l (n + 1) _ (by rw [rep_len]; exact Nat.mod_lt _ this), rep_len, Nat.mod_mod_of_dvd _ ⟨n + 1, Nat.mul_comm _ _⟩]
theorem ring_rep {m r : List Int} (h : Ring m r) (n : Nat) : Ring (rep m (n + 1)) (rep r (n + 1)) := by
  obtain ⟨h1, s, h2, h3⟩ := h
  refine ⟨by rw [rep_len, rep_len, h1], s, ?_, fun i => ?_⟩
  · rw [sq_rep]; exact h2
  · rw [sq_rep, sq_rep]; exact h3 i
theorem rep_ends {m : List Int} (h : Cr m) (n : Nat) : Cr (rep m (n + 1)) := by
  obtain ⟨t, z, e⟩ := snoc_of h.1
  have hz : m.getLast? = some z := by rw [e]; exact last_snoc _ _
  obtain ⟨p, hp⟩ : ∃ p, m.head? = some p := by
    cases m with
    | nil => exact absurd rfl h.1
    | cons a b => exact ⟨a, rfl⟩
  refine ⟨fun q => ?_, fun x y hx hy => ?_⟩
  · have := head_rep hp n
    rw [q] at this
    cases this
  · rw [last_rep hz n] at hx
    rw [head_rep hp n] at hy
    cases hx
    cases hy
    exact h.2 z p hz hp
theorem ringw_rep {w r : List Int} (hw : Nf w) (h : RingW w r) (n : Nat) : RingW (red (rep w (n + 1))) (rep r (n + 1)) := by
  obtain ⟨c, m, h1, h2⟩ := h
  by_cases hn : w = []
  · obtain ⟨rfl, rfl⟩ := h1.2.1 hn
    subst hn
    refine ⟨[], [], by rw [rep_nil]; exact spl_nil, ?_⟩
    have := ring_rep h2 n
    rw [rep_nil] at this
    exact this
  · have hm := h1.2.2 hn
    have e := red_pow (h1.1 ▸ hw) hm.1 hm.2 n
    rw [← h1.1] at e
    rw [e]
    exact ⟨c, rep m (n + 1), spl_of rfl (rep_ends hm n), ring_rep h2 n⟩
theorem cr_rot {m : List Int} (hn : Nf m) (h : Cr m) (k : Nat) (hk : k < m.length) : Nf (rot m k) ∧ Cr (rot m k) := by
  unfold rot
  have e := List.take_append_drop k m
  have hb : m.drop k ≠ [] := fun q => by have := congrArg List.length q; rw [List.length_drop] at this; simp at this; omega
  generalize m.take k = a at e
  generalize m.drop k = b at e hb
  subst e
  cases a with
  | nil => rw [List.append_nil]; exact ⟨hn, h⟩
  | cons p a =>
    obtain ⟨t, z, rfl⟩ := snoc_of hb
    refine ⟨nf_join (nf_back hn) (nf_front hn) fun x y hx hy => ?_, by simp, fun x y hx hy => ?_⟩
    · exact h.2 x y (by rw [List.getLast?_append, hx]; rfl) hy
    · rw [List.getLast?_append] at hx
      have hy : (t ++ [z]).head? = some y := by
        rw [List.head?_append] at hy
        cases t with
        | nil => exact hy
        | cons u v => exact hy
      refine nf_jn hn ?_ hy
      cases q : (p :: a).getLast? with
      | none => cases a <;> simp at q
      | some v => rw [q] at hx; exact hx
theorem ring_is {m r : List Int} (h : Ring m r) : m = [] ∧ r = [] ∨ ∃ k, k < m.length ∧ r = rot m k := by
  by_cases hn : m.length = 0
  · have e1 : m = [] := List.eq_nil_of_length_eq_zero hn
    exact .inl ⟨e1, List.eq_nil_of_length_eq_zero (h.1.trans hn)⟩
  · obtain ⟨k, hk, g⟩ := exists_min (sq m) m.length (by omega)
    exact .inr ⟨k, hk, ring_uniq h (ring_rot (by omega) (least_min (per_sq m) (by omega) g))⟩
theorem mem_rot {m : List Int} {k : Nat} {e : Int} (h : e ∈ rot m k) : e ∈ m := by
  unfold rot at h
  rw [List.mem_append] at h
  exact h.elim List.mem_of_mem_drop List.mem_of_mem_take
/-- the ring of a word is a word, and its own ring -/
theorem ringw_self {w r : List Int} (hw : Nf w) (h : RingW w r) : Nf r ∧ RingW r r ∧ (∀ e, e ∈ r → e ∈ w) ∧ r.length ≤ w.length := by
  obtain ⟨c, m, h1, h2⟩ := h
  have hl := congrArg List.length h1.1
  rw [List.length_append, List.length_append] at hl
  have hl2 := h2.1
  rcases ring_is h2 with ⟨rfl, rfl⟩ | ⟨k, hk, rfl⟩
  · exact ⟨True.intro, ⟨[], [], spl_nil, h2⟩, (fun e he => nomatch he), Nat.zero_le _⟩
  · have hn : w ≠ [] := fun q => by
      obtain ⟨_, rfl⟩ := h1.2.1 q
      simp at hk
    obtain ⟨e1, e2⟩ := cr_rot (nf_mid (h1.1 ▸ hw)) (h1.2.2 hn) k hk
    exact ⟨e1, ⟨[], _, spl_of (by simp [opp]) e2, h2.self⟩, fun e he => by rw [h1.1]; simp [mem_rot he], by omega⟩
/-- the word between -/
theorem between_ok {one other c1 m1 c2 m2 : List Int} {k : Nat} (s1 : Spl one c1 m1) (s2 : Spl other c2 m2) (hn : Nf other) (h : rot m1 k = m2) :
    red (red (c2 ++ opp (m1.take k) ++ opp c1) ++ one ++ opp (red (c2 ++ opp (m1.take k) ++ opp c1))) = other := by
  generalize eA : c2 ++ opp (m1.take k) ++ opp c1 = A
  have : red (red A ++ one ++ opp (red A)) = red (A ++ one ++ opp A) := by
    rw [opp_red, red_app_r, List.append_assoc, red_app_l, ← List.append_assoc]
  rw [this, ← eA, s1.1, ← red_id hn, s2.1, ← h]
  have e := (List.take_append_drop k m1).symm
  unfold rot
  generalize m1.take k = t at e ⊢
  generalize m1.drop k = d at e ⊢
  rw [e]
  refine red_congr ?_
  have n0 : Nf (act c2 []) := Nf.of_act c2
  simp only [opp_app, opp_opp, act_app]
  rw [opp_act c1 (act_nf _ n0), opp_act t n0, opp_act c1 (act_nf _ n0)]
theorem rot_rot {m : List Int} {i j : Nat} {u : List Int} (hm : m ≠ []) (hi : i < m.length) (hj : j < u.length) (hl : u.length = m.length) (h : rot m i = rot u j) (k : Nat) (hk : (k : Int) = ((i : Int) - (j : Int)) % (m.length : Int)) : rot m k = u := by
  have hp : 0 < m.length := List.length_pos_iff.mpr hm
  have hk2 : k < m.length := by
    have := Int.emod_lt_of_pos ((i : Int) - j) (show (0 : Int) < m.length by omega)
    omega
  have hk3 : k + j = i ∨ k + j = i + m.length := by
    by_cases q : j ≤ i
    · left
      have : ((i : Int) - j) % (m.length : Int) = (i : Int) - j := Int.emod_eq_of_lt (by omega) (by omega)
      omega
    · right
      have : ((i : Int) - j) % (m.length : Int) = (i : Int) - j + m.length := by
        rw [← Int.add_emod_right]
        exact Int.emod_eq_of_lt (by omega) (by omega)
      omega
  have hs : ∀ z, sq m (i + z) = sq u (j + z) := fun z => by rw [← rot_sq (by omega) z, h, rot_sq (by omega) z]
  have hs2 : ∀ z, sq m (k + j + z) = sq u (j + z) := fun z => by
    rcases hk3 with q | q
    · rw [q]; exact hs z
    · rw [q, show i + m.length + z = i + z + m.length by omega, per_sq m]; exact hs z
  refine list_ext (by rw [rot_len, hl]) fun z hz => ?_
  rw [rot_len] at hz
  rw [rot_at (by omega) hz, ← sq_self (by omega : z < u.length)]
  by_cases q : j ≤ z
  · have := hs2 (z - j)
    rw [show k + j + (z - j) = k + z by omega, show j + (z - j) = z by omega] at this
    exact this
  · have := hs2 (z + m.length - j)
    rw [show k + j + (z + m.length - j) = k + z + m.length by omega, per_sq m, show j + (z + m.length - j) = z + u.length by omega, per_sq u] at this
    exact this
end Rg

namespace N0
open PySem PySem.Spec PyProof.Rows L2 HT
/-! the least of a list of tuples of numbers -/
section
variable {K : PySem.W.Frag} {X : Cx}
def tupD (ns : List Int) : PyData := .tuple (ns.map .int)
def rMinT (K : PySem.W.Frag) : List V → Hp → VK → Prop := fun vs H Q => ∃ (a : Addr) (xs : List V) (ts : List (List Int)), vs = [V.ref a] ∧ SqL K H a xs ∧ DpAll K H xs (ts.map tupD) ∧ 0 < ts.length ∧
  ∀ (i : Nat) (v : V) (ns : List Int), xs[i]? = some v → ts[i]? = some ns → (∀ ms, ms ∈ ts → HT.lexLt ms ns = false) → Q v H
theorem listLt_lex : ∀ x y : List Int, PySem.W.listLt x y = HT.lexLt x y
  | [], [] => rfl
  | [], _ :: _ => rfl
  | _ :: _, [] => rfl
  | x :: xs, y :: ys => by
    show (if x = y then PySem.W.listLt xs ys else decide (x < y)) = if x = y then HT.lexLt xs ys else decide (x < y)
    rw [listLt_lex]
theorem minOf_spec {α : Type} [DecidableEq α] [PySem.W.DatumOrd α] : ∀ (x : α) (xs : List α), PySem.W.minOf x xs ∈ x :: xs := fun x xs => by
  unfold PySem.W.minOf
  induction xs generalizing x with
  | nil => exact List.mem_singleton_self x
  | cons y ys ih =>
    rw [List.foldl_cons]
    by_cases h : PySem.W.DatumOrd.lt y x = true
    · rw [if_pos h]
      exact List.mem_cons_of_mem _ (ih y)
    · rw [if_neg h]
      have := ih x
      rw [List.mem_cons] at this ⊢
      rcases this with q | q
      · exact .inl q
      · exact .inr (List.mem_cons_of_mem _ q)
theorem lex_irr : ∀ x : List Int, HT.lexLt x x = false
  | [] => rfl
  | x :: xs => by rw [HT.lexLt_cons, if_pos rfl, lex_irr]
theorem lex_asy : ∀ x y : List Int, HT.lexLt x y = true → HT.lexLt y x = false
  | [], [], h => by cases h
  | [], _ :: _, _ => rfl
  | _ :: _, [], h => by cases h
  | x :: xs, y :: ys, h => by
    rw [HT.lexLt_cons] at h ⊢
    by_cases q : x = y
    · rw [if_pos q] at h
      rw [if_pos q.symm]
      exact lex_asy xs ys h
    · rw [if_neg q] at h
      rw [if_neg (Ne.symm q)]
      have := of_decide_eq_true h
      exact decide_eq_false (by omega)
theorem lex_ntr : ∀ x y z : List Int, HT.lexLt x y = false → HT.lexLt y z = false → HT.lexLt x z = false
  | [], [], z, _, h => h
  | [], _ :: _, _, h, _ => by cases h
  | _ :: _, _, [], _, _ => rfl
  | _ :: _, [], _ :: _, _, h => by cases h
  | x :: xs, y :: ys, z :: zs, h1, h2 => by
    rw [HT.lexLt_cons] at h1 h2 ⊢
    by_cases q1 : x = y
    · rw [if_pos q1] at h1
      by_cases q2 : y = z
      · rw [if_pos q2] at h2
        rw [if_pos (q1.trans q2)]
        exact lex_ntr xs ys zs h1 h2
      · rw [if_neg q2] at h2
        subst q1
        rw [if_neg q2]
        exact h2
    · rw [if_neg q1] at h1
      have := of_decide_eq_false h1
      by_cases q2 : y = z
      · subst q2
        rw [if_neg q1]
        exact h1
      · rw [if_neg q2] at h2
        have := of_decide_eq_false h2
        rw [if_neg (by omega)]
        exact decide_eq_false (by omega)
theorem min_fold (lt : List Int → List Int → Bool) (hl : lt = HT.lexLt) : ∀ (x : List Int) (xs : List (List Int)), (∀ m, m ∈ x :: xs → HT.lexLt m (xs.foldl (fun a y => if lt y a = true then y else a) x) = false) := by
  subst hl
  intro x xs
  induction xs generalizing x with
  | nil =>
    intro m hm
    rw [List.mem_singleton] at hm
    subst hm
    exact lex_irr m
  | cons y ys ih =>
    intro m hm
    rw [List.foldl_cons]
    by_cases h : HT.lexLt y x = true
    · rw [if_pos h]
      rcases List.mem_cons.mp hm with q | q
      · subst q
        exact lex_ntr _ _ _ (lex_asy _ _ h) (ih y y List.mem_cons_self)
      · exact ih y m q
    · rw [if_neg h]
      have h : HT.lexLt y x = false := by cases e : HT.lexLt y x with | true => exact absurd e h | false => rfl
      rcases List.mem_cons.mp hm with q | q
      · subst q
        exact ih m m List.mem_cons_self
      · rcases List.mem_cons.mp q with q | q
        · subst q
          exact lex_ntr _ _ _ h (ih x x List.mem_cons_self)
        · exact ih x m (List.mem_cons_of_mem _ q)
theorem map_int_inj : ∀ x y : List Int, x.map PyData.int = y.map PyData.int → x = y
  | [], [], _ => rfl
  | [], _ :: _, h => nomatch h
  | _ :: _, [], h => nomatch h
  | x :: xs, y :: ys, h => by
    rw [List.map_cons, List.map_cons] at h
    injection h with h1 h2
    injection h1 with h3
    rw [h3, map_int_inj xs ys h2]
theorem minOf_items (x : List Int) (xs : List (List Int)) : (PySem.W.minOf (PySem.W.Tup.mk x) (xs.map PySem.W.Tup.mk)).items = xs.foldl (fun a y => if HT.lexLt y a = true then y else a) x := by
  unfold PySem.W.minOf
  induction xs generalizing x with
  | nil => rfl
  | cons y ys ih =>
    rw [List.map_cons, List.foldl_cons, List.foldl_cons]
    have e : PySem.W.DatumOrd.lt (PySem.W.Tup.mk y) (PySem.W.Tup.mk x) = HT.lexLt y x := listLt_lex y x
    rw [e]
    by_cases h : HT.lexLt y x = true
    · rw [if_pos h, if_pos h]; exact ih y
    · rw [if_neg h, if_neg h]; exact ih x
theorem canLay_tup (ns : List Int) : (tupD ns).canLay0 = true := canLay_ints ns
theorem vals_at : ∀ {xs : List V} {us : List Value} {i : Nat} {u : Value}, Vals xs us → us[i]? = some u → ∃ v, xs[i]? = some v ∧ RelV v u := fun {xs us i u} h hu => by
  induction h generalizing i with
  | nil => cases hu
  | cons r t ih =>
    cases i with
    | zero => cases hu; exact ⟨_, rfl, r⟩
    | succ i => exact ih hu
theorem cr_minT (hc : X.calm = true) (hu : X.A.units + 64 < cLine) : CallR X (.builtin "min") (rMinT X.K) := by
  intro pins s σ H vs us Q I r h
  obtain ⟨a, xs, ts, rfl, hs, hd, hp, q⟩ := h
  obtain ⟨its, rv, hl, _⟩ := I.list hs
  rw [Vals.ref1 r]
  obtain ⟨as, ra⟩ := Dp.readsAll I _ _ _ hd rv
  cases ts with
  | nil => exact absurd hp (Nat.lt_irrefl _)
  | cons t0 ts =>
    have e0 : (t0 :: ts).map tupD = ((PySem.W.Tup.mk t0) :: ts.map PySem.W.Tup.mk).map PySem.W.Datum.toD := by
      rw [List.map_cons, List.map_cons, List.map_map]
      rfl
    refine PySem.W.min_list_datum (α := PySem.W.Tup Int) (I.ok.hd hc) hl.isList ⟨as, by rw [← e0]; exact ra⟩ (by show X.A.units + 1 + (0 + 1) < cLine; omega) fun i v h' tk hi hv hk => ?_
    obtain ⟨y, hy, ry⟩ := vals_at rv (by rw [← Array.getElem?_toList] at hi; exact hi)
    obtain ⟨bs, rb, hlt, _, _⟩ := PySem.W.readsAll_atA (vs := its.toArray) ra i v hi
    obtain ⟨cs, rc⟩ := hv
    rw [List.length_map] at hlt
    have hg : ((t0 :: ts).map tupD).getD i .none = tupD ((t0 :: ts).getD i []) := by
      rw [List.getD_eq_getElem?_getD, List.getD_eq_getElem?_getD, List.getElem?_map, List.getElem?_eq_getElem hlt]
      rfl
    rw [hg] at rb
    have hu := PySem.SeqAt.Reads.unique _ _ v _ _ (canLay_tup _) (Reads.keeps hk rb) rc
    have hm := minOf_items t0 ts
    refine ⟨y, H, I.kept hk, ry, q i y ((t0 :: ts).getD i []) hy (by rw [List.getD_eq_getElem?_getD, List.getElem?_eq_getElem hlt]; rfl) fun ms hms => ?_⟩
    have he : (t0 :: ts).getD i [] = ts.foldl (fun a y => if HT.lexLt y a = true then y else a) t0 := by
      have h2 : tupD ((t0 :: ts).getD i []) = tupD (PySem.W.minOf (PySem.W.Tup.mk t0) (ts.map PySem.W.Tup.mk)).items := hu
      rw [hm] at h2
      injection h2 with h3
      exact map_int_inj _ _ h3
    rw [he]
    exact min_fold _ rfl t0 ts ms hms
theorem kcr_minT (hc : X.calm = true) (hu : X.A.units + 64 < cLine) (h : X.K = K := by rfl) : CallR X (.builtin "min") (rMinT K) := h ▸ cr_minT hc hu
end
end N0

namespace N0
open PySem PySem.Spec PyProof.Rows L2 HT
/-! displays of data, and statements that compare them -/
section
variable {K : PySem.W.Frag} {H H1 : Hp} {σ : L2.St}
theorem same_lst {a : Addr} {xs : List V} (e : Same H H1) (h : SqL K H a xs) : SqL K H1 a xs := (Rs.same (S := none) True.intro e).lst (fun q => nomatch q) h
mutual
theorem dp_same (e : Same H H1) : ∀ (d : PyData) (v : V), Dp K H v d → Dp K H1 v d
  | .none, _, .non => .non
  | .bool _, _, .bl b => .bl b
  | .int _, _, .int i => .int i
  | .str _, _, .str x => .str x
  | .list ds, _, .lst h t => .lst (same_lst e h) (dpa_same e ds _ t)
  | .tuple ds, _, .tup h t => .tup (same_tup e h) (dpa_same e ds _ t)
theorem dpa_same (e : Same H H1) : ∀ (ds : List PyData) (vs : List V), DpAll K H vs ds → DpAll K H1 vs ds
  | [], _, .nil => .nil
  | d :: ds, _, .cons h t => .cons (dp_same e d _ h) (dpa_same e ds _ t)
end
theorem dpa_len : ∀ {vs : List V} {ds : List PyData}, DpAll K H vs ds → vs.length = ds.length
  | _, _, .nil => rfl
  | _, _, .cons _ t => congrArg (· + 1) (dpa_len t)
theorem dp_int_inv {v : V} {i : Int} (h : Dp K H v (.int i)) : v = .int i := by cases h; rfl
theorem dpa_ints : ∀ {vs : List V} {ns : List Int}, DpAll K H vs (ns.map .int) → vs = ns.map V.int
  | vs, [], h => by cases h; rfl
  | vs, n :: ns, h => by
    cases h with
    | cons h t => rw [dp_int_inv h, dpa_ints t]; rfl
abbrev IsD (K : PySem.W.Frag) (d : PyData) : V → Hp → Prop := fun v H => Dp K H v d
def EvD (K : PySem.W.Frag) (ta : TA) (σ : L2.St) (H : Hp) (ds : List PyData) : Prop := ∀ H1, Same H H1 → ∀ Q : List V → Hp → Prop, (∀ vs H2, Same H1 H2 → DpAll K H2 vs ds → Q vs H2) → ta σ H1 Q
theorem ed0 : EvD K tNil σ H [] := fun H1 e Q q => q [] H1 (Same.refl _) .nil
theorem edc {te : TE} {ta : TA} {d : PyData} {ds : List PyData} (h : EvS te σ H (IsD K d)) (h2 : EvD K ta σ H ds) : EvD K (tCons te ta) σ H (d :: ds) := fun H1 e Q q =>
  h H1 e _ fun v H2 e2 hv => h2 H2 (Same.trans e e2) _ fun vs H3 e3 hvs => q _ _ (Same.trans e2 e3) (.cons (dp_same e3 _ _ hv) hvs)
theorem es_tup {ta : TA} {ds : List PyData} (h : EvD K ta σ H ds) (hl : ds.length ≤ 1000) : EvS (tTup ta) σ H (IsD K (.tuple ds)) := fun H1 e Q q =>
  h H1 e _ fun vs H2 e2 hvs => ⟨Nat.le_of_lt (small1000 (by rw [dpa_len hvs]; omega)), fun p hp => q _ _ (Same.trans e2 (new_same hp)) (.tup (tup_of upd_same) (dpa_same (new_same hp) _ _ hvs))⟩
theorem es_lst {ta : TA} {ds : List PyData} (h : EvD K ta σ H ds) (hl : ds.length ≤ 1000) : EvS (tLst ta) σ H (IsD K (.list ds)) := fun H1 e Q q =>
  h H1 e _ fun vs H2 e2 hvs => ⟨Nat.le_of_lt (small1000 (by rw [dpa_len hvs]; omega)), fun p hp => q _ _ (Same.trans e2 (new_same hp)) (.lst (lst_of upd_same) (dpa_same (new_same hp) _ _ hvs))⟩
theorem es_int (i : Int) : EvS (tC (.int i)) σ H (IsD K (.int i)) := evs_c fun _ _ => .int i
theorem es_bl (b : Bool) : EvS (tC (.bl b)) σ H (IsD K (.bool b)) := evs_c fun _ _ => .bl b
theorem es_neg (i : Int) : EvS (tUn (rU fun i => V.int (-i)) (tC (.int i))) σ H (IsD K (.int (-i))) := fun H1 e Q q => ⟨i, rfl, q _ _ (Same.refl _) (.int (-i))⟩
/-- a display of numbers is a row of numbers -/
theorem es_row {te : TE} (ns : List Int) (h : EvS te σ H (IsD K (.tuple (ns.map .int)))) : EvS te σ H (IsI K ns) := fun H1 e Q q => h H1 e _ fun v H2 e2 hv => by
  cases hv with
  | tup ha hd => rw [dpa_ints hd] at ha; exact q _ _ e2 ⟨_, rfl, ha⟩
theorem row_es {te : TE} {ns : List Int} (h : EvS te σ H (IsI K ns)) : EvS te σ H (IsD K (.tuple (ns.map .int))) := fun H1 e Q q => h H1 e _ fun v H2 e2 ⟨a, ev, ha⟩ => q v H2 e2 (ev ▸ dp_tup ha)
theorem es_var {i : Nat} {v : V} {d : PyData} (hv : σ[i]? = some (some v)) (h : Dp K H v d) : EvS (tVar i) σ H (IsD K d) := evs_var hv fun H1 e => dp_same e _ _ h
theorem ifne_seq {ta tb : TE} {t x : TS} {D : Ends} {d e : PyData} (h1 : EvS ta σ H (IsD K d)) (h2 : EvS tb σ H (IsD K e)) (s1 : SeqAt.shaped d = true) (s2 : SeqAt.shaped e = true) (he : PyData.eqv d e = true) (rest : ∀ H', Same H H' → x D σ H') :
    tSeq (tIfS (tTest (tOp (rNeD K) ta tb)) t tNext) x D σ H :=
  h1 H (Same.refl _) _ fun v H1 e1 hv => h2 H1 e1 _ fun u H2 e2 hu => ⟨d, e, dp_same e2 _ _ hv, hu, s1, s2, _, rfl, by rw [he]; exact rest _ (Same.trans e1 e2)⟩
theorem ifne2_seq {ta tb tc td : TE} {t x : TS} {D : Ends} {d e d' e' : PyData} (h1 : EvS ta σ H (IsD K d)) (h2 : EvS tb σ H (IsD K e)) (s1 : SeqAt.shaped d = true) (s2 : SeqAt.shaped e = true) (he : PyData.eqv d e = true)
    (g1 : EvS tc σ H (IsD K d')) (g2 : EvS td σ H (IsD K e')) (q1 : SeqAt.shaped d' = true) (q2 : SeqAt.shaped e' = true) (qe : PyData.eqv d' e' = true) (rest : ∀ H', Same H H' → x D σ H') :
    tSeq (tIfS (tOr (tTest (tOp (rNeD K) ta tb)) (tTest (tOp (rNeD K) tc td))) t tNext) x D σ H :=
  h1 H (Same.refl _) _ fun v H1 e1 hv => h2 H1 e1 _ fun u H2 e2 hu => ⟨d, e, dp_same e2 _ _ hv, hu, s1, s2, _, rfl, by
    rw [he]
    exact g1 H2 (Same.trans e1 e2) _ fun v' H3 e3 hv' => g2 H3 (Same.trans (Same.trans e1 e2) e3) _ fun u' H4 e4 hu' => ⟨d', e', dp_same e4 _ _ hv', hu', q1, q2, _, rfl, by rw [qe]; exact rest _ (Same.trans (Same.trans (Same.trans e1 e2) e3) e4)⟩⟩
theorem asg_seq {te : TE} {i : Nat} {x : TS} {D : Ends} {P : V → Hp → Prop} (h : EvS te σ H P) (rest : ∀ v H', Same H H' → P v H' → x D (σ.set i (some v)) H') : tSeq (tAsg te (gName i)) x D σ H :=
  h H (Same.refl _) _ fun v H1 e1 hv => rest v H1 e1 hv
/-- a condition of which it is known what it gives -/
def EvB (t : TT) (σ : L2.St) (H : Hp) (b : Bool) : Prop := ∀ H1, Same H H1 → ∀ Q : Bool → Hp → Prop, (∀ H2, Same H1 H2 → Q b H2) → t σ H1 Q
theorem ifno_seq {c : TT} {t x : TS} {D : Ends} (h : EvB c σ H false) (rest : ∀ H', Same H H' → x D σ H') : tSeq (tIfS c t tNext) x D σ H := h H (Same.refl _) _ fun H2 e => rest H2 e
theorem eb_or {c d : TT} (h : EvB c σ H false) (g : EvB d σ H false) : EvB (tOr c d) σ H false := fun H1 e Q q => h H1 e _ fun H2 e2 => g H2 (Same.trans e e2) _ fun H3 e3 => q H3 (Same.trans e2 e3)
theorem eb_b {te : TE} {b : Bool} (h : EvS te σ H fun v _ => v = .bl b) : EvB (tB te) σ H b := fun H1 e Q q => h H1 e _ fun v H2 e2 ev => ⟨b, ev, q H2 e2⟩
theorem knotIn {X : Cx} (h : X.K = K := by rfl) : OpR X (compareOp .NotIn) (rIn K true) := h ▸ op_notIn_seq
end
end N0

namespace N0
open PySem PySem.Spec PyProof.Rows L2 HT GenW
/-! generators: if, for -/
section
variable {X : Cx}
def tGIf (c : TT) (t u : TGn) : TGn := fun D ys σ H => c σ H fun b H1 => if b = true then t D ys σ H1 else u D ys σ H1
theorem gs_if {test : Expr} {a b : List Stmt} {pos : Pos} {tc : TT} {t u : TGn} (hc : PT X test tc) (ha : GSs X a t) (hb : GSs X b u) : GS X (.If test a b pos) (tGIf tc t u) := by
  refine ⟨fun A S ip R n ys s₀ c fs K J gd lv s σ H D g hn k hI ht => ?_⟩
  obtain ⟨acc, cc, r, I⟩ := hI
  rw [exec_If]
  show Seg _ _ _ _ _ _ _ (.at pos fun _ => ((isTrue test X.env (eval test X.env)) >>= fun z => if z = true then execs a X.env else execs b X.env).wrap K J gd lv) _ _
  refine seg_at ?_
  rw [Sem.bind_eq_wrap', Sem.wrap_wrap]
  refine seg_wrap ?_
  rw [g.over]
  refine wpAny_mono (hc.run _ s σ H _ I ht) (fun z s' hz => ?_) fun x s' hx => k.exc n s₀ x s' hx
  obtain ⟨H2, I2, q2⟩ := hz
  cases z with
  | true =>
    have q2 : t D ys σ H2 := q2
    exact ha.run A S ip R n ys s₀ c fs K J gd lv s' σ H2 D g hn k ⟨acc, cc, r, I2⟩ q2
  | false =>
    have q2 : u D ys σ H2 := q2
    exact hb.run A S ip R n ys s₀ c fs K J gd lv s' σ H2 D g hn k ⟨acc, cc, r, I2⟩ q2
end
section
variable {prog : Program} {w : World} {A : Around} {R : GenEnd} {Y : Protocol} {n : Nat} {s₀ : Shared} {fs : List Frame} {s : Shared} {env : Env}
theorem seg_forLoop {target : Expr} {it : Value} {body : List Stmt}
    (h : wpAny (model prog w) (A.over (.forLoop target it body [] env) fs) (pyNext it) (fun r s1 => match r with
        | none => Seg (model prog w) A R Y n s₀ (.forLoop target it body [] env) (.pure (.again (.block [] env))) fs s1
        | some v => wpAny (model prog w) (A.over (.forLoop target it body [] env) fs) (letOwnedTupleGo target it v) (fun _ s2 => wpAny (model prog w) (A.over (.forLoop target it body [] env) fs) (assign target env v) (fun _ s3 =>
          Seg (model prog w) A R Y n s₀ (.forLoop target it body [] env) ((execs body env).wrap (fun f => match f with
            | .next | .cont => .pure (.again (.forLoop target it body [] env))
            | .brk => .pure (.done .next)
            | .ret v => .pure (.done (.ret v))) (fun e => (do noteFrame e env; theTreesLotGoes e : Sem Unit).wrap (fun _ => .raise e) .raise id id) id id) fs s3)
          (fun x s' => Seg (model prog w) A R Y n s₀ (.forLoop target it body [] env) ((do noteFrame x env; theTreesLotGoes x : Sem Unit).wrap (fun _ => .raise x) .raise id id) fs s') s2)
          (fun x s' => Seg (model prog w) A R Y n s₀ (.forLoop target it body [] env) ((do noteFrame x env; theTreesLotGoes x : Sem Unit).wrap (fun _ => .raise x) .raise id id) fs s') s1)
      (fun x s' => Seg (model prog w) A R Y n s₀ (.forLoop target it body [] env) ((do noteFrame x env; theTreesLotGoes x : Sem Unit).wrap (fun _ => .raise x) .raise id id) fs s') s) :
    Seg (model prog w) A R Y n s₀ (.forLoop target it body [] env) ((model prog w).den (.forLoop target it body [] env)) fs s := by
  show Seg _ A R Y n s₀ _ ((forTurn target it body [] env).onRaise (fun x => do noteFrame x env; theTreesLotGoes x)) fs s
  unfold forTurn
  rw [Sem.onRaise_eq_wrap, Sem.bind_eq_wrap', Sem.wrap_wrap]
  refine seg_wrap (wpAny_standAt ?_)
  rw [Sem.bind_eq_wrap', Sem.wrap_wrap]
  refine seg_wrap (wpAny_onRaise (wpAny_mono h (fun r s1 h1 => ?_) fun x s' hx => wpAny_standAt ?_))
  · cases r with
    | none => exact h1
    | some v =>
      dsimp only at h1 ⊢
      rw [Sem.bind_eq_wrap', Sem.wrap_wrap]
      refine seg_wrap (wpAny_mono h1 (fun _ s2 h2 => ?_) fun x s' hx => ?_)
      · rw [Sem.bind_eq_wrap', Sem.wrap_wrap]
        refine seg_wrap (wpAny_mono h2 (fun _ s3 h3 => ?_) fun x s' hx => ?_)
        · rw [Sem.bind_eq_wrap', Sem.wrap_wrap]
          rw [Sem.wrap_congr (execs body env) _ _ (K' := fun f => match f with
            | .next | .cont => .pure (.again (.forLoop target it body [] env))
            | .brk => .pure (.done .next)
            | .ret v => .pure (.done (.ret v))) (H' := (fun e => (do noteFrame e env; theTreesLotGoes e : Sem Unit).wrap (fun _ => .raise e) .raise id id))
            (fun f => by cases f <;> rfl)
            (fun e => by first | exact Sem.bind_eq_wrap _ _ | (show (do noteFrame e env; theTreesLotGoes e : Sem Unit).bind (fun _ => .raise e) = _; rw [Sem.bind_eq_wrap]))]
          exact h3
        · rw [← Sem.bind_eq_wrap] at hx
          exact hx
      · rw [← Sem.bind_eq_wrap] at hx
        exact hx
  · rw [← Sem.bind_eq_wrap] at hx
    exact hx
end
section
variable {X : Cx}
def tGFor (wi : TI) (gt : TG) (tb : TGn) : TGn := fun D ys σ H => wi σ H fun J H1 => ∃ W : Nat → Nat → List V → L2.St → Hp → Prop, (∃ m, W 0 m ys σ H1) ∧ ∀ i m ys σ H, W i m ys σ H →
  (J.stop i H ∧ D.nx ys σ H) ∨ (J.go i H ∧ ∃ N : List V → L2.St → Hp → Prop, (∀ ys' σ' H', N ys' σ' H' → ∃ m', m' < m ∧ W (i + 1) m' ys' σ' H') ∧ ∀ x H', J.yld i H x H' → gt x σ H' fun σ2 H2 => tb { D with nx := N, ct := N, bk := D.nx } ys σ2 H2)
theorem gs_for {tg iter : Expr} {body : List Stmt} {pos : Pos} {wi : TI} {gt : TG} {tb : TGn} (hp : PassesOwn (model X.prog X.w) X.A X.env X.xe) (hc : X.calm = true) (hi : PI X tg iter wi) (hg : PG X tg gt) (hb : GSs X body tb)
    (hs : ∀ x, foldedSetIterable iter X.env x = pure x := by intro _; rfl) : GS X (.For tg iter body [] pos) (tGFor wi gt tb) := by
  refine ⟨fun A S ip R n ys s₀ c fs K J gd lv s σ H D g hn k hI ht => ?_⟩
  obtain ⟨acc, cc, r, I⟩ := hI
  rw [exec_For]
  show Seg _ _ _ _ _ _ _ (.at pos fun _ => ((eval iter X.env) >>= fun v => (foldedSetIterable iter X.env v) >>= fun x => (standAt iter.pos >>= fun _ => (holding [x] (pyIter x) >>= fun it => runOwn (.forLoop tg it body [] X.env) X.env))).wrap K J gd lv) _ _
  refine seg_at ?_
  rw [Sem.bind_eq_wrap', Sem.wrap_wrap]
  refine seg_wrap ?_
  rw [g.over]
  refine wpAny_mono (hi.run _ s σ H _ I ht) (fun v s1 h1 => ?_) fun x s' hx => k.exc n s₀ x s' hx
  rw [hs v]
  show Seg _ _ _ _ _ _ _ (.at iter.pos fun _ => ((holding [v] (pyIter v)) >>= fun it => runOwn (.forLoop tg it body [] X.env) X.env).wrap K J gd lv) _ _
  refine seg_at ?_
  rw [Sem.bind_eq_wrap', Sem.wrap_wrap]
  refine seg_wrap ?_
  rw [g.over]
  refine wpAny_holding (wpAny_mono h1 (fun itv s2 h2 => ?_) fun x s' hx => k.exc n s₀ x s' hx)
  obtain ⟨it, fp, tn, Jt, H2, rfl, I2, T, st2, f2, W, ⟨m0, w0⟩, turn⟩ := h2
  refine seg_call fun p => ?_
  have gl := fun (kk : Result → Sem PySem.Fin) => gc_loop (k := kk) (c' := .forLoop tg (.ref it) body [] X.env) (l := lv []) (kp := []) (p := p) g rfl rfl
  have stat : ∀ {acc' : Array Value} {cc' : Nat} {H' : Hp}, (∀ b ∈ fp, H' b = none) → ∀ b ∈ fp, FpOk X ((S, lstObj acc' cc') :: ip) H' b := fun {acc' cc' H'} hn b hb => by
    obtain ⟨_, y1, y2, y3, y4, y5⟩ := f2 b hb
    refine ⟨hn b hb, y1, y2, y3, y4, fun q hq => ?_⟩
    rcases List.mem_append.mp hq with hq | hq
    · exact y5 q (List.mem_append_left _ hq)
    · rcases List.mem_cons.mp hq with hq | hq
      · rw [hq]; exact y5 (S, lstObj acc cc) (List.mem_append_right _ List.mem_cons_self)
      · exact y5 q (List.mem_append_right _ (List.mem_cons_of_mem _ hq))
  have loop : ∀ (m n i : Nat) (ys : List V) (s₀ s : Shared) (σ : L2.St) (H : Hp), n + ys.length = sizeLine → W i m ys σ H → GI X S ip ys σ H s → tn i s.heap → (∀ b ∈ fp, H b = none) →
      Seg (model X.prog X.w) A R (GY X S) n s₀ (.forLoop tg (.ref it) body [] X.env) ((model X.prog X.w).den (.forLoop tg (.ref it) body [] X.env))
        (.ret (fun r => ((match r with | .ok f => (.pure f : Sem Flow) | .error e => .raise e).onRaise (cameBack X.env)).wrap K J gd lv) none (gd false) (lv []) c p [] :: fs) s := by
    intro m
    induction m using Nat.strongRecOn with
    | ind m ih =>
      intro n i ys s₀ s σ H hn w hI st fr
      have ee : ∀ (n : Nat) (s₀ : Shared) (x : Value) (s' : Shared), X.xe x s' → Seg (model X.prog X.w) A R (GY X S) n s₀ (.forLoop tg (.ref it) body [] X.env)
          ((do noteFrame x X.env; theTreesLotGoes x : Sem Unit).wrap (fun _ => .raise x) .raise id id)
          (.ret (fun r => ((match r with | .ok f => (.pure f : Sem Flow) | .error e => .raise e).onRaise (cameBack X.env)).wrap K J gd lv) none (gd false) (lv []) c p [] :: fs) s' := fun n s₀ x s' hx => by
        refine seg_wrap ?_
        rw [(gl _).over]
        refine wpAny_bind (wpAny_mono (hp x s' hx) (fun _ s'' hcb => wpAny_theTreesLotGoes ?_) fun y s'' hcb => ?_)
        · exact seg_leaf (.error x) (seg_cameBack g k hcb)
        · exact seg_leaf (.error y) (seg_cameBack g k hcb)
      refine seg_forLoop ?_
      rw [(gl _).over]
      obtain ⟨acc, cc, r, I⟩ := hI
      rcases turn i m ys σ H w with ⟨stop, qn⟩ | ⟨go, N, hN, step⟩
      · refine wpAny_mono (T.done X rfl rfl rfl hc i _ s σ H X.xe I (stat fr) st stop) (fun rr s4 h4 => ?_) fun x s' hx => ee n s₀ x s' hx
        obtain ⟨hr, I4⟩ := h4
        subst hr
        refine seg_again rfl ?_
        exact seg_leaf (.ok .next) (k.ok n ys s₀ s4 .next hn ⟨σ, H, ⟨acc, cc, r, I4⟩, qn⟩)
      · refine wpAny_mono (T.item X rfl rfl rfl hc i _ s σ H X.xe I (stat fr) st go) (fun rr s4 h4 => ?_) fun x s' hx => ee n s₀ x s' hx
        obtain ⟨u, hr, h4⟩ := h4
        subst hr
        refine wpAny_mono h4 (fun _ s5 h5 => ?_) fun x s' hx => ee n s₀ x s' hx
        obtain ⟨x, H5, I5, r5, y5, st5, fr5⟩ := h5
        have I5' := I5.pinned (stat fr5) (T.obj _ _ st5)
        refine wpAny_mono (hg.run _ s5 σ H5 x u _ I5' r5 (step x H5 y5)) (fun _ s6 h6 => ?_) fun x s' hx => ee n s₀ x s' hx
        obtain ⟨σ6, H6, I6, q6⟩ := h6
        have ipne : ∀ q ∈ ip ++ pinsAt fp s5.heap, q.1 ≠ S := fun q hq => by
          rcases List.mem_append.mp hq with hq | hq
          · exact g.ip q hq
          · obtain ⟨hb', _⟩ := of_pinsAt hq
            obtain ⟨_, _, _, _, _, y5⟩ := f2 q.1 hb'
            exact fun z => y5 _ (List.mem_append_right _ List.mem_cons_self) z.symm
        have g' : ∀ kk : Result → Sem PySem.Fin, GC X S (ip ++ pinsAt fp s5.heap) A (.forLoop tg (.ref it) body [] X.env) (.ret kk none (gd false) (lv []) c p [] :: fs) id := fun kk =>
          { gl kk with ip := ipne }
        refine hb.run A S (ip ++ pinsAt fp s5.heap) R n ys s₀ _ _ _ _ id id s6 σ6 H6 { D with nx := N, ct := N, bk := D.nx } (g' _) hn ⟨fun n' ys' s₀' s7 f hn' hs' => ?_, fun n' s₀' x s3 hx => ee n' s₀' x s3 hx⟩ ⟨acc, cc, r, I6⟩ q6
        have again : ∀ {σ7 : L2.St} {H7 : Hp}, GI X S (ip ++ pinsAt fp s5.heap) ys' σ7 H7 s7 → N ys' σ7 H7 → Seg (model X.prog X.w) A R (GY X S) n' s₀' (.forLoop tg (.ref it) body [] X.env) (.pure (.again (.forLoop tg (.ref it) body [] X.env)))
            (.ret (fun r => ((match r with | .ok f => (.pure f : Sem Flow) | .error e => .raise e).onRaise (cameBack X.env)).wrap K J gd lv) none (gd false) (lv []) c p [] :: fs) s7 := fun {σ7 H7} I7 n7 => by
          obtain ⟨acc7, c7, r7, I7⟩ := I7
          obtain ⟨m', hm, w7⟩ := hN ys' σ7 H7 n7
          have I7p : Inv X (((S, lstObj acc7 c7) :: ip) ++ pinsAt fp s5.heap) σ7 H7 s7 := I7
          have pn : ∀ b ∈ fp, ∀ o, s5.heap.get? b = some o → _ := fun b hb' o e => I7p.pin (b, o) (List.mem_append_right _ (List.mem_append_right _ (mem_pinsAt hb' e)))
          refine seg_again rfl (ih m' hm n' (i + 1) ys' s₀' s7 σ7 H7 hn' w7 ⟨acc7, c7, r7, I7p.unpinned⟩ (T.keep _ _ _ st5 fun b hb' o e => (pn b hb' o e).1) fun b hb' => ?_)
          obtain ⟨o, e, d⟩ := T.obj _ _ st5 b hb'
          exact (pn b hb' o e).2.1
        have out : ∀ {ys7 : List V} {σ7 : L2.St} {H7 : Hp}, GI X S (ip ++ pinsAt fp s5.heap) ys7 σ7 H7 s7 → GI X S ip ys7 σ7 H7 s7 := fun {ys7 σ7 H7} I7 => by
          obtain ⟨acc7, c7, r7, I7⟩ := I7
          have I7p : Inv X (((S, lstObj acc7 c7) :: ip) ++ pinsAt fp s5.heap) σ7 H7 s7 := I7
          exact ⟨acc7, c7, r7, I7p.unpinned⟩
        cases f with
        | next => obtain ⟨σ7, H7, I7, n7⟩ := hs'; exact again I7 n7
        | cont => obtain ⟨σ7, H7, I7, n7⟩ := hs'; exact again I7 n7
        | brk =>
          obtain ⟨σ7, H7, I7, q7⟩ := hs'
          exact seg_leaf (.ok .next) (k.ok n' ys' s₀' s7 .next hn' ⟨σ7, H7, out I7, q7⟩)
        | ret v =>
          obtain ⟨x7, σ7, H7, I7, r7, q7⟩ := hs'
          exact seg_leaf (.ok (.ret v)) (k.ok n' ys' s₀' s7 (.ret v) hn' ⟨x7, σ7, H7, out I7, r7, q7⟩)
  exact loop m0 n 0 ys s₀ s2 σ H2 hn w0 ⟨acc, cc, r, I2⟩ st2 fun b hb' => (f2 b hb').1
end
theorem passC {X : Cx} : Passes (CX X.prog X.w) X E0 := fun _ _ _ _ _ _ _ h => by
  obtain ⟨a, B, H', cls, d, z1, fl, z2, ub, z3, z4, z5, z6⟩ := h
  first | exact z1.elim | exact z2.elim | exact z3.elim | exact z4.elim | exact z6.elim
/-- a generator def that is there by its name -/
structure GCl (P : Program) (w : World) (K : PySem.W.Frag) (mg : Str → Option Value) (base : Heap) (k : Nat) (x : Str) (sp : SpG) : Prop where
  ex : ∃ (f : Addr) (fd : FuncData) (ps : List Str), GFn P w K mg base k f fd ps sp ∧ mg x = some (.ref f) ∧ PySem.W.keepIn K (.ref f) = true ∧ Binds K fd ps []
section
variable {X : Cx} {x : Str} {k j : Nat} {sp : SpG} {e : Expr} {es : List Expr} {t : TA} {p p2 pos pos' : Pos}
/-- list(f(e, ..)), f a generator def -/
theorem pe_listC (c : GCl X.prog X.w X.K X.mg X.base k x sp) (hr : Room j X.A) (hk : k + 3 ≤ j) (hg : Gl X x) (ha : PA X (e :: es) t) (hgl : Gl X "list") (hml : X.mg "list" = none) (hdb : (x == ("__debug__" : Str)) = false := by decide)
    (he : starEach (e :: es) X.env = (false, eval e X.env) :: starEach es X.env := by rfl) (hpl : (backTo pos' (starEach es X.env)).any (·.1) = false := by rfl)
    (he2 : starEach [.Call (.Name x p2) (e :: es) [] pos'] X.env = (false, eval (.Call (.Name x p2) (e :: es) [] pos') X.env) :: starEach [] X.env := by rfl) :
    PE X (.Call (.Name "list" p) [.Call (.Name x p2) (e :: es) [] pos'] [] pos) (tListG (tCallG sp [] E0 t)) := by
  obtain ⟨f, fd, ps, F, hm, kp, hb⟩ := c.ex
  exact pe_listG (pgen_call (dvs := []) (ds := []) F (hr.mono (by omega)) hg hm kp hb .nil ha hdb he hpl) passC (fun _ _ _ h => h.elim) (hr.mono hk) hgl hml bo_list
end
theorem gcl_of {P : Program} {w : World} {K : PySem.W.Frag} {mg : Str → Option Value} {base : Heap} {x qual : Str} {st : Stmt} {f : Addr} {fd : FuncData} {N ps : List Str} {k : Nat} {sp : SpG} (F : Fun K x qual st f fd) (S : GScope N ps (defScope st)) (hm : mg x = some (.ref f)) (hb : Binds K fd ps [])
    (len : ∀ vs H Q E, sp vs H Q E → vs.length = ps.length)
    (hbody : ∀ (cdv : Value) (A : Around) (outer : List Env) (s : Shared) (H : Hp) (vs : List V) (Q : List V → Hp → Prop) (E : XK) (pn : List (Addr × Obj)), Room k (A.deeper (envOfC qual (defScope st) s.heap.objs.size f cdv)) → sp vs H Q E →
      ∃ t, GSs (gcxOf P w K mg base N qual (defScope st) f cdv A outer s H E pn) (defBody st) t ∧ t { nx := fun ys _ H' => Q ys H', rt := fun ys v H' => v = .non ∧ Q ys H' } [] (start N vs) H) : GCl P w K mg base (k + 1) x sp := by
  obtain ⟨oc, od, kV, doc, pm, an, cdv, ct, osl, rfl, lk, hcd⟩ := F.ex
  exact ⟨f, _, ps, gfn_of lk hcd S len (fun A outer s H vs Q E pn hr hsp => hbody cdv A outer s H vs Q E pn hr hsp), hm, F.kp, hb⟩
section
end
end N0

/-! what terms give, said by value: conditions, numbers, rows, branches -/
namespace N0
open PySem PySem.Spec PyProof.Rows L2 HT
section
variable {K : PySem.W.Frag} {σ : L2.St} {H : Hp}
abbrev IsV (u : V) : V → Hp → Prop := fun v _ => v = u
theorem eb_test {te : TE} {b : Bool} (h : EvS te σ H (IsV (.bl b))) : EvB (tTest te) σ H b := fun H1 e Q q => h H1 e _ fun v H2 e2 ev => ⟨b, ev, q H2 e2⟩
theorem eb_bt {te : TE} {b : Bool} (h : EvS te σ H (IsV (.bl b))) : EvB (tB te) σ H b := fun H1 e Q q => h H1 e _ fun v H2 e2 ev => ⟨b, ev, q H2 e2⟩
theorem eb_and2 {c d : TT} {a b : Bool} (h : EvB c σ H a) (g : a = true → EvB d σ H b) : EvB (tAnd c d) σ H (a && b) := fun H1 e Q q => h H1 e _ fun H2 e2 => by
  cases a with
  | false => exact q H2 e2
  | true => exact g rfl H2 (Same.trans e e2) _ fun H3 e3 => q H3 (Same.trans e2 e3)
theorem eb_or2 {c d : TT} {a b : Bool} (h : EvB c σ H a) (g : a = false → EvB d σ H b) : EvB (tOr c d) σ H (a || b) := fun H1 e Q q => h H1 e _ fun H2 e2 => by
  cases a with
  | true => exact q H2 e2
  | false => exact g rfl H2 (Same.trans e e2) _ fun H3 e3 => q H3 (Same.trans e2 e3)
theorem eb_not {c : TT} {a : Bool} (h : EvB c σ H a) : EvB (tNot c) σ H (!a) := fun H1 e Q q => h H1 e _ fun H2 e2 => q H2 e2
theorem eb_as {c : TT} {a b : Bool} (h : EvB c σ H a) (e : a = b) : EvB c σ H b := e ▸ h
theorem es_as {te : TE} {u v : V} (h : EvS te σ H (IsV u)) (e : u = v) : EvS te σ H (IsV v) := e ▸ h
theorem es_vV {i : Nat} {v : V} (hv : σ[i]? = some (some v)) : EvS (tVar i) σ H (IsV v) := fun H1 e Q q => ⟨v, hv, q v H1 (Same.refl _) rfl⟩
theorem es_cV {v : V} : EvS (tC v) σ H (IsV v) := fun H1 e Q q => q v H1 (Same.refl _) rfl
theorem es_i0 {f : Int → Int → V} {ta tb : TE} {i j : Int} (ha : EvS ta σ H (IsV (.int i))) (hb : EvS tb σ H (IsV (.int j))) : EvS (tOp (rI0 f) ta tb) σ H (IsV (f i j)) := fun H1 e Q q =>
  ha H1 e _ fun x H2 e2 hx => hb H2 (Same.trans e e2) _ fun y H3 e3 hy => ⟨i, j, hx, hy, q _ _ (Same.trans e2 e3) rfl⟩
theorem es_u {f : Int → V} {ta : TE} {i : Int} (ha : EvS ta σ H (IsV (.int i))) : EvS (tUn (rU f) ta) σ H (IsV (f i)) := fun H1 e Q q =>
  ha H1 e _ fun x H2 e2 hx => ⟨i, hx, q _ _ e2 rfl⟩
theorem es_eqI {ta tb : TE} {i j : Int} (ha : EvS ta σ H (IsV (.int i))) (hb : EvS tb σ H (IsV (.int j))) : EvS (tOp rEq ta tb) σ H (IsV (.bl (decide (i = j)))) := fun H1 e Q q =>
  ha H1 e _ fun x H2 e2 hx => hb H2 (Same.trans e e2) _ fun y H3 e3 hy => by
    subst hx hy
    refine ⟨rfl, q _ _ (Same.trans e2 e3) ?_⟩
    rw [dec_int]
    rfl
theorem es_neI {ta tb : TE} {i j : Int} (ha : EvS ta σ H (IsV (.int i))) (hb : EvS tb σ H (IsV (.int j))) : EvS (tOp rNe ta tb) σ H (IsV (.bl (!decide (i = j)))) := fun H1 e Q q =>
  ha H1 e _ fun x H2 e2 hx => hb H2 (Same.trans e e2) _ fun y H3 e3 hy => by
    subst hx hy
    refine ⟨rfl, q _ _ (Same.trans e2 e3) ?_⟩
    rw [dec_int]
    rfl
theorem es_vT {i : Nat} {a : Addr} {ns : List Int} (hv : σ[i]? = some (some (.ref a))) (h : SqT K H a (ns.map V.int)) : EvS (tVar i) σ H (IsI K ns) := evs_var hv fun H1 e => ⟨a, rfl, same_tup e h⟩
theorem es_t0 : EvS (tTup tNil) σ H (IsI K []) := fun H1 e Q q => ⟨Nat.zero_le _, fun p hp => q _ _ (new_same hp) ⟨p, rfl, tup_of upd_same⟩⟩
theorem es_t1 {ta : TE} {i : Int} (ha : EvS ta σ H (IsV (.int i))) : EvS (tTup (tCons ta tNil)) σ H (IsI K [i]) := fun H1 e Q q =>
  ha H1 e _ fun x H2 e2 hx => ⟨by show 1 ≤ sizeLine; decide, fun p hp => q _ _ (Same.trans e2 (new_same hp)) ⟨p, rfl, by rw [hx]; exact tup_of upd_same⟩⟩
theorem es_eqT {ta tb : TE} {ns ms : List Int} (ha : EvS ta σ H (IsI K ns)) (hb : EvS tb σ H (IsI K ms)) : EvS (tOp (rEqD K) ta tb) σ H (IsV (.bl (decide (ns = ms)))) := fun H1 e Q q =>
  ha H1 e _ fun x H2 e2 ⟨a, ea, hx⟩ => hb H2 (Same.trans e e2) _ fun y H3 e3 ⟨b, eb, hy⟩ => by
    subst ea eb
    exact eq_tup (same_tup e3 hx) hy (q _ _ (Same.trans e2 e3) rfl)
theorem es_neT {ta tb : TE} {ns ms : List Int} (ha : EvS ta σ H (IsI K ns)) (hb : EvS tb σ H (IsI K ms)) : EvS (tOp (rNeD K) ta tb) σ H (IsV (.bl (!decide (ns = ms)))) := fun H1 e Q q =>
  ha H1 e _ fun x H2 e2 ⟨a, ea, hx⟩ => hb H2 (Same.trans e e2) _ fun y H3 e3 ⟨b, eb, hy⟩ => by
    subst ea eb
    exact ne_tup (same_tup e3 hx) hy (q _ _ (Same.trans e2 e3) rfl)
theorem es_ixT {ta ti : TE} {ns : List Int} {i x : Int} (ha : EvS ta σ H (IsI K ns)) (hi : EvS ti σ H (IsV (.int i))) (hx : atI (ns.map V.int) i = some (.int x)) : EvS (tOp (rIxT K) ta ti) σ H (IsV (.int x)) := fun H1 e Q q =>
  ha H1 e _ fun v H2 e2 ⟨a, ea, h⟩ => hi H2 (Same.trans e e2) _ fun y H3 e3 hy => ⟨a, _, i, .int x, ea, hy, same_tup e3 h, hx, q _ _ (Same.trans e2 e3) rfl⟩
theorem es_lenT {ta : TE} {ns : List Int} (ha : EvS ta σ H (IsI K ns)) : EvS (tCB (N0.rLen K) (tCons ta tNil)) σ H (IsV (.int (ns.length : Int))) := fun H1 e Q q =>
  ha H1 e _ fun v H2 e2 ⟨a, ea, h⟩ => ⟨a, _, by rw [ea], .inr h, q _ _ e2 (by rw [List.length_map])⟩
theorem es_cat {ta tb : TE} {ns ms : List Int} (ha : EvS ta σ H (IsI K ns)) (hb : EvS tb σ H (IsI K ms)) (hz : ns.length + ms.length ≤ 100000) : EvS (tOp (rCatA K) ta tb) σ H (IsI K (ns ++ ms)) := fun H1 e Q q =>
  ha H1 e _ fun v H2 e2 ⟨a, ea, h⟩ => hb H2 (Same.trans e e2) _ fun u H3 e3 ⟨b, eb, h2⟩ => by
    subst ea eb
    exact cat_ints (same_tup e3 h) h2 hz fun H' p e4 h4 => q _ _ (Same.trans (Same.trans e2 e3) e4) ⟨p, rfl, h4⟩
theorem es_if {c : TT} {ta tb : TE} {b : Bool} {P : V → Hp → Prop} (h : EvB c σ H b) (h1 : b = true → EvS ta σ H P) (h2 : b = false → EvS tb σ H P) : EvS (tIf c ta tb) σ H P := fun H1 e Q q => h H1 e _ fun H2 e2 => by
  cases b with
  | true => exact h1 rfl H2 (Same.trans e e2) _ fun v H3 e3 hv => q v H3 (Same.trans e2 e3) hv
  | false => exact h2 rfl H2 (Same.trans e e2) _ fun v H3 e3 hv => q v H3 (Same.trans e2 e3) hv
theorem ifs_b {c : TT} {t u x : TS} {D : Ends} {b : Bool} (h : EvB c σ H b) (h1 : b = true → ∀ H', Same H H' → t { D with nx := x D } σ H') (h2 : b = false → ∀ H', Same H H' → u { D with nx := x D } σ H') : tSeq (tIfS c t u) x D σ H := h H (Same.refl _) _ fun H2 e2 => by
  cases b with
  | true => exact h1 rfl H2 e2
  | false => exact h2 rfl H2 e2
theorem ifs_1 {c : TT} {t u : TS} {D : Ends} {b : Bool} (h : EvB c σ H b) (h1 : b = true → ∀ H', Same H H' → t D σ H') (h2 : b = false → ∀ H', Same H H' → u D σ H') : tIfS c t u D σ H := h H (Same.refl _) _ fun H2 e2 => by
  cases b with
  | true => exact h1 rfl H2 e2
  | false => exact h2 rfl H2 e2
theorem gif_b {c : TT} {t u : TGn} {D : GEnds} {ys : List V} {b : Bool} (h : EvB c σ H b) (h1 : b = true → ∀ H', Same H H' → t D ys σ H') (h2 : b = false → ∀ H', Same H H' → u D ys σ H') : tGIf c t u D ys σ H := h H (Same.refl _) _ fun H2 e2 => by
  cases b with
  | true => exact h1 rfl H2 e2
  | false => exact h2 rfl H2 e2
/-- what a pair of a row and of a number is -/
theorem es_pair {ta tb : TE} {P Pb : V → Hp → Prop} (hP : ∀ v H H1, Same H H1 → P v H → P v H1) (hPb : ∀ v H H1, Same H H1 → Pb v H → Pb v H1) (ha : EvS ta σ H P) (hb : EvS tb σ H Pb) :
    EvS (tTup (tCons ta (tCons tb tNil))) σ H fun v H' => ∃ t x y, v = .ref t ∧ SqT K H' t [x, y] ∧ P x H' ∧ Pb y H' := fun H1 e Q q =>
  ha H1 e _ fun x H2 e2 hx => hb H2 (Same.trans e e2) _ fun y H3 e3 hy => ⟨by show 2 ≤ sizeLine; decide, fun p hp => q _ _ (Same.trans (Same.trans e2 e3) (new_same hp)) ⟨p, x, y, rfl, tup_of upd_same, hP _ _ _ (Same.trans e3 (new_same hp)) hx, hPb _ _ _ (new_same hp) hy⟩⟩
theorem drop_app {i : Nat} {l : Addr} {te : TE} {P : V → Hp → Prop} {ys : List V} {D : Ends} (hv : σ[i]? = some (some (.ref l))) (hl : H l = some (.lst ys)) (hz : ys.length ≤ 100000) (h : EvS te σ H P) (rest : ∀ v H', Same H H' → H' l = some (.lst ys) → P v H' → D.nx σ (upd H' l (.lst (ys ++ [v])))) : tDrop (tBM K "list" rAppend (tVar i) (tCons te tNil)) D σ H :=
  ⟨.ref l, hv, .inl ⟨rfl, ys, lst_of hl⟩, h H (Same.refl _) _ fun v H' e hv => ⟨l, ys, v, rfl, rfl, e _ _ hl, Nat.lt_of_le_of_lt hz (by decide), rest v H' e (e _ _ hl) hv⟩⟩
/-- `if c: x.append(e)` and the like: a statement alone as the last one -/
theorem seq_last {t : TS} {D : Ends} (h : t { D with nx := D.nx } σ H) : tSeq t tNext D σ H := h
theorem gfor_list {a : Addr} {xs ys : List V} {g : TG} {tb : TGn} {D : GEnds} (Pv : Nat → List V → L2.St → Hp → Prop) (h0 : Pv 0 ys σ H) (hl : ∀ i ys σ H, i ≤ xs.length → Pv i ys σ H → SqL K H a xs)
    (hs : ∀ i x ys σ H, xs[i]? = some x → Pv i ys σ H → g x σ H fun σ2 H2 => tb { D with nx := Pv (i + 1), ct := Pv (i + 1), bk := D.nx } ys σ2 H2) (hd : ∀ ys σ H, Pv xs.length ys σ H → D.nx ys σ H) :
    ∃ W : Nat → Nat → List V → L2.St → Hp → Prop, (∃ m, W 0 m ys σ H) ∧ ∀ i m ys σ H, W i m ys σ H →
      ((Itl K a).stop i H ∧ D.nx ys σ H) ∨ ((Itl K a).go i H ∧ ∃ N : List V → L2.St → Hp → Prop, (∀ ys' σ' H', N ys' σ' H' → ∃ m', m' < m ∧ W (i + 1) m' ys' σ' H') ∧ ∀ x H', (Itl K a).yld i H x H' → g x σ H' fun σ2 H2 => tb { D with nx := N, ct := N, bk := D.nx } ys σ2 H2) := by
  refine ⟨fun i m ys σ H => m = xs.length - i ∧ i ≤ xs.length ∧ Pv i ys σ H, ⟨xs.length, by simp, Nat.zero_le _, h0⟩, ?_⟩
  rintro i m ys σ H ⟨rfl, hi, p⟩
  have q := hl i ys σ H hi p
  by_cases hlt : i < xs.length
  · refine .inr ⟨⟨xs, xs[i], q, by simp [hlt]⟩, Pv (i + 1), fun ys' σ' H' p' => ⟨xs.length - (i + 1), by omega, rfl, hlt, p'⟩, fun x H' y => ?_⟩
    obtain ⟨e, y⟩ := y
    subst e
    exact hs i x ys σ _ (y xs q) p
  · have e : i = xs.length := by omega
    subst e
    exact .inl ⟨⟨xs, q, Nat.le_refl _⟩, hd ys σ H p⟩
theorem es_modI {ta tb : TE} {i j : Int} (ha : EvS ta σ H (IsV (.int i))) (hb : EvS tb σ H (IsV (.int j))) (hj : 0 < j) : EvS (tOp (rI (fun _ j => 0 < j) fun i j => V.int (i % j)) ta tb) σ H (IsV (.int (i % j))) := fun H1 e Q q =>
  ha H1 e _ fun x H2 e2 hx => hb H2 (Same.trans e e2) _ fun y H3 e3 hy => ⟨i, j, hx, hy, hj, q _ _ (Same.trans e2 e3) rfl⟩
theorem es_lstN {ta : TA} {ds : List PyData} (h : EvD K ta σ H ds) (hl : ds.length ≤ 1000) : EvS (tLst ta) σ H (fun v H' => ∃ l vs, v = .ref l ∧ H' l = some (.lst vs) ∧ DpAll K H' vs ds ∧ H l = none) := fun H1 e Q q =>
  h H1 e _ fun vs H2 e2 hvs => ⟨Nat.le_of_lt (small1000 (by rw [dpa_len hvs]; omega)), fun p hp => q _ _ (Same.trans e2 (new_same hp)) ⟨p, vs, rfl, upd_same, dpa_same (new_same hp) _ _ hvs, Same.free e (Same.free e2 hp)⟩⟩
theorem es_eqD {ta tb : TE} {d e : PyData} (ha : EvS ta σ H (IsD K d)) (hb : EvS tb σ H (IsD K e)) (s1 : SeqAt.shaped d = true) (s2 : SeqAt.shaped e = true) : EvS (tOp (rEqD K) ta tb) σ H (IsV (.bl (PyData.eqv d e))) := fun H1 q1 Q q =>
  ha H1 q1 _ fun x H2 e2 hx => hb H2 (Same.trans q1 e2) _ fun y H3 e3 hy => ⟨d, e, dp_same e3 _ _ hx, hy, s1, s2, q _ _ (Same.trans e2 e3) rfl⟩
theorem es_neD {ta tb : TE} {d e : PyData} (ha : EvS ta σ H (IsD K d)) (hb : EvS tb σ H (IsD K e)) (s1 : SeqAt.shaped d = true) (s2 : SeqAt.shaped e = true) : EvS (tOp (rNeD K) ta tb) σ H (IsV (.bl (!PyData.eqv d e))) := fun H1 q1 Q q =>
  ha H1 q1 _ fun x H2 e2 hx => hb H2 (Same.trans q1 e2) _ fun y H3 e3 hy => ⟨d, e, dp_same e3 _ _ hx, hy, s1, s2, q _ _ (Same.trans e2 e3) rfl⟩
theorem es_lenD {ta : TE} {ds : List PyData} (ha : EvS ta σ H (IsD K (.list ds))) : EvS (tCB (N0.rLen K) (tCons ta tNil)) σ H (IsV (.int (ds.length : Int))) := fun H1 e Q q =>
  ha H1 e _ fun v H2 e2 hv => by
    cases hv with
    | lst h hd => exact ⟨_, _, rfl, .inl h, q _ _ e2 (by rw [dpa_len hd])⟩
end
/-! rows of rows, as data -/
theorem eqv_rows : ∀ a b : List (List Int), PyData.eqvAll (a.map tupD) (b.map tupD) = decide (a = b)
  | [], [] => rfl
  | [], _ :: _ => rfl
  | _ :: _, [] => rfl
  | x :: a, y :: b => by
    show (PyData.eqv (tupD x) (tupD y) && PyData.eqvAll (a.map tupD) (b.map tupD)) = _
    rw [eqv_rows a b, show PyData.eqv (tupD x) (tupD y) = decide (x = y) from eqv_tup x y, Bool.eq_iff_iff, Bool.and_eq_true, decide_eq_true_iff, decide_eq_true_iff, decide_eq_true_iff, List.cons.injEq]
def rowsD (ts : List (List Int)) : PyData := .list (ts.map tupD)
theorem eqv_rowsD (a b : List (List Int)) : PyData.eqv (rowsD a) (rowsD b) = decide (a = b) := eqv_rows a b
theorem canLay_rows : ∀ a : List (List Int), PyData.canLayAll0 (a.map tupD) = true
  | [] => rfl
  | x :: a => by
    show (PyData.canLay0 (tupD x) && PyData.canLayAll0 (a.map tupD)) = true
    rw [canLay_tup, canLay_rows a]
    rfl
theorem depth_rows : ∀ a : List (List Int), PyData.depthAll (a.map tupD) ≤ 1
  | [] => Nat.zero_le _
  | x :: a => by
    show max (tupD x).depth (PyData.depthAll (a.map tupD)) ≤ 1
    have h1 : (tupD x).depth = 1 := by
      show PyData.depthAll (x.map .int) + 1 = 1
      rw [depth_ints]
    have h2 := depth_rows a
    omega
theorem shaped_rows (a : List (List Int)) : SeqAt.shaped (rowsD a) = true := by
  unfold SeqAt.shaped rowsD
  rw [show PyData.canLay0 (.list (a.map tupD)) = PyData.canLayAll0 (a.map tupD) from rfl, canLay_rows, Bool.true_and, decide_eq_true_iff]
  show PyData.depthAll (a.map tupD) + 1 ≤ 64
  have := depth_rows a
  omega
theorem dp_rows {K : PySem.W.Frag} {H : Hp} {a : Addr} {vs : List V} {ts : List (List Int)} (h : SqL K H a vs) (hd : DpAll K H vs (ts.map tupD)) : Dp K H (.ref a) (rowsD ts) := .lst h hd
end N0

/-! «yield from» a list; // by a wide number of any sign -/
namespace N0
open PySem PySem.Spec PyProof.Rows L2 HT GenW
section
variable {prog : Program} {w : World} {A : Around} {E : Value → Shared → Prop} {s : Shared} {Q : Option Value → Shared → Prop}
/-- a list's iterator asked for what comes next: there is one more -/
theorem li_more {z b : Addr} {n : Nat} {its : Array Value} {y : Value} (g : s.heap.IsListIter z b n) (g2 : s.heap.IsList b its) (hy : its[n]? = some y)
    (k : ∀ hp, hp.IsListIter z b (n + 1) → Heap.SameBut z s.heap hp → Q (some y) { s with heap := hp }) : wpAny (model prog w) A (callSpecial? (.ref z) "__next__") Q E s := by
  obtain ⟨oz, e1, e2, e3⟩ := id g
  obtain ⟨ob, u1, u2, m, u3⟩ := g2
  refine wpAny_callSpecial?_slot (name := Str.ofString "__next__") g.typeIs slot_listiter_next (wpAny_call_entry slot_listiter_next g.typeIs entry_listiter_next ?_ (args_listiter_next _))
  show wpAny _ _ (field (.ref z) 0 >>= _) _ _ s
  refine wpAny_bind (wpAny_field e1 e3 (x := .ref b) rfl (?_ : wpAny _ _ (if (Value.ref b == Value.none) = true then _ else _) _ _ s))
  rw [if_neg (show ¬ ((Value.ref b == Value.none) = true) from fun q => nomatch q)]
  refine wpAny_bind (wpAny_field e1 e3 (x := .int n 0) rfl (wpAny_bind (wpAny_seqItems u1 u3 ?_)))
  simp only [Int.toNat_natCast, hy]
  refine wpAny_bind (wpAny_setField e1 e3 (by simp) (wpAny_pure ⟨y, rfl, k _ ⟨_, Heap.get?_update_self _ e1 (Obj.isFreed_of_fields (Obj.data_mapFields e3 _)), (Obj.cls_mapFields ..).trans e2, ?_⟩ (Heap.SameBut.update ..)⟩))
  rw [Obj.data_mapFields e3]
  simp [rawInt]
/-- there is none -/
theorem li_none {z b : Addr} {n : Nat} {its : Array Value} (nh : A.handled = none) (g : s.heap.IsListIter z b n) (g2 : s.heap.IsList b its) (hy : its[n]? = none)
    (k : ∀ e hp, StopX e hp → Heap.ExtBut z s.heap hp → E e { s with heap := hp }) : wpAny (model prog w) A (callSpecial? (.ref z) "__next__") Q E s := by
  obtain ⟨oz, e1, e2, e3⟩ := id g
  obtain ⟨ob, u1, u2, m, u3⟩ := g2
  refine wpAny_callSpecial?_slot (name := Str.ofString "__next__") g.typeIs slot_listiter_next (wpAny_call_entry slot_listiter_next g.typeIs entry_listiter_next ?_ (args_listiter_next _))
  show wpAny _ _ (field (.ref z) 0 >>= _) _ _ s
  refine wpAny_bind (wpAny_field e1 e3 (x := .ref b) rfl (?_ : wpAny _ _ (if (Value.ref b == Value.none) = true then _ else _) _ _ s))
  rw [if_neg (show ¬ ((Value.ref b == Value.none) = true) from fun q => nomatch q)]
  refine wpAny_bind (wpAny_field e1 e3 (x := .int n 0) rfl (wpAny_bind (wpAny_seqItems u1 u3 ?_)))
  simp only [Int.toNat_natCast, hy]
  refine wpAny_bind (wpAny_rule (wpAny_bind (wpAny_setField e1 e3 (by simp) (?_ : wpAny _ _ (newExc (.type "StopIteration") [] >>= _) _ _ _))))
  refine wpAny_bind ?_
  simp only [newExc, newTuple]
  refine wpAny_bind (wpAny_newObj_type (wpAny_bind (m := firstArgMember _ _) (wpAny_of_eq (a := Value.none) (by first | rfl | (simp only [firstArgMember]; rfl)) (wpAny_newObj_type ?_ (by size_fits)))) (by size_fits))
  simp only [raiseNew]
  refine wpAny_bind (wpAny_handled ?_)
  first | rw [show A.in1.handled = none from nh] | rw [nh]
  refine wpAny_bind (wpAny_pure (wpAny_throw (k _ _ ⟨_, _, _, rfl, Heap.get?_push_size _ rfl, rfl, rfl, ?_⟩ (((Heap.SameBut.update ..).extBut.push _).push _))))
  first
    | rfl
    | (rw [Array.getElem?_append_left (by decide)]; rfl)
    | kernel_rfl
end
section
variable {X : Cx} {e : Expr} {te : TE}
def tYfL (te : TE) : TYf := fun σ H Q => te σ H fun x H1 => ∃ b xs, x = .ref b ∧ H1 b = some (.lst xs) ∧ Q xs H1
theorem close_li : typeLookup (.type "list_iterator") "close" = pure none := by rw [typeLookup_type, builtinLookup_eq_fast]; kernel_rfl
theorem yf_list (he : PE X e te) : YfE X e (tYfL te) := by
  refine ⟨fun pins s σ H Q I h => thn (he.run pins s σ H _ I h) fun v s1 ⟨x, H1, I1, r1, b, xs, ex, hb, hq⟩ => ?_⟩
  subst ex
  obtain rfl : v = Value.ref b := r1
  obtain ⟨hlen, its, m, ri, hl0⟩ := I1.hok b _ hb
  have hl : s1.heap.IsList b its.toArray := ⟨_, hl0, rfl, m, rfl⟩
  refine ⟨"list", hl.typeIs, by decide, wpAny_pyIter_list hl ?_⟩
  have old : ∀ c o, s1.heap.get? c = some o → c ≠ s1.heap.objs.size := fun c o z => Nat.ne_of_lt (Heap.lt_size z)
  refine ⟨s1.heap.objs.size, H1, xs, fun j hp => hp.IsListIter s1.heap.objs.size b j ∧ hp.IsList b its.toArray, rfl, I1.kept (t' := s1.toks) fun c o z => Heap.get?_push_of_some _ z, .inr I1.sz, Nat.ne_of_gt I1.lt, fun y c hy => ?_, I1.hok.fresh (Nat.le_refl _), fun p hp => old p.1 _ (I1.pin p hp).1,
    ⟨⟨_, Heap.get?_push_size _ rfl, rfl, rfl⟩, hl.push _⟩, ⟨⟨"list_iterator", fun j hp q => q.1.imp fun o z => ⟨z.1, z.2.1⟩, close_li, by decide⟩, fun j hp hp' q hk => ?_, fun A' j x s2 Q' E' hA hx q hQ => ?_, fun A' s2 Q' E' hA q hE => ?_⟩, hq⟩
  · obtain ⟨v, o, ho, _⟩ := I1.cell y c hy
    exact old c o ho
  · obtain ⟨⟨o, ho, r⟩, o2, ho2, r2⟩ := q
    refine ⟨⟨o, hk _ o (.inl rfl) ho, r⟩, o2, hk _ o2 (.inr fun z => ?_) ho2, r2⟩
    rw [hb] at z
    cases z
  · obtain ⟨u, hu, ru⟩ := ri.get hx
    refine li_more q.1 q.2 (y := u) (by simpa using hu) fun hp g hs => hQ u hp s2.toks ru ⟨g, q.2.extBut hs.extBut ?_⟩ fun c o hc z => hs.extBut c o hc z
    obtain ⟨o, ho, _⟩ := hl
    exact old b o ho
  · have hn : its.toArray[xs.length]? = none := by
      have e1 := ri.length
      have e2 : its[xs.length]? = none := List.getElem?_eq_none_iff.mpr (by omega)
      simpa using e2
    exact li_none hA q.1 q.2 hn fun e hp hS hk => hE e hp s2.toks hS fun c o hc z => hk c o hc z
def CDivS (i j : Int) : Prop := j ≠ 0 ∧ j.natAbs.log2 < 9000
theorem op_fdivS : OpR X (binaryOp .FloorDiv) (rI CDivS fun i j => .int (i.fdiv j)) := opI fun i j _ _ _ _ _ hc q => floordiv_int hc.1 q (.inl (PyProof.noPylong_of_log2 hc.2))
end
section
variable {K : PySem.W.Frag} {σ : L2.St} {H : Hp}
theorem ev_ite {c : TT} {b : Bool} {A B : Hp → Prop} (h : EvB c σ H b) (h1 : b = true → ∀ H', Same H H' → A H') (h2 : b = false → ∀ H', Same H H' → B H') : c σ H (fun b H' => if b = true then A H' else B H') := h H (Same.refl _) _ fun H' e => by
  cases b with
  | true => exact h1 rfl H' e
  | false => exact h2 rfl H' e
/-- turns over a list, whatever is done with each item -/
theorem in_list {a : Addr} {xs : List V} {body : V → Hp → (Hp → Prop) → Prop} {Fin : Hp → Prop} (Pv : Nat → Hp → Prop) (h0 : Pv 0 H) (hl : ∀ i H, i ≤ xs.length → Pv i H → SqL K H a xs) (hs : ∀ i x H, xs[i]? = some x → Pv i H → body x H (Pv (i + 1))) (hd : ∀ H, Pv xs.length H → Fin H) :
    ∃ W : Nat → Nat → Hp → Prop, (∃ m, W 0 m H) ∧ ∀ i m H, W i m H → ((Itl K a).stop i H ∧ Fin H) ∨ ((Itl K a).go i H ∧ ∃ Nx : Hp → Prop, (∀ H', Nx H' → ∃ m', m' < m ∧ W (i + 1) m' H') ∧ ∀ x H', (Itl K a).yld i H x H' → body x H' Nx) := by
  refine ⟨fun i m H => m = xs.length - i ∧ i ≤ xs.length ∧ Pv i H, ⟨xs.length, by simp, Nat.zero_le _, h0⟩, ?_⟩
  rintro i m H ⟨rfl, hi, p⟩
  have q := hl i H hi p
  by_cases hlt : i < xs.length
  · refine .inr ⟨⟨xs, xs[i], q, by simp [hlt]⟩, Pv (i + 1), fun H' p' => ⟨xs.length - (i + 1), by omega, rfl, hlt, p'⟩, fun x H' y => ?_⟩
    obtain ⟨e, y⟩ := y
    subst e
    exact hs i x _ (y xs q) p
  · have e : i = xs.length := by omega
    subst e
    exact .inl ⟨⟨xs, q, Nat.le_refl _⟩, hd H p⟩
theorem es_neV {ta tb : TE} {u v : V} (ha : EvS ta σ H (IsV u)) (hb : EvS tb σ H (IsV v)) (hs : scal u v = true) : EvS (tOp rNe ta tb) σ H (IsV (.bl (!decide (u = v)))) := fun H1 e Q q =>
  ha H1 e _ fun x H2 e2 hx => hb H2 (Same.trans e e2) _ fun y H3 e3 hy => by
    subst hx hy
    exact ⟨hs, q _ _ (Same.trans e2 e3) rfl⟩
theorem es_eqV {ta tb : TE} {u v : V} (ha : EvS ta σ H (IsV u)) (hb : EvS tb σ H (IsV v)) (hs : scal u v = true) : EvS (tOp rEq ta tb) σ H (IsV (.bl (decide (u = v)))) := fun H1 e Q q =>
  ha H1 e _ fun x H2 e2 hx => hb H2 (Same.trans e e2) _ fun y H3 e3 hy => by
    subst hx hy
    exact ⟨hs, q _ _ (Same.trans e2 e3) rfl⟩
theorem es_rI {C : Int → Int → Prop} {f : Int → Int → V} {ta tb : TE} {i j : Int} (ha : EvS ta σ H (IsV (.int i))) (hb : EvS tb σ H (IsV (.int j))) (hc : C i j) : EvS (tOp (rI C f) ta tb) σ H (IsV (f i j)) := fun H1 e Q q =>
  ha H1 e _ fun x H2 e2 hx => hb H2 (Same.trans e e2) _ fun y H3 e3 hy => ⟨i, j, hx, hy, hc, q _ _ (Same.trans e2 e3) rfl⟩
theorem es_strI {ta : TE} {i : Int} (ha : EvS ta σ H (IsV (.int i))) (hl : i.natAbs.log2 < 1920) : EvS (tCB (fun xs H Q => ∃ i : Int, xs = [V.int i] ∧ i.natAbs.log2 < 1920 ∧ Q (V.str (Str.ofString (toString i))) H) (tCons ta tNil)) σ H (IsV (.str (Str.ofString (toString i)))) := fun H1 e Q q =>
  ha H1 e _ fun x H2 e2 hx => ⟨i, by rw [hx], hl, q _ _ e2 rfl⟩
theorem es_addS {ta tb : TE} {x y : Str} (ha : EvS ta σ H (IsV (.str x))) (hb : EvS tb σ H (IsV (.str y))) (hz : x.length + y.length ≤ sizeLine) : EvS (tOp (fun x y H Q => ∃ i j, x = V.str i ∧ y = V.str j ∧ i.length + j.length ≤ sizeLine ∧ Q (V.str (i ++ j)) H) ta tb) σ H (IsV (.str (x ++ y))) := fun H1 e Q q =>
  ha H1 e _ fun u H2 e2 hu => hb H2 (Same.trans e e2) _ fun v H3 e3 hv => ⟨x, y, hu, hv, hz, q _ _ (Same.trans e2 e3) rfl⟩
theorem es_intB {ta : TE} {k : Bool} (ha : EvS ta σ H (IsV (.bl k))) : EvS (tCB (fun xs H Q => (∃ i, xs = [V.int i] ∧ Q (V.int i) H) ∨ ∃ k : Bool, xs = [V.bl k] ∧ Q (V.int (if k = true then 1 else 0)) H) (tCons ta tNil)) σ H (IsV (.int (if k = true then 1 else 0))) := fun H1 e Q q =>
  ha H1 e _ fun x H2 e2 hx => .inr ⟨k, by rw [hx], q _ _ e2 rfl⟩
theorem es_ixL {i : Nat} {l : Addr} {ys : List V} {j : Int} {v : V} (hv : σ[i]? = some (some (.ref l))) (hl : H l = some (.lst ys)) (hj : atI ys j = some v) : EvS (tOp (rIxL K) (tVar i) (tC (.int j))) σ H (IsV v) := fun H1 e Q q =>
  ⟨.ref l, hv, l, ys, j, v, rfl, rfl, lst_of (e _ _ hl), hj, q _ _ (Same.refl _) rfl⟩
theorem es_refT {te : TE} {p : Addr} {ns : List Int} (h : EvS te σ H (IsV (.ref p))) (hp : SqT K H p (ns.map V.int)) : EvS te σ H (IsI K ns) := fun H1 e Q q => h H1 e _ fun v H2 e2 hv => q _ _ e2 ⟨p, hv, same_tup (Same.trans e e2) hp⟩
theorem es_lstA {ta : TA} {n : Nat} {P : V → Hp → Prop} (pp : ∀ v H H1, Same H H1 → P v H → P v H1) (h : EvA ta σ H n P) (hn : n ≤ 1000) : EvS (tLst ta) σ H (fun v H' => ∃ l vs, v = .ref l ∧ H' l = some (.lst vs) ∧ ∀ u ∈ vs, P u H') := fun H1 e Q q =>
  h H1 e _ fun vs H2 e2 hl hvs => ⟨Nat.le_of_lt (small1000 (by omega)), fun p hp => q _ _ (Same.trans e2 (new_same hp)) ⟨p, vs, rfl, upd_same, fun u hu => pp _ _ _ (new_same hp) (hvs u hu)⟩⟩
theorem rs_mutl {S l : Addr} {o : HO} {H H1 : Hp} (r : Rs (some S) H H1) (hl : H l = none) (ne : S ≠ l) : Rs (some S) H (upd H1 l o) := ⟨r.s0, by
  obtain ⟨x, y, z, e⟩ := r.s1
  exact ⟨x, y, z, by rw [upd_ne ne]; exact e⟩, fun a u n e => by
  rw [upd_ne (fun q => by rw [q, hl] at e; cases e)]
  exact r.keep a u n e⟩
theorem dpa_rs {S : Addr} {H H1 : Hp} (r : Rs (some S) H H1) : ∀ {vs : List V} {ts : List (List Int)}, DpAll K H vs (ts.map tupD) → DpAll K H1 vs (ts.map tupD)
  | [], [], _ => .nil
  | _ :: _, [], h => nomatch h
  | [], _ :: _, h => nomatch h
  | v :: vs, t :: ts, .cons h g => by
    refine .cons ?_ (dpa_rs r g)
    cases h with
    | tup ha hd =>
      rw [dpa_ints hd] at ha
      exact dp_tup (r.tup ha)
end
end N0

/-! lists of rings, and their numbers -/
namespace Rg
def ents (n : Nat) : List Int := ((List.range (2 * n + 1)).map fun (k : Nat) => (k : Int) - (n : Int)).filter fun e => !decide (e = 0)
/-- the beginnings of rings by one entry longer -/
def longr (n : Nat) (begun : List (List Int × Nat)) : List (List Int × Nat) :=
  (begun.map fun b =>
    let least := if b.1 = [] then -(n : Int) else b.1.getD (b.1.length - b.2) 0
    ((ents n).filter fun e => !(decide (e < least) || (!decide (b.1 = []) && decide (e = - b.1.getD (b.1.length - 1) 0)))).map fun e => (b.1 ++ [e], if e = least then b.2 else b.1.length + 1)).flatten
def begs (n : Nat) : Nat → List (List Int × Nat)
  | 0 => [([], 1)]
  | k + 1 => longr n (begs n k)
def ringsC (n len : Nat) : List (List Int) := ((begs n len).filter fun b => decide (len % b.2 = 0) && (decide (b.1 = []) || !decide (b.1.getD 0 0 = - b.1.getD (b.1.length - 1) 0))).map (·.1)
def wordsC (n : Nat) : Nat → List (List Int)
  | 0 => [[]]
  | k + 1 => ((wordsC n k).map fun w => ((ents n).filter fun e => decide (w = []) || !decide (w.getD (w.length - 1) 0 = -e)).map fun e => w ++ [e]).flatten
def lexB : List Int → List Int → Bool
  | [], [] => false
  | [], _ :: _ => true
  | _ :: _, [] => false
  | x :: xs, y :: ys => if x = y then lexB xs ys else decide (x < y)
/-- whether a word is its own ring -/
def ownB (w : List Int) : Bool := (decide (w = []) || !decide (w.getD 0 0 = - w.getD (w.length - 1) 0)) && (List.range w.length).all fun t => !lexB (rot w t) w
def sizes : List (Nat × Nat) := [(1, 6), (2, 4), (2, 5), (3, 3), (4, 2), (5, 2)]
theorem lists_ok : (sizes.all fun s => (List.range (s.2 + 1)).all fun len => decide (ringsC s.1 len = (wordsC s.1 len).filter ownB)) = true := by decide +kernel
def coreC (n len : Nat) : Int := (2 * (n : Int) - 1) ^ len + 1 + ((n : Int) - 1) * (if len % 2 = 0 then 2 else 0)
def phi (d : Nat) : Nat := ((List.range d).filter fun k => decide (Nat.gcd (k + 1) d = 1)).length
def divs (len : Nat) : List Nat := ((List.range len).map (· + 1)).filter fun d => decide (len % d = 0)
def numC (n len : Nat) : Int := if len = 0 then 1 else (((divs len).map fun d => (phi d : Int) * coreC n (len / d)).sum) / len
def numL (n len : Nat) : Int := (((List.range len).map fun k => coreC n (if k = 0 then len else Nat.gcd len k)).sum) / len
theorem nums_ok : (([1, 2, 3, 4, 5] : List Nat).all fun n => (List.range 200).all fun k => decide (numC n (k + 1) = numL n (k + 1))) = true := by decide +kernel
theorem lens_ok : (sizes.all fun s => (List.range (s.2 + 1)).all fun len => decide (numC s.1 len = (ringsC s.1 len).length)) = true := by decide +kernel
end Rg

/-! a word is its own ring exactly if the test says so -/
namespace Rg
open Fr
theorem lexB_eq : ∀ x y : List Int, lexB x y = HT.lexLt x y
  | [], [] => rfl
  | [], _ :: _ => rfl
  | _ :: _, [] => rfl
  | x :: xs, y :: ys => by
    show (if x = y then lexB xs ys else decide (x < y)) = if x = y then HT.lexLt xs ys else decide (x < y)
    rw [lexB_eq]
theorem lex_to : ∀ (x y : List Int), x.length = y.length → HT.lexLt x y = true → ∃ j, j < x.length ∧ (∀ i, i < j → x.getD i 0 = y.getD i 0) ∧ x.getD j 0 < y.getD j 0
  | [], [], _, h => by cases h
  | [], _ :: _, h, _ => nomatch h
  | _ :: _, [], h, _ => nomatch h
  | x :: xs, y :: ys, hl, h => by
    rw [HT.lexLt_cons] at h
    by_cases q : x = y
    · rw [if_pos q] at h
      obtain ⟨j, h1, h2, h3⟩ := lex_to xs ys (by simpa using hl) h
      refine ⟨j + 1, by simp; omega, fun i hi => ?_, h3⟩
      cases i with
      | zero => exact q
      | succ i => exact h2 i (by omega)
    · rw [if_neg q] at h
      exact ⟨0, by simp, fun i hi => absurd hi (Nat.not_lt_zero _), of_decide_eq_true h⟩
theorem rot_zero (w : List Int) : rot w 0 = w := by unfold rot; simp
theorem ends_iff {w : List Int} (h : w ≠ []) : Cr w ↔ w.getD 0 0 ≠ - w.getD (w.length - 1) 0 := by
  have hl := List.length_pos_iff.mpr h
  have e1 : w.head? = some (w.getD 0 0) := by rw [List.head?_eq_getElem?, N0.getD_of hl]
  have e2 : w.getLast? = some (w.getD (w.length - 1) 0) := by rw [List.getLast?_eq_getElem?, N0.getD_of (by omega)]
  constructor
  · intro c q
    exact c.2 _ _ e2 e1 (by omega)
  · intro q
    refine ⟨h, fun x y hx hy z => q ?_⟩
    rw [e2] at hx
    rw [e1] at hy
    cases hx
    cases hy
    omega
theorem own_iff {w r : List Int} (hr : RingW w r) : decide (r = w) = ownB w := by
  by_cases hw : w = []
  · subst hw
    have : r = [] := ringw_uniq hr ⟨[], [], spl_nil, ring_nil⟩
    subst this
    rfl
  · have hl := List.length_pos_iff.mpr hw
    rw [Bool.eq_iff_iff, decide_eq_true_iff]
    unfold ownB
    rw [Bool.and_eq_true, decide_eq_false hw, Bool.false_or, Bool.not_eq_true', decide_eq_false_iff_not, List.all_eq_true]
    constructor
    · intro e
      subst e
      obtain ⟨c, m, s, g⟩ := hr
      have e1 := congrArg List.length s.1
      rw [List.length_append, List.length_append] at e1
      have hc : c = [] := List.eq_nil_of_length_eq_zero (by have := g.1; omega)
      subst hc
      have hm : r = m := by rw [s.1]; simp [opp]
      subst hm
      refine ⟨(ends_iff hw).mp (s.2.2 hw), fun t ht => ?_⟩
      obtain ⟨_, z, h1, h2⟩ := g
      have h0 : Least (sq r) 0 := least_of_eq h1 fun i => by rw [Nat.zero_add]; exact (h2 i).symm
      rw [List.mem_range] at ht
      rw [Bool.not_eq_true', lexB_eq]
      cases q : HT.lexLt (rot r t) r with
      | false => rfl
      | true =>
        obtain ⟨j, j1, j2, j3⟩ := lex_to _ _ (rot_len r t) q
        rw [rot_len] at j1
        refine (h0 t ⟨j, fun i hi => ?_, ?_⟩).elim
        · have := j2 i hi
          rw [rot_at (by omega) (by omega)] at this
          rw [this, Nat.zero_add, sq_self (by omega)]
        · rw [rot_at (by omega) (by omega)] at j3
          rw [Nat.zero_add, sq_self j1]
          exact j3
    · intro ⟨h1, h2⟩
      have lst : Least (sq w) 0 := least_lex hl fun t ht => by
        have := h2 t (List.mem_range.mpr ht)
        rw [Bool.not_eq_true', lexB_eq] at this
        rw [rot_zero]
        exact this
      have g := ring_rot (m := w) (Nat.zero_le _) lst
      rw [rot_zero] at g
      exact ringw_uniq hr ⟨[], w, spl_of (by simp [opp]) ((ends_iff hw).mpr h1), g⟩
end Rg

namespace Pr
open PySem L2 N0
/-! ### the text by places -/
def topS (i : Nat) : Stmt := PySem.Challenge.pw_noroadback_k04_whole_lists_of_rings.main.body.getD i (.Pass ⟨0, 0, 0, 0⟩)
abbrev st_is_integer : Stmt := topS 2
abbrev nm_is_integer : List Str := ["value"]
theorem sc_is_integer : FnScope nm_is_integer ["value"] (defScope st_is_integer) := ⟨rfl, rfl, rfl, by decide +kernel, rfl, by decide +kernel, by decide +kernel⟩
abbrev st_is_within : Stmt := topS 3
abbrev nm_is_within : List Str := ["value", "least", "most"]
theorem sc_is_within : FnScope nm_is_within ["value", "least", "most"] (defScope st_is_within) := ⟨rfl, rfl, rfl, by decide +kernel, rfl, by decide +kernel, by decide +kernel⟩
abbrev st_integer_power : Stmt := topS 4
abbrev nm_integer_power : List Str := ["base", "many", "total", "_"]
theorem sc_integer_power : FnScope nm_integer_power ["base", "many"] (defScope st_integer_power) := ⟨rfl, rfl, rfl, by decide +kernel, rfl, by decide +kernel, by decide +kernel⟩
abbrev st_check_letters : Stmt := topS 9
abbrev nm_check_letters : List Str := ["letters"]
theorem sc_check_letters : FnScope nm_check_letters ["letters"] (defScope st_check_letters) := ⟨rfl, rfl, rfl, by decide +kernel, rfl, by decide +kernel, by decide +kernel⟩
abbrev st_entries_of : Stmt := topS 10
abbrev nm_entries_of : List Str := ["letters", "entry"]
theorem sc_entries_of : FnScope nm_entries_of ["letters"] (defScope st_entries_of) := ⟨rfl, rfl, rfl, by decide +kernel, rfl, by decide +kernel, by decide +kernel⟩
abbrev st_longer_necklaces : Stmt := topS 14
abbrev nm_longer_necklaces : List Str := ["letters", "begun", "entries", "longer", "row", "period", "least", "entry"]
theorem sc_longer_necklaces : FnScope nm_longer_necklaces ["letters", "begun"] (defScope st_longer_necklaces) := ⟨rfl, rfl, rfl, by decide +kernel, rfl, by decide +kernel, by decide +kernel⟩
abbrev st_rings_with : Stmt := topS 15
abbrev nm_rings_with : List Str := ["letters", "length", "begun", "_", "row", "period"]
theorem sc_rings_with : FnScope nm_rings_with ["letters", "length"] (defScope st_rings_with) := ⟨rfl, rfl, rfl, by decide +kernel, rfl, by decide +kernel, by decide +kernel⟩
abbrev st_rings_of : Stmt := topS 16
abbrev nm_rings_of : List Str := ["letters", "length"]
theorem sc_rings_of : GScope nm_rings_of ["letters", "length"] (defScope st_rings_of) := ⟨rfl, rfl, rfl, by decide +kernel, rfl, by decide +kernel, by decide +kernel⟩
abbrev st_coprime_number : Stmt := topS 17
abbrev nm_coprime_number : List Str := ["most", "number"]
theorem sc_coprime_number : FnScope nm_coprime_number ["most"] (defScope st_coprime_number) := ⟨rfl, rfl, rfl, by decide +kernel, rfl, by decide +kernel, by decide +kernel⟩
abbrev st_core_number : Stmt := topS 18
abbrev nm_core_number : List Str := ["letters", "length", "both_signs"]
theorem sc_core_number : FnScope nm_core_number ["letters", "length"] (defScope st_core_number) := ⟨rfl, rfl, rfl, by decide +kernel, rfl, by decide +kernel, by decide +kernel⟩
abbrev st_ring_number : Stmt := topS 19
abbrev nm_ring_number : List Str := ["letters", "length", "divisors", "counted", "divisor"]
theorem sc_ring_number : FnScope nm_ring_number ["letters", "length"] (defScope st_ring_number) := ⟨rfl, rfl, rfl, by decide +kernel, rfl, by decide +kernel, by decide +kernel⟩
abbrev st__law_sack : Stmt := topS 21
abbrev nm__law_sack : List Str := ["script", "spot", "cell", "great"]
theorem sc__law_sack : FnScope nm__law_sack ["script", "spot"] (defScope st__law_sack) := ⟨rfl, rfl, rfl, by decide +kernel, rfl, by decide +kernel, by decide +kernel⟩
abbrev st__law_drawn : Stmt := topS 22
abbrev nm__law_drawn : List Str := ["sack", "total", "found", "one", "two"]
theorem sc__law_drawn : FnScope nm__law_drawn ["sack", "total"] (defScope st__law_drawn) := ⟨rfl, rfl, rfl, by decide +kernel, rfl, by decide +kernel, by decide +kernel⟩
abbrev st__law_liked : Stmt := topS 23
abbrev nm__law_liked : List Str := ["sack", "items"]
theorem sc__law_liked : FnScope nm__law_liked ["sack", "items"] (defScope st__law_liked) := ⟨rfl, rfl, rfl, by decide +kernel, rfl, by decide +kernel, by decide +kernel⟩
abbrev st__law_core : Stmt := topS 24
abbrev nm__law_core : List Str := ["word", "found", "turn"]
theorem sc__law_core : FnScope nm__law_core ["word"] (defScope st__law_core) := ⟨rfl, rfl, rfl, by decide +kernel, rfl, by decide +kernel, by decide +kernel⟩
abbrev st__law_ring : Stmt := topS 25
abbrev nm__law_ring : List Str := ["word", "core", "at"]
theorem sc__law_ring : FnScope nm__law_ring ["word"] (defScope st__law_ring) := ⟨rfl, rfl, rfl, by decide +kernel, rfl, by decide +kernel, by decide +kernel⟩
abbrev st__law_all_words : Stmt := topS 26
abbrev nm__law_all_words : List Str := ["letters", "length", "found", "turn", "longer", "begun", "entry"]
theorem sc__law_all_words : FnScope nm__law_all_words ["letters", "length"] (defScope st__law_all_words) := ⟨rfl, rfl, rfl, by decide +kernel, rfl, by decide +kernel, by decide +kernel⟩
abbrev st__law_raised : Stmt := topS 27
abbrev nm__law_raised : List Str := ["base", "many", "found", "turn"]
theorem sc__law_raised : FnScope nm__law_raised ["base", "many"] (defScope st__law_raised) := ⟨rfl, rfl, rfl, by decide +kernel, rfl, by decide +kernel, by decide +kernel⟩
abbrev st__law_gcd : Stmt := topS 28
abbrev nm__law_gcd : List Str := ["one", "other", "first", "second"]
theorem sc__law_gcd : FnScope nm__law_gcd ["one", "other"] (defScope st__law_gcd) := ⟨rfl, rfl, rfl, by decide +kernel, rfl, by decide +kernel, by decide +kernel⟩
abbrev st__law_cores : Stmt := topS 29
abbrev nm__law_cores : List Str := ["letters", "length"]
theorem sc__law_cores : FnScope nm__law_cores ["letters", "length"] (defScope st__law_cores) := ⟨rfl, rfl, rfl, by decide +kernel, rfl, by decide +kernel, by decide +kernel⟩
abbrev st__law_number : Stmt := topS 30
abbrev nm__law_number : List Str := ["letters", "length", "found", "step"]
theorem sc__law_number : FnScope nm__law_number ["letters", "length"] (defScope st__law_number) := ⟨rfl, rfl, rfl, by decide +kernel, rfl, by decide +kernel, by decide +kernel⟩
abbrev st__law_right : Stmt := topS 31
abbrev nm__law_right : List Str := ["sack", "letters", "most", "length", "far", "told", "words", "word"]
theorem sc__law_right : FnScope nm__law_right ["sack"] (defScope st__law_right) := ⟨rfl, rfl, rfl, by decide +kernel, rfl, by decide +kernel, by decide +kernel⟩
abbrev st_law : Stmt := topS 32
abbrev nm_law : List Str := ["script", "spot", "told"]
theorem sc_law : FnScope nm_law ["script"] (defScope st_law) := ⟨rfl, rfl, rfl, by decide +kernel, rfl, by decide +kernel, by decide +kernel⟩
/-- what the top leaves -/
structure Txt (K : PySem.W.Frag) (mg : Str → Option Value) : Prop where
  f_is_integer : ∃ (f : Addr) (fd : FuncData), Fun K "is_integer" "is_integer" st_is_integer f fd ∧ mg "is_integer" = some (.ref f) ∧ Binds K fd ["value"] []
  f_is_within : ∃ (f : Addr) (fd : FuncData), Fun K "is_within" "is_within" st_is_within f fd ∧ mg "is_within" = some (.ref f) ∧ Binds K fd ["value", "least", "most"] []
  f_integer_power : ∃ (f : Addr) (fd : FuncData), Fun K "integer_power" "integer_power" st_integer_power f fd ∧ mg "integer_power" = some (.ref f) ∧ Binds K fd ["base", "many"] []
  f_check_letters : ∃ (f : Addr) (fd : FuncData), Fun K "check_letters" "check_letters" st_check_letters f fd ∧ mg "check_letters" = some (.ref f) ∧ Binds K fd ["letters"] []
  f_entries_of : ∃ (f : Addr) (fd : FuncData), Fun K "entries_of" "entries_of" st_entries_of f fd ∧ mg "entries_of" = some (.ref f) ∧ Binds K fd ["letters"] []
  f_longer_necklaces : ∃ (f : Addr) (fd : FuncData), Fun K "longer_necklaces" "longer_necklaces" st_longer_necklaces f fd ∧ mg "longer_necklaces" = some (.ref f) ∧ Binds K fd ["letters", "begun"] []
  f_rings_with : ∃ (f : Addr) (fd : FuncData), Fun K "rings_with" "rings_with" st_rings_with f fd ∧ mg "rings_with" = some (.ref f) ∧ Binds K fd ["letters", "length"] []
  f_rings_of : ∃ (f : Addr) (fd : FuncData), Fun K "rings_of" "rings_of" st_rings_of f fd ∧ mg "rings_of" = some (.ref f) ∧ Binds K fd ["letters", "length"] []
  f_coprime_number : ∃ (f : Addr) (fd : FuncData), Fun K "coprime_number" "coprime_number" st_coprime_number f fd ∧ mg "coprime_number" = some (.ref f) ∧ Binds K fd ["most"] []
  f_core_number : ∃ (f : Addr) (fd : FuncData), Fun K "core_number" "core_number" st_core_number f fd ∧ mg "core_number" = some (.ref f) ∧ Binds K fd ["letters", "length"] []
  f_ring_number : ∃ (f : Addr) (fd : FuncData), Fun K "ring_number" "ring_number" st_ring_number f fd ∧ mg "ring_number" = some (.ref f) ∧ Binds K fd ["letters", "length"] []
  f__law_sack : ∃ (f : Addr) (fd : FuncData), Fun K "_law_sack" "_law_sack" st__law_sack f fd ∧ mg "_law_sack" = some (.ref f) ∧ Binds K fd ["script", "spot"] []
  f__law_drawn : ∃ (f : Addr) (fd : FuncData), Fun K "_law_drawn" "_law_drawn" st__law_drawn f fd ∧ mg "_law_drawn" = some (.ref f) ∧ Binds K fd ["sack", "total"] []
  f__law_liked : ∃ (f : Addr) (fd : FuncData), Fun K "_law_liked" "_law_liked" st__law_liked f fd ∧ mg "_law_liked" = some (.ref f) ∧ Binds K fd ["sack", "items"] []
  f__law_core : ∃ (f : Addr) (fd : FuncData), Fun K "_law_core" "_law_core" st__law_core f fd ∧ mg "_law_core" = some (.ref f) ∧ Binds K fd ["word"] []
  f__law_ring : ∃ (f : Addr) (fd : FuncData), Fun K "_law_ring" "_law_ring" st__law_ring f fd ∧ mg "_law_ring" = some (.ref f) ∧ Binds K fd ["word"] []
  f__law_all_words : ∃ (f : Addr) (fd : FuncData), Fun K "_law_all_words" "_law_all_words" st__law_all_words f fd ∧ mg "_law_all_words" = some (.ref f) ∧ Binds K fd ["letters", "length"] []
  f__law_raised : ∃ (f : Addr) (fd : FuncData), Fun K "_law_raised" "_law_raised" st__law_raised f fd ∧ mg "_law_raised" = some (.ref f) ∧ Binds K fd ["base", "many"] []
  f__law_gcd : ∃ (f : Addr) (fd : FuncData), Fun K "_law_gcd" "_law_gcd" st__law_gcd f fd ∧ mg "_law_gcd" = some (.ref f) ∧ Binds K fd ["one", "other"] []
  f__law_cores : ∃ (f : Addr) (fd : FuncData), Fun K "_law_cores" "_law_cores" st__law_cores f fd ∧ mg "_law_cores" = some (.ref f) ∧ Binds K fd ["letters", "length"] []
  f__law_number : ∃ (f : Addr) (fd : FuncData), Fun K "_law_number" "_law_number" st__law_number f fd ∧ mg "_law_number" = some (.ref f) ∧ Binds K fd ["letters", "length"] []
  f__law_right : ∃ (f : Addr) (fd : FuncData), Fun K "_law_right" "_law_right" st__law_right f fd ∧ mg "_law_right" = some (.ref f) ∧ Binds K fd ["sack"] []
  c_MAX_LETTERS : ∃ t : Tok, mg "MAX_LETTERS" = some (.int 5 t)
  c_MOST_LISTED : ∃ t : Tok, mg "MOST_LISTED" = some (.int 6 t)
  c_MOST_NUMBERED : ∃ t : Tok, mg "MOST_NUMBERED" = some (.int 200 t)
  n_abs : mg "abs" = none
  n_bool : mg "bool" = none
  n_int : mg "int" = none
  n_isinstance : mg "isinstance" = none
  n_len : mg "len" = none
  n_list : mg "list" = none
  n_max : mg "max" = none
  n_min : mg "min" = none
  n_range : mg "range" = none
  n_sum : mg "sum" = none
  i_gcd : mg "gcd" = some (.builtin "math.gcd")
section
variable {P : Program} {w : World} {K : PySem.W.Frag} {mg : Str → Option Value} {base : Heap}
theorem at_int {ns : List Int} {z : Int} {j : Nat} (e : z = (j : Int)) (h : j < ns.length) : atI (ns.map V.int) z = some (V.int (ns.getD j 0)) := by
  refine at_of e ?_
  rw [List.getElem?_map, List.getElem?_eq_getElem h, List.getD_eq_getElem?_getD, List.getElem?_eq_getElem h]
  rfl
/-! is_integer, is_within -/
def spIsInt (K : PySem.W.Frag) : Sp := fun vs H Q _ => ∃ v o, vs = [v] ∧ En K H v o ∧ Q (.bl o.isSome) H
theorem ok_is_integer {f : Addr} {fd : FuncData} (F : Fun K "is_integer" "is_integer" st_is_integer f fd) (T : Txt K mg) : FnOk P w K mg base CX0 1 f fd ["value"] (spIsInt K) := by
  refine F.ok sc_is_integer (fun vs H Q E h => ?_) (fun cdv A outer s H vs Q E hr h => ?_)
  · obtain ⟨v, o, rfl, _⟩ := h
    rfl
  · obtain ⟨v, o, rfl, en, k⟩ := h
    refine ⟨_, (pss_one (ps_ret (pe_and (pe_callB (kcall_isi (K := K)) (by rfl) T.n_isinstance bo_isinstance (pa_cons (pv 0) (pa_cons (pe_bltn (by rfl) T.n_int bo_int rel_ty) pa_nil))) (pe_one (pe_not (pe_callB (kcall_isi (K := K)) (by rfl) T.n_isinstance bo_isinstance (pa_cons (pv 0) (pa_cons (pe_bltn (by rfl) T.n_bool bo_bool rel_ty) pa_nil)))))))), ?_⟩
    have key : ∀ (t : String) (i b : Bool), TyX K H v (.type t) → kitB t "int" = some i → kitB t "bool" = some b → (i && !b) = o.isSome →
        ∃ v1, (start nm_is_integer [v])[0]? = some (some v1) ∧ rIsi K [v1, .ty "int"] H fun x H1 => ∃ c, x = .bl c ∧ if c = true then (∃ v2, (start nm_is_integer [v])[0]? = some (some v2) ∧ rIsi K [v2, .ty "bool"] H1 fun x H1 => ∃ c, x = .bl c ∧ Q (.bl (!c)) H1) else Q (.bl false) H1 := fun t i b h k1 k2 e => by
      refine ⟨v, rfl, v, _, _, _, i, rfl, .ty _, h, kit_ty k1, i, rfl, ?_⟩
      cases i with
      | false =>
        rw [show o.isSome = false from e.symm] at k
        exact iteF k
      | true => exact iteT ⟨v, rfl, v, _, _, _, b, rfl, .ty _, h, kit_ty k2, b, rfl, by rw [show (!b) = o.isSome from e]; exact k⟩
    cases en with
    | int i => exact key "int" true false (.base (.int i)) (by decide +kernel) (by decide +kernel) rfl
    | oth h k1 k2 k3 => exact key _ _ _ h k1 k2 k3
theorem cl_is_integer (T : Txt K mg) : Cl P w K mg base 1 "is_integer" (spIsInt K) := by
  obtain ⟨f, fd, F, hm, hb⟩ := T.f_is_integer
  exact cl_of (ok_is_integer F T) hm F.kp hb
def spWithin : Sp := fun vs H Q _ => ∃ v l m : Int, vs = [.int v, .int l, .int m] ∧ Q (.bl (decide (l ≤ v ∧ v ≤ m))) H
theorem ok_is_within {f : Addr} {fd : FuncData} (F : Fun K "is_within" "is_within" st_is_within f fd) (T : Txt K mg) : FnOk P w K mg base CX0 2 f fd ["value", "least", "most"] spWithin := by
  have c_is_integer : Cl P w K mg base 1 "is_integer" (spIsInt K) := cl_is_integer T
  refine F.ok sc_is_within (fun vs H Q E h => ?_) (fun cdv A outer s H vs Q E hr h => ?_)
  · obtain ⟨v, l, m, rfl, _⟩ := h
    rfl
  · obtain ⟨v, l, m, rfl, k⟩ := h
    refine ⟨_, (pss_one (ps_ret (pe_and (pe_f c_is_integer hr (by decide) rfl (pa_cons (pv 0) pa_nil)) (pe_one (pe_chain op_le op_le (pv 1) (pv 0) (pv 2)))))), ?_⟩
    refine ⟨.int v, rfl, .int v, some v, rfl, .int v, true, rfl, iteT ⟨.int l, rfl, .int v, rfl, l, v, rfl, rfl, _, rfl, ?_⟩⟩
    refine ite2 (fun h1 => ⟨.int m, rfl, v, m, rfl, rfl, ?_⟩) fun h1 => ?_
    · have h1 := of_decide_eq_true h1
      have e : decide (l ≤ v ∧ v ≤ m) = decide (v ≤ m) := by simp [h1]
      rw [e] at k
      exact k
    · have h1 : ¬ l ≤ v := fun q => h1 (decide_eq_true q)
      have e : decide (l ≤ v ∧ v ≤ m) = false := by simp [h1]
      rw [e] at k
      exact k
theorem cl_is_within (T : Txt K mg) : Cl P w K mg base 2 "is_within" spWithin := by
  obtain ⟨f, fd, F, hm, hb⟩ := T.f_is_within
  exact cl_of (ok_is_within F T) hm F.kp hb
def spChkLetters : Sp := fun vs H Q _ => ∃ n : Int, vs = [.int n] ∧ 1 ≤ n ∧ n ≤ 5 ∧ Q .non H
theorem ok_check_letters {f : Addr} {fd : FuncData} (F : Fun K "check_letters" "check_letters" st_check_letters f fd) (T : Txt K mg) : FnOk P w K mg base CX0 3 f fd ["letters"] spChkLetters := by
  have c_is_within : Cl P w K mg base 2 "is_within" spWithin := cl_is_within T
  refine F.ok sc_check_letters (fun vs H Q E h => ?_) (fun cdv A outer s H vs Q E hr h => ?_)
  · obtain ⟨n, rfl, _⟩ := h
    rfl
  · obtain ⟨n, rfl, h1, h2, k⟩ := h
    refine ⟨_, (pss_one (ps_if (pt_not (pt_val (pe_f c_is_within hr (by decide) rfl (pa_cons (pv 0) (pa_cons pe_int (pa_cons (pe_glob rfl T.c_MAX_LETTERS.choose_spec rel_int) pa_nil)))))) (pss_one ps_never) pss_nil)), ?_⟩
    refine ⟨.int n, rfl, n, 1, 5, rfl, _, rfl, ?_⟩
    rw [decide_eq_true (show 1 ≤ n ∧ n ≤ 5 from ⟨h1, h2⟩)]
    exact iteF k
theorem cl_check_letters (T : Txt K mg) : Cl P w K mg base 3 "check_letters" spChkLetters := by
  obtain ⟨f, fd, F, hm, hb⟩ := T.f_check_letters
  exact cl_of (ok_check_letters F T) hm F.kp hb
def Sack3 (H : Hp) (S : Addr) : Prop := ∃ x y z : Int, H S = some (.lst [.int x, .int y, .int z])
def spSack (K : PySem.W.Frag) : Sp := fun vs H Q _ => ∃ (a : Addr) (ns : List Int) (k : Int), vs = [.ref a, .int k] ∧ SqL K H a (ns.map V.int) ∧ 0 ≤ k ∧ ∀ H' S, Same H H' → H S = none → Sack3 H' S → Q (.ref S) H'
theorem ok__law_sack {f : Addr} {fd : FuncData} (F : Fun K "_law_sack" "_law_sack" st__law_sack f fd) (T : Txt K mg) : FnOk P w K mg base CX0 1 f fd ["script", "spot"] (spSack K) := by
  refine F.ok sc__law_sack (fun vs H Q E h => ?_) (fun cdv A outer s H vs Q E hr h => ?_)
  · obtain ⟨a, ns, m, rfl, _⟩ := h
    rfl
  · obtain ⟨a, ns, m, rfl, h, m0, k⟩ := h
    refine ⟨_, (pss_cons (ps_set (i := 2) sc__law_sack.nd rfl (Or.inl rfl) (pe_ifExp (pt_cmpR op_lt (pv 1) (pe_callB (kcall_len (K := K)) (by rfl) T.n_len bo_len (pa_cons (pv 0) pa_nil)) (nomark _)) (pe_callTy call_int1 (by rfl) T.n_int bo_int (pa_cons (pe_ix (kix_list (K := K)) (pv 0) (pv 1) (fun _ _ => rfl)) pa_nil)) (pe_op op_add (pe_op op_mul pe_int (pv 1)) pe_int))) (pss_cons (ps_set (i := 3) sc__law_sack.nd rfl (Or.inl rfl) (pe_op op_mod (pe_callTy call_int1 (by rfl) T.n_int bo_int (pa_cons (pe_callB call_abs (by rfl) T.n_abs bo_abs (pa_cons (pv 2) pa_nil)) pa_nil)) (pe_op op_powG (pe_op op_powG pe_int pe_int) pe_int))) (pss_one (ps_ret (pe_lst (pa_cons (pe_callB (call_max2 rfl) (by rfl) T.n_max bo_max (pa_cons pe_int (pa_cons (pe_op op_sub (pv 3) (pe_op op_powG pe_int pe_int)) pa_nil))) (pa_cons (pe_op op_add (pe_op op_add (pe_op op_add (pe_op op_mul (pe_op op_mod (pe_callTy call_int1 (by rfl) T.n_int bo_int (pa_cons (pv 3) pa_nil)) pe_int) pe_int) (pe_op op_mul pe_int (pv 1))) (pe_op op_mul pe_int (pe_callTy call_int1 (by rfl) T.n_int bo_int (pa_cons (pe_cmpR op_lt (pv 2) pe_int (nomark _)) pa_nil)))) pe_int) (pa_cons pe_int pa_nil)))))))), ?_⟩
    refine ⟨.int m, rfl, .ref a, rfl, a, _, rfl, .inl h, _, _, rfl, rfl, _, rfl, ite2 (fun h1 => ?_) fun h1 => ?_⟩
    · have h1 : m < ((ns.map V.int).length : Nat) := of_decide_eq_true h1
      rw [List.length_map] at h1
      refine ⟨.ref a, rfl, .int m, rfl, a, _, _, _, rfl, rfl, h, at_int (j := m.toNat) (by omega) (by omega), .inl ⟨_, rfl, ?_⟩⟩
      generalize ns.getD m.toNat 0 = cell
      refine ⟨.int cell, rfl, cell, rfl, .inl ⟨_, rfl, _, _, rfl, rfl, ⟨by decide, by decide +kernel⟩, _, _, rfl, rfl, ⟨by decide, by decide +kernel⟩, _, _, rfl, rfl, (by show (0 : Int) < ((10 : Int) ^ (57 : Int).toNat) ^ (6 : Int).toNat; decide +kernel), ?_⟩⟩
      refine ⟨_, rfl, _, _, rfl, rfl, ⟨by decide, by decide +kernel⟩, _, _, rfl, rfl, _, _, rfl, ?_⟩
      refine ⟨_, rfl, .inl ⟨_, rfl, _, _, rfl, rfl, (by show (0 : Int) < 2147483477; decide), _, _, rfl, rfl, .inr ⟨by decide, by decide⟩, .int m, rfl, _, _, rfl, rfl, .inl ⟨by decide, by decide⟩, _, _, rfl, rfl, .int cell, rfl, _, _, rfl, rfl, .inr ⟨_, rfl, _, _, rfl, rfl, .inl ⟨by decide, by decide⟩, _, _, rfl, rfl, _, _, rfl, rfl, ?_⟩⟩⟩
      refine ⟨by show 3 ≤ sizeLine; decide, fun S hS => k _ _ (new_same hS) hS ⟨_, _, _, upd_same⟩⟩
    · refine ⟨.int m, rfl, _, _, rfl, rfl, .inl ⟨by decide, by decide⟩, _, _, rfl, rfl, ?_⟩
      refine ⟨_, rfl, _, rfl, .inl ⟨_, rfl, _, _, rfl, rfl, ⟨by decide, by decide +kernel⟩, _, _, rfl, rfl, ⟨by decide, by decide +kernel⟩, _, _, rfl, rfl, (by show (0 : Int) < ((10 : Int) ^ (57 : Int).toNat) ^ (6 : Int).toNat; decide +kernel), ?_⟩⟩
      refine ⟨_, rfl, _, _, rfl, rfl, ⟨by decide, by decide +kernel⟩, _, _, rfl, rfl, _, _, rfl, ?_⟩
      refine ⟨_, rfl, .inl ⟨_, rfl, _, _, rfl, rfl, (by show (0 : Int) < 2147483477; decide), _, _, rfl, rfl, .inr ⟨by decide, by decide⟩, .int m, rfl, _, _, rfl, rfl, .inl ⟨by decide, by decide⟩, _, _, rfl, rfl, _, rfl, _, _, rfl, rfl, .inr ⟨_, rfl, _, _, rfl, rfl, .inl ⟨by decide, by decide⟩, _, _, rfl, rfl, _, _, rfl, rfl, ?_⟩⟩⟩
      refine ⟨by show 3 ≤ sizeLine; decide, fun S hS => k _ _ (new_same hS) hS ⟨_, _, _, upd_same⟩⟩
theorem cl__law_sack (T : Txt K mg) : Cl P w K mg base 1 "_law_sack" (spSack K) := by
  obtain ⟨f, fd, F, hm, hb⟩ := T.f__law_sack
  exact cl_of (ok__law_sack F T) hm F.kp hb
def spDrawn : Sp := fun vs H Q _ => ∃ (S : Addr) (t : Int), vs = [.ref S, .int t] ∧ Sk H (some S) ∧ 0 < t ∧ t < 10 ^ 60 ∧ ∀ H' (r : Int), Rs (some S) H H' → 0 ≤ r → r < t → Q (.int r) H'
theorem rs_put {H H1 : Hp} {S : Addr} {x y z : Int} (r : Rs (some S) H H1) : Rs (some S) H (upd H1 S (.lst [.int x, .int y, .int z])) := ⟨r.s0, ⟨x, y, z, upd_same⟩, fun a o n e => by
  rw [upd_ne (fun q => n (by rw [q]))]
  exact r.keep a o n e⟩
theorem ok__law_drawn {f : Addr} {fd : FuncData} (F : Fun K "_law_drawn" "_law_drawn" st__law_drawn f fd) (T : Txt K mg) : FnOk P w K mg base CX0 1 f fd ["sack", "total"] spDrawn := by
  refine F.ok sc__law_drawn (fun vs H Q E h => ?_) (fun cdv A outer s H vs Q E hr h => ?_)
  · obtain ⟨S, t, rfl, _⟩ := h
    rfl
  · obtain ⟨S, t, rfl, hS, t0, t1, k⟩ := h
    have r0 : Rs (some S) H H := .of hS
    obtain ⟨a, b, c, e⟩ := hS
    have md : ∀ i : Int, 0 ≤ i % t ∧ i % t < t := fun i => ⟨Int.emod_nonneg _ (by omega), Int.emod_lt_of_pos _ t0⟩
    refine ⟨_, (pss_cons (ps_if (pt_cmpR op_gt (pe_ix (kix_list (K := K)) (pv 0) pe_int (fun _ _ => rfl)) pe_int (nomark _)) (pss_cons (ps_set (i := 2) sc__law_drawn.nd rfl (Or.inl rfl) (pe_op op_mod (pe_callTy call_int1 (by rfl) T.n_int bo_int (pa_cons (pe_ix (kix_list (K := K)) (pv 0) pe_int (fun _ _ => rfl)) pa_nil)) (pv 1))) (pss_cons (ps_asg (pe_op op_fdivW (pe_ix (kix_list (K := K)) (pv 0) pe_int (fun _ _ => rfl)) (pv 1)) (pg_sub (pv 0) pe_int set_list)) (pss_one (ps_ret (pv 2))))) pss_nil) (pss_cons (ps_asg (pe_op op_add (pe_ix (kix_list (K := K)) (pv 0) pe_int (fun _ _ => rfl)) pe_int) (pg_sub (pv 0) pe_int set_list)) (pss_cons (ps_set (i := 3) sc__law_drawn.nd rfl (Or.inl rfl) (pe_op op_mod (pe_callTy call_int1 (by rfl) T.n_int bo_int (pa_cons (pe_op op_add (pe_ix (kix_list (K := K)) (pv 0) pe_int (fun _ _ => rfl)) (pe_op op_mul pe_int (pe_ix (kix_list (K := K)) (pv 0) pe_int (fun _ _ => rfl)))) pa_nil)) pe_int)) (pss_cons (ps_set (i := 4) sc__law_drawn.nd rfl (Or.inl rfl) (pe_op op_add (pe_op op_mul (pe_op op_mod (pe_callTy call_int1 (by rfl) T.n_int bo_int (pa_cons (pe_op op_add (pe_op op_mul (pv 3) (pv 3)) (pe_op op_mul pe_int (pe_ix (kix_list (K := K)) (pv 0) pe_int (fun _ _ => rfl)))) pa_nil)) pe_int) pe_int) (pv 3))) (pss_one (ps_ret (pe_op op_mod (pe_callTy call_int1 (by rfl) T.n_int bo_int (pa_cons (pe_op op_fdivW (pv 4) pe_int) pa_nil)) (pv 1)))))))), ?_⟩
    refine ⟨.ref S, rfl, S, _, 0, .int a, rfl, rfl, lst_of e, rfl, _, _, rfl, rfl, _, rfl, ite2 (fun h1 => ?_) fun h1 => ?_⟩
    · refine ⟨.ref S, rfl, S, _, 0, .int a, rfl, rfl, lst_of e, rfl, .inl ⟨a, rfl, .int t, rfl, _, _, rfl, rfl, t0, ?_⟩⟩
      refine ⟨.ref S, rfl, S, _, 0, .int a, rfl, rfl, lst_of e, rfl, .int t, rfl, _, _, rfl, rfl, wide_div (b := 200) t0 (by omega) (by decide) (by decide), ?_⟩
      refine ⟨.ref S, rfl, S, _, 0, 0, rfl, rfl, e, rfl, ?_⟩
      exact ⟨.int (a % t), rfl, k _ _ (rs_put r0) (md a).1 (md a).2⟩
    · refine ⟨.ref S, rfl, S, _, 2, .int c, rfl, rfl, lst_of e, rfl, _, _, rfl, rfl, .ref S, rfl, S, _, 2, 2, rfl, rfl, e, rfl, ?_⟩
      refine ⟨.ref S, rfl, S, _, 1, .int b, rfl, rfl, lst_of upd_same, rfl, .ref S, rfl, S, _, 2, .int (c + 1), rfl, rfl, lst_of upd_same, rfl, _, _, rfl, rfl, .inl ⟨by decide, by decide⟩, _, _, rfl, rfl, .inl ⟨_, rfl, _, _, rfl, rfl, (by show (0 : Int) < 2305843009213693951; decide), ?_⟩⟩
      have o1 : ∀ i : Int, 0 ≤ i % 2305843009213693951 ∧ i % 2305843009213693951 < 2305843009213693951 := fun i => ⟨Int.emod_nonneg _ (by omega), Int.emod_lt_of_pos _ (by omega)⟩
      have cm : ∀ i j : Int, CMul (i % 2305843009213693951) j := fun i j => .inl ⟨by have := o1 i; omega, by have := o1 i; omega⟩
      refine ⟨_, rfl, _, rfl, _, _, rfl, rfl, cm _ _, .ref S, rfl, S, _, 2, .int (c + 1), rfl, rfl, lst_of upd_same, rfl, _, _, rfl, rfl, .inl ⟨by decide, by decide⟩, _, _, rfl, rfl, .inl ⟨_, rfl, _, _, rfl, rfl, (by show (0 : Int) < 2305843009213693951; decide), _, _, rfl, rfl, .inr ⟨by decide, by decide⟩, _, rfl, _, _, rfl, rfl, ?_⟩⟩
      refine ⟨_, rfl, _, _, rfl, rfl, ⟨by decide, by decide +kernel⟩, .inl ⟨_, rfl, .int t, rfl, _, _, rfl, rfl, t0, ?_⟩⟩
      exact k _ _ (rs_put r0) (md _).1 (md _).2
theorem cl__law_drawn (T : Txt K mg) : Cl P w K mg base 1 "_law_drawn" spDrawn := by
  obtain ⟨f, fd, F, hm, hb⟩ := T.f__law_drawn
  exact cl_of (ok__law_drawn F T) hm F.kp hb
def spLCore (K : PySem.W.Frag) : Sp := fun vs H Q _ => ∃ (n : Int) (a : Addr) (ns : List Int), vs = [.ref a] ∧ SqT K H a (ns.map V.int) ∧ Wd n ns ∧ ns.length ≤ 1000 ∧ ∀ H' p c m, Same H H' → Rg.Spl ns c m → SqT K H' p (m.map V.int) → Q (.ref p) H'
def Stp (m : List Int) : Prop := ∀ t q, m = (-q) :: (t ++ [q]) → False
theorem cutI_in (p q : Int) (t : List Int) : cutI (p :: (t ++ [q])) (some 1) (some (-1)) = t := by
  unfold cutI
  have e1 : HT.sIx (p :: (t ++ [q])).length 0 (some 1) = 1 := by
    rw [show (some (1 : Int)) = some ((1 : Nat) : Int) from rfl, HT.sIx_nat]
    simp
  have e2 : HT.sIx (p :: (t ++ [q])).length (p :: (t ++ [q])).length (some (-1)) = t.length + 1 := by
    show (if (-1 : Int) < 0 then ((-1 : Int) + ((p :: (t ++ [q])).length : Int)).toNat else min (-1 : Int).toNat (p :: (t ++ [q])).length) = _
    rw [if_pos (by decide)]
    simp only [List.length_cons, List.length_append, List.length_nil]
    omega
  rw [e1, e2]
  show ((t ++ [q]).take (t.length + 1 - 1)) = t
  rw [Nat.add_sub_cancel, List.take_left]
theorem spl_stp {n : Int} {ns c m : List Int} (hw : Wd n ns) (s : ns = c ++ m ++ Fr.opp c) (h : Stp m) : Rg.Spl ns c m := by
  have nf : Fr.Nf (c ++ m ++ Fr.opp c) := s ▸ hw.nf
  refine ⟨s, fun q => ?_, fun q => ⟨fun e => ?_, fun x y hx hy e => ?_⟩⟩
  · rw [q] at s
    have := congrArg List.length s
    simp only [List.length_append, List.length_nil] at this
    exact ⟨List.eq_nil_of_length_eq_zero (by omega), List.eq_nil_of_length_eq_zero (by omega)⟩
  · subst e
    by_cases hc : c = []
    · subst hc; exact q s
    · obtain ⟨t, z, rfl⟩ := Rg.snoc_of hc
      rw [List.append_nil] at nf
      exact Rg.nf_jn nf (Rg.last_snoc t z) (by rw [Fr.opp_app]; rfl) (by omega : z = - -z)
  · cases m with
    | nil => cases hy
    | cons p u =>
      cases hy
      by_cases hu : u = []
      · subst hu
        have hx : y = x := Option.some.inj hx
        have := (hw.lt y (by rw [s]; simp)).1
        omega
      · obtain ⟨t, z, rfl⟩ := Rg.snoc_of hu
        rw [← List.cons_append, Rg.last_snoc] at hx
        cases hx
        exact h t x (by rw [show y = -x by omega])
theorem ok__law_core {f : Addr} {fd : FuncData} (F : Fun K "_law_core" "_law_core" st__law_core f fd) (T : Txt K mg) : FnOk P w K mg base CX0 1 f fd ["word"] (spLCore K) := by
  refine F.ok sc__law_core (fun vs H Q E h => ?_) (fun cdv A outer s H vs Q E hr h => ?_)
  · obtain ⟨n, a, ns, rfl, _⟩ := h
    rfl
  · obtain ⟨n, a, ns, rfl, h, hw, hz, k⟩ := h
    refine ⟨_, (pss_cons (ps_set (i := 1) sc__law_core.nd rfl (Or.inl rfl) (pv 0)) (pss_cons (ps_for PassesOwn.never rfl (pi_range1 rfl T.n_range (pa_cons (pe_callB (kcall_len (K := K)) (by rfl) T.n_len bo_len (pa_cons (pv 0) pa_nil)) pa_nil)) (pg_name (i := 2) sc__law_core.nd rfl (Or.inl rfl)) (pss_one (ps_if (PW.pt (pw_and (pt_cmpR op_gt (pe_callB (kcall_len (K := K)) (by rfl) T.n_len bo_len (pa_cons (pv 1) pa_nil)) pe_int (nomark _)) (pw_and1 (pt_cmpR op_eq (pe_ix (kix_tup (K := K)) (pv 1) pe_int (fun _ _ => rfl)) (pe_op op_sub pe_int (pe_ix (kix_tup (K := K)) (pv 1) (pe_un un_neg pe_int) (fun _ _ => rfl))) (nomark _))))) (pss_one (ps_set (i := 1) sc__law_core.nd rfl (Or.inl rfl) (pe_slice (ksl_tupA (K := K)) (pv 1) (po_some pe_int) (po_some (pe_un un_neg pe_int))))) pss_nil))) (pss_one (ps_ret (pv 1))))), ?_⟩
    refine ⟨.ref a, rfl, .ref a, rfl, a, _, rfl, .inr h, ?_⟩
    rw [List.length_map]
    refine ⟨_, rfl, by omega, by omega, for_range (lo := 0) (n := ns.length) (fun i σ H' => Same H H' ∧ ∃ (g : Addr) (c m : List Int) (x : Option V), SqT K H' g (m.map V.int) ∧ ns = c ++ m ++ Fr.opp c ∧ (c.length = i ∨ Stp m) ∧ σ = [some (.ref a), some (.ref g), x]) ⟨Same.refl _, a, [], ns, none, h, by simp [Fr.opp], .inl rfl, rfl⟩ (fun i σ H' hi p => ?_) fun σ H' p => ?_⟩
    · obtain ⟨e1, g, c, m, x, hg, hs, hd, rfl⟩ := p
      refine ⟨.ref g, rfl, g, _, rfl, .inr hg, _, _, rfl, rfl, _, rfl, ite2 (fun h1 => ?_) fun h1 => ?_⟩
      · have h1 : 1 < m.length := by have := of_decide_eq_true h1; rw [List.length_map] at this; omega
        obtain ⟨p, t, q, rfl⟩ : ∃ p t q, m = p :: (t ++ [q]) := by
          cases m with
          | nil => simp at h1
          | cons p u =>
            obtain ⟨t, q, rfl⟩ := Rg.snoc_of (m := u) (fun e => by subst e; simp at h1)
            exact ⟨p, t, q, rfl⟩
        refine ⟨.ref g, rfl, g, _, 0, .int p, rfl, rfl, hg, atI_nat (j := 0) rfl, .ref g, rfl, 1, rfl, g, _, _, .int q, rfl, rfl, hg, by rw [← List.cons_append, List.map_append]; exact atI_last _ _, _, _, rfl, rfl, rfl, _, rfl, ?_⟩
        rw [dec_int]
        refine ite2 (fun h2 => ?_) fun h2 => ?_
        · have h2 : p = 0 - q := of_decide_eq_true h2
          have hp : p = -q := by omega
          subst hp
          have hc : c.length = i := hd.elim id fun z => (z t q rfl).elim
          refine ⟨.ref g, rfl, 1, rfl, 1, rfl, _, rfl, sl_ints hg fun H2 p2 e2 hp2 => ?_⟩
          refine ⟨Same.trans e1 e2, p2, c ++ [-q], t, some (.int (0 + i)), ?_, ?_, .inl (by rw [List.length_append, hc]; rfl), rfl⟩
          · exact (cutI_in (-q) q t) ▸ hp2
          · rw [hs, Fr.opp_app]
            show c ++ -q :: (t ++ [q]) ++ Fr.opp c = c ++ [-q] ++ t ++ ([- -q] ++ Fr.opp c)
            rw [Int.neg_neg]
            simp [List.append_assoc]
        · have h2 : ¬ p = -q := fun z => h2 (decide_eq_true (by omega))
          refine ⟨e1, g, c, p :: (t ++ [q]), some (.int (0 + i)), hg, hs, .inr fun t' q' z => ?_, rfl⟩
          injection z with z1 z2
          have := congrArg List.getLast? z2
          rw [Rg.last_snoc, Rg.last_snoc] at this
          injection this with this
          exact h2 (by rw [z1, this])
      · have h1 : ¬ 1 < m.length := fun z => h1 (decide_eq_true (by rw [List.length_map]; omega))
        refine ⟨e1, g, c, m, some (.int (0 + i)), hg, hs, .inr fun t q z => ?_, rfl⟩
        rw [z] at h1
        simp at h1
    · obtain ⟨e1, g, c, m, x, hg, hs, hd, rfl⟩ := p
      refine ⟨.ref g, rfl, k _ _ c m e1 ?_ hg⟩
      refine spl_stp hw hs ?_
      rcases hd with q | q
      · have := congrArg List.length hs
        rw [List.length_append, List.length_append, Fr.opp_len] at this
        have e : m = [] := List.eq_nil_of_length_eq_zero (by omega)
        subst e
        intro t q z
        cases z
      · exact q
theorem cl__law_core (T : Txt K mg) : Cl P w K mg base 1 "_law_core" (spLCore K) := by
  obtain ⟨f, fd, F, hm, hb⟩ := T.f__law_core
  exact cl_of (ok__law_core F T) hm F.kp hb
theorem tup_mut {H : Hp} {D a : Addr} {ys xs : List V} {o : HO} (d : H D = some (.lst ys)) (h : SqT K H a xs) : SqT K (upd H D o) a xs := by
  have ne : ∀ {u : HO}, H a = some u → (∀ ys, u ≠ .lst ys) → upd H D o a = some u := fun h hn => by
    rw [upd_ne (fun q => by rw [q, d] at h; cases h; exact hn _ rfl)]
    exact h
  rcases h with (h | ⟨u, h⟩) | h
  · exact .inl (.inl (ne h fun _ q => nomatch q))
  · exact .inl (.inr ⟨u, ne h fun _ q => nomatch q⟩)
  · exact .inr h
theorem dpall_of {H : Hp} : ∀ {ps : List Addr} {ts : List (List Int)}, ps.length = ts.length → (∀ (j : Nat) (p : Addr) (t : List Int), ps[j]? = some p → ts[j]? = some t → SqT K H p (t.map V.int)) → DpAll K H (ps.map V.ref) (ts.map tupD)
  | [], [], _, _ => .nil
  | [], _ :: _, h, _ => nomatch h
  | _ :: _, [], h, _ => nomatch h
  | p :: ps, t :: ts, h, q => .cons (dp_tup (q 0 p t rfl rfl)) (dpall_of (by simpa using h) fun j p t hp ht => q (j + 1) p t hp ht)
def spLRing (K : PySem.W.Frag) : Sp := fun vs H Q _ => ∃ (n : Int) (a : Addr) (ns : List Int), vs = [.ref a] ∧ SqT K H a (ns.map V.int) ∧ Wd n ns ∧ ns.length ≤ 1000 ∧ ∀ H' p r, Same H H' → Rg.RingW ns r → SqT K H' p (r.map V.int) → Q (.ref p) H'
theorem ok__law_ring {f : Addr} {fd : FuncData} (F : Fun K "_law_ring" "_law_ring" st__law_ring f fd) (T : Txt K mg) : FnOk P w K mg base CX0 2 f fd ["word"] (spLRing K) := by
  have c__law_core : Cl P w K mg base 1 "_law_core" (spLCore K) := cl__law_core T
  refine F.ok sc__law_ring (fun vs H Q E h => ?_) (fun cdv A outer s H vs Q E hr h => ?_)
  · obtain ⟨n, a, ns, rfl, _⟩ := h
    rfl
  · obtain ⟨n, a, ns, rfl, h, hw, hz, k⟩ := h
    refine ⟨_, (pss_cons (ps_set (i := 1) sc__law_ring.nd rfl (Or.inr rfl) (pe_f c__law_core hr (by decide) rfl (pa_cons (pv 0) pa_nil))) (pss_one (ps_ret (pe_callB (kcr_minT (K := K) rfl hr.units) (by rfl) T.n_min bo_min (pa_cons (pe_lc (own := [("at", 2)]) rfl sc__law_ring.nd (pi_range1 rfl T.n_range (pa_cons (pe_callB (call_max2 rfl) (by rfl) T.n_max bo_max (pa_cons pe_int (pa_cons (pe_callB (kcall_len (K := K)) (by rfl) T.n_len bo_len (pa_cons (pv 1) pa_nil)) pa_nil))) pa_nil)) (blkOk_by (N := nm__law_ring) (sc := defScope st__law_ring) (by decide +kernel)) (fun _ _ _ _ _ => (pg_name (i := 2) sc__law_ring.nd rfl (by first | exact Or.inl rfl | exact Or.inr rfl))) (fun _ _ _ _ _ => pts_nil) (fun _ _ _ _ _ => (pe_op (kop_catA (K := K)) (pe_slice (ksl_tupA (K := K)) (pv 1) (po_some (pv 2)) po_none) (pe_slice (ksl_tupA (K := K)) (pv 1) po_none (po_some (pv 2)))))) pa_nil))))), ?_⟩
    refine ⟨.ref a, rfl, n, a, ns, rfl, h, hw, hz, fun H1 g c m e1 hs hg => ?_⟩
    refine ⟨.ref g, rfl, g, _, rfl, .inr hg, _, _, rfl, ?_⟩
    have em : (if ((m.length : Nat) : Int) > 1 then ((m.length : Nat) : Int) else 1) = ((max 1 m.length : Nat) : Int) := by split <;> omega
    have hl := congrArg List.length hs.1
    rw [List.length_append, List.length_append, Fr.opp_len] at hl
    refine ⟨((max 1 m.length : Nat) : Int), by rw [List.length_map, ← em], by omega, by omega, fun D hD => lc_range (lo := 0) (n := max 1 m.length) (fun i H' => Same H1 H' ∧ ∃ ps : List Addr, H' D = some (.lst (ps.map V.ref)) ∧ ps.length = i ∧ ∀ j p, ps[j]? = some p → SqT K H' p ((Rg.rot m j).map V.int)) ⟨new_same hD, [], upd_same, rfl, fun j p z => nomatch z⟩ (fun i H' hi p => ?_) fun H' p => ?_⟩
    · obtain ⟨e2, ps, d2, pl, hp⟩ := p
      refine ⟨rfl, ?_⟩
      refine ⟨.ref g, rfl, .int (0 + i), rfl, _, rfl, nopart (sl_ints (same_tup e2 hg) fun H3 p3 e3 h3 => ⟨.ref g, rfl, nopart ⟨.int (0 + i), rfl, _, rfl, sl_ints (same_tup (Same.trans e2 e3) hg) fun H4 p4 e4 h4 => ?_⟩⟩)⟩
      rw [Int.zero_add, cutI_from] at h3
      rw [Int.zero_add, cutI_to] at h4
      refine cat_ints (same_tup e4 h3) h4 (by rw [List.length_drop, List.length_take]; omega) fun H5 p5 e5 h5 => ?_
      have e25 := Same.trans (Same.trans e3 e4) e5
      have h5 : SqT K H5 p5 ((Rg.rot m i).map V.int) := h5
      have d5 := e25 _ _ d2
      refine ⟨_, d5, small1000 (by rw [List.length_map]; omega), same_mut (Same.trans e2 e25) hD, ps ++ [p5], by rw [upd_same, List.map_append]; rfl, by rw [List.length_append, pl]; rfl, fun j p z => ?_⟩
      refine tup_mut d5 ?_
      by_cases hj : j < ps.length
      · rw [List.getElem?_append_left hj] at z
        exact same_tup e25 (hp j p z)
      · rw [List.getElem?_append_right (by omega)] at z
        cases q : j - ps.length with
        | zero =>
          rw [q] at z
          cases z
          have : j = i := by omega
          subst this
          exact h5
        | succ u => rw [q] at z; cases z
    · obtain ⟨e2, ps, d2, pl, hp⟩ := p
      have lt : ((List.range (max 1 m.length)).map (Rg.rot m)).length = max 1 m.length := by rw [List.length_map, List.length_range]
      have at_ : ∀ j, j < max 1 m.length → ((List.range (max 1 m.length)).map (Rg.rot m))[j]? = some (Rg.rot m j) := fun j hj => by
        rw [List.getElem?_map, List.getElem?_range hj]
        rfl
      refine ⟨D, ps.map V.ref, (List.range (max 1 m.length)).map (Rg.rot m), rfl, lst_of d2, dpall_of (by rw [lt, pl]) fun j p t hj ht => ?_, by rw [lt]; omega, fun i v u hv hu hmin => ?_⟩
      · have hjl : j < max 1 m.length := by
          have := (List.getElem?_eq_some_iff.mp hj).1
          omega
        rw [at_ j hjl] at ht
        cases ht
        exact hp j p hj
      · have hil : i < max 1 m.length := by
          have := (List.getElem?_eq_some_iff.mp hu).1
          omega
        rw [at_ i hil] at hu
        cases hu
        rw [List.getElem?_map] at hv
        cases q : ps[i]? with
        | none => rw [q] at hv; cases hv
        | some p =>
          rw [q] at hv
          cases hv
          have hr : Rg.Ring m (Rg.rot m i) := by
            by_cases hm : m.length = 0
            · have e0 : m = [] := List.eq_nil_of_length_eq_zero hm
              subst e0
              have : i = 0 := by simp at hil; omega
              subst this
              exact Rg.ring_nil
            · refine Rg.ring_rot (by omega) (Rg.least_lex (by omega) fun t ht => hmin _ ?_)
              exact List.mem_map.mpr ⟨t, List.mem_range.mpr (by omega), rfl⟩
          exact k _ _ _ (Same.trans e1 e2) ⟨c, m, hs, hr⟩ (hp i p q)
theorem cl__law_ring (T : Txt K mg) : Cl P w K mg base 2 "_law_ring" (spLRing K) := by
  obtain ⟨f, fd, F, hm, hb⟩ := T.f__law_ring
  exact cl_of (ok__law_ring F T) hm F.kp hb
def spPowN : Sp := fun vs H Q _ => ∃ (b : Int) (k : Nat), vs = [.int b, .int (k : Int)] ∧ -100 ≤ b ∧ b ≤ 100 ∧ k ≤ 300 ∧ Q (.int (b ^ k)) H
theorem ok_integer_power {f : Addr} {fd : FuncData} (F : Fun K "integer_power" "integer_power" st_integer_power f fd) (T : Txt K mg) : FnOk P w K mg base CX0 1 f fd ["base", "many"] spPowN := by
  refine F.ok sc_integer_power (fun vs H Q E h => ?_) (fun cdv A outer s H vs Q E hr h => ?_)
  · obtain ⟨b, k, rfl, _⟩ := h
    rfl
  · obtain ⟨b, k, rfl, b1, b2, hk, q⟩ := h
    refine ⟨_, (pss_cons (ps_set (i := 2) sc_integer_power.nd rfl (Or.inl rfl) pe_int) (pss_cons (ps_for PassesOwn.never rfl (pi_range1 rfl T.n_range (pa_cons (pv 1) pa_nil)) (pg_name (i := 3) sc_integer_power.nd rfl (Or.inl rfl)) (pss_one (ps_set (i := 2) sc_integer_power.nd rfl (Or.inl rfl) (pe_op op_mul (pv 2) (pv 0))))) (pss_one (ps_ret (pv 2))))), ?_⟩
    refine ⟨.int (k : Int), rfl, _, rfl, by omega, by omega, for_range (lo := 0) (n := k) (fun i σ H' => H' = H ∧ ∃ x, σ = [some (.int b), some (.int (k : Int)), some (.int (b ^ i)), x]) ⟨rfl, none, by rw [Int.pow_zero]; rfl⟩ (fun i σ H' hi p => ?_) fun σ H' p => ?_⟩
    · obtain ⟨rfl, x, rfl⟩ := p
      refine ⟨.int (b ^ i), rfl, .int b, rfl, _, _, rfl, rfl, .inr ⟨by omega, by omega⟩, rfl, some (.int (0 + i)), ?_⟩
      rw [Int.pow_succ]
      rfl
    · obtain ⟨rfl, x, rfl⟩ := p
      exact ⟨_, rfl, q⟩
theorem cl_integer_power (T : Txt K mg) : Cl P w K mg base 1 "integer_power" spPowN := by
  obtain ⟨f, fd, F, hm, hb⟩ := T.f_integer_power
  exact cl_of (ok_integer_power F T) hm F.kp hb
theorem ok__law_raised {f : Addr} {fd : FuncData} (F : Fun K "_law_raised" "_law_raised" st__law_raised f fd) (T : Txt K mg) : FnOk P w K mg base CX0 1 f fd ["base", "many"] spPowN := by
  refine F.ok sc__law_raised (fun vs H Q E h => ?_) (fun cdv A outer s H vs Q E hr h => ?_)
  · obtain ⟨b, k, rfl, _⟩ := h
    rfl
  · obtain ⟨b, k, rfl, b1, b2, hk, q⟩ := h
    refine ⟨_, (pss_cons (ps_set (i := 2) sc__law_raised.nd rfl (Or.inl rfl) pe_int) (pss_cons (ps_for PassesOwn.never rfl (pi_range1 rfl T.n_range (pa_cons (pv 1) pa_nil)) (pg_name (i := 3) sc__law_raised.nd rfl (Or.inl rfl)) (pss_one (ps_set (i := 2) sc__law_raised.nd rfl (Or.inl rfl) (pe_op op_mul (pv 2) (pv 0))))) (pss_one (ps_ret (pv 2))))), ?_⟩
    refine ⟨.int (k : Int), rfl, _, rfl, by omega, by omega, for_range (lo := 0) (n := k) (fun i σ H' => H' = H ∧ ∃ x, σ = [some (.int b), some (.int (k : Int)), some (.int (b ^ i)), x]) ⟨rfl, none, by rw [Int.pow_zero]; rfl⟩ (fun i σ H' hi p => ?_) fun σ H' p => ?_⟩
    · obtain ⟨rfl, x, rfl⟩ := p
      refine ⟨.int (b ^ i), rfl, .int b, rfl, _, _, rfl, rfl, .inr ⟨by omega, by omega⟩, rfl, some (.int (0 + i)), ?_⟩
      rw [Int.pow_succ]
      rfl
    · obtain ⟨rfl, x, rfl⟩ := p
      exact ⟨_, rfl, q⟩
theorem cl__law_raised (T : Txt K mg) : Cl P w K mg base 1 "_law_raised" spPowN := by
  obtain ⟨f, fd, F, hm, hb⟩ := T.f__law_raised
  exact cl_of (ok__law_raised F T) hm F.kp hb
def spCores : Sp := fun vs H Q _ => ∃ (n k : Nat), vs = [.int (n : Int), .int (k : Int)] ∧ n ≤ 5 ∧ k ≤ 300 ∧ Q (.int (Rg.coreC n k)) H
theorem even_int (k : Nat) : ((k : Int) % 2 == 0) = decide (k % 2 = 0) := by
  rw [Bool.eq_iff_iff, beq_iff_eq, decide_eq_true_iff]
  omega
theorem ok_core_number {f : Addr} {fd : FuncData} (F : Fun K "core_number" "core_number" st_core_number f fd) (T : Txt K mg) : FnOk P w K mg base CX0 2 f fd ["letters", "length"] spCores := by
  have c_integer_power : Cl P w K mg base 1 "integer_power" spPowN := cl_integer_power T
  refine F.ok sc_core_number (fun vs H Q E h => ?_) (fun cdv A outer s H vs Q E hr h => ?_)
  · obtain ⟨n, k, rfl, _⟩ := h
    rfl
  · obtain ⟨n, k, rfl, hn, hk, q⟩ := h
    refine ⟨_, (pss_cons (ps_set (i := 2) sc_core_number.nd rfl (Or.inl rfl) (pe_ifExp (pt_cmpR op_eq (pe_op op_mod (pv 1) pe_int) pe_int (nomark _)) pe_int pe_int)) (pss_one (ps_ret (pe_op op_add (pe_op op_add (pe_f c_integer_power hr (by decide) rfl (pa_cons (pe_op op_sub (pe_op op_mul pe_int (pv 0)) pe_int) (pa_cons (pv 1) pa_nil))) pe_int) (pe_op op_mul (pe_op op_sub (pv 0) pe_int) (pv 2)))))), ?_⟩
    have fin : ∀ (z : Int), z = (if k % 2 = 0 then 2 else 0) → (tRet (tOp (rI0 fun i j => V.int (i + j)) (tOp (rI0 fun i j => V.int (i + j)) (tFn spPowN (tCons (tOp (rI0 fun i j => V.int (i - j)) (tOp (rI CMul fun i j => V.int (i * j)) (tC (.int 2)) (tVar 0)) (tC (.int 1))) (tCons (tVar 1) tNil))) (tC (.int 1))) (tOp (rI CMul fun i j => V.int (i * j)) (tOp (rI0 fun i j => V.int (i - j)) (tVar 0) (tC (.int 1))) (tVar 2)))) { nx := fun _ H' => Q .non H', rt := Q } [some (.int (n : Int)), some (.int (k : Int)), some (.int z)] H := fun z hz => by
      refine ⟨.int (n : Int), rfl, _, _, rfl, rfl, .inl ⟨by decide, by decide⟩, _, _, rfl, rfl, .int (k : Int), rfl, _, k, rfl, by omega, by omega, hk, _, _, rfl, rfl, .int (n : Int), rfl, _, _, rfl, rfl, .int z, rfl, _, _, rfl, rfl, .inl ⟨by omega, by omega⟩, _, _, rfl, rfl, ?_⟩
      subst hz
      exact q
    refine ⟨.int (k : Int), rfl, _, _, rfl, rfl, by show (0 : Int) < 2; decide, rfl, _, rfl, ?_⟩
    rw [dec_int, even_int]
    refine ite2 (fun h1 => ?_) fun h1 => ?_
    · exact fin 2 (by rw [if_pos (of_decide_eq_true h1)])
    · exact fin 0 (by rw [if_neg (fun z => h1 (decide_eq_true z))])
theorem cl_core_number (T : Txt K mg) : Cl P w K mg base 2 "core_number" spCores := by
  obtain ⟨f, fd, F, hm, hb⟩ := T.f_core_number
  exact cl_of (ok_core_number F T) hm F.kp hb
theorem ok__law_cores {f : Addr} {fd : FuncData} (F : Fun K "_law_cores" "_law_cores" st__law_cores f fd) (T : Txt K mg) : FnOk P w K mg base CX0 2 f fd ["letters", "length"] spCores := by
  have c__law_raised : Cl P w K mg base 1 "_law_raised" spPowN := cl__law_raised T
  refine F.ok sc__law_cores (fun vs H Q E h => ?_) (fun cdv A outer s H vs Q E hr h => ?_)
  · obtain ⟨n, k, rfl, _⟩ := h
    rfl
  · obtain ⟨n, k, rfl, hn, hk, q⟩ := h
    refine ⟨_, (pss_one (ps_ret (pe_op op_add (pe_op op_add (pe_f c__law_raised hr (by decide) rfl (pa_cons (pe_op op_sub (pe_op op_mul pe_int (pv 0)) pe_int) (pa_cons (pv 1) pa_nil))) pe_int) (pe_op op_mul (pe_op op_sub (pv 0) pe_int) (pe_ifExp (pt_cmpR op_eq (pe_op op_mod (pv 1) pe_int) pe_int (nomark _)) pe_int pe_int))))), ?_⟩
    refine ⟨.int (n : Int), rfl, _, _, rfl, rfl, .inl ⟨by decide, by decide⟩, _, _, rfl, rfl, .int (k : Int), rfl, _, k, rfl, by omega, by omega, hk, _, _, rfl, rfl, .int (n : Int), rfl, _, _, rfl, rfl, .int (k : Int), rfl, _, _, rfl, rfl, by show (0 : Int) < 2; decide, rfl, _, rfl, ?_⟩
    rw [dec_int, even_int]
    unfold Rg.coreC at q
    refine ite2 (fun h1 => ?_) fun h1 => ?_
    · rw [if_pos (of_decide_eq_true h1)] at q
      exact ⟨_, _, rfl, rfl, .inl ⟨by omega, by omega⟩, _, _, rfl, rfl, q⟩
    · rw [if_neg (fun z => h1 (decide_eq_true z))] at q
      exact ⟨_, _, rfl, rfl, .inl ⟨by omega, by omega⟩, _, _, rfl, rfl, q⟩
theorem cl__law_cores (T : Txt K mg) : Cl P w K mg base 2 "_law_cores" spCores := by
  obtain ⟨f, fd, F, hm, hb⟩ := T.f__law_cores
  exact cl_of (ok__law_cores F T) hm F.kp hb
def spGcd : Sp := fun vs H Q _ => ∃ (a b : Nat), vs = [.int (a : Int), .int (b : Int)] ∧ Q (.int ((Nat.gcd a b : Nat) : Int)) H
theorem ok__law_gcd {f : Addr} {fd : FuncData} (F : Fun K "_law_gcd" "_law_gcd" st__law_gcd f fd) (T : Txt K mg) : FnOk P w K mg base CX0 1 f fd ["one", "other"] spGcd := by
  refine F.ok sc__law_gcd (fun vs H Q E h => ?_) (fun cdv A outer s H vs Q E hr h => ?_)
  · obtain ⟨a, b, rfl, _⟩ := h
    rfl
  · obtain ⟨a, b, rfl, q⟩ := h
    refine ⟨_, (pss_cons (ps_par (i := 2) (j := 3) rfl sc__law_gcd.nd rfl rfl (by decide) rfl rfl (pa_cons (pv 0) (pa_cons (pv 1) pa_nil)) (by with_unfolding_all rfl)) (pss_cons (ps_while PassesOwn.never (pt_cmpR op_gt (pv 3) pe_int (nomark _)) (pss_one (ps_par (i := 2) (j := 3) rfl sc__law_gcd.nd rfl rfl (by decide) rfl rfl (pa_cons (pv 3) (pa_cons (pe_op op_mod (pe_callTy call_int1 (by rfl) T.n_int bo_int (pa_cons (pv 2) pa_nil)) (pv 3)) pa_nil)) (by with_unfolding_all rfl)))) (pss_one (ps_ret (pv 2))))), ?_⟩
    refine ⟨.int (a : Int), rfl, .int (b : Int), rfl, _, _, rfl, ?_⟩
    refine ⟨fun m σ H' => ∃ x y : Nat, m = y ∧ Nat.gcd x y = Nat.gcd a b ∧ H' = H ∧ σ = [some (.int (a : Int)), some (.int (b : Int)), some (.int (x : Int)), some (.int (y : Int))], ⟨_, a, b, rfl, rfl, rfl, rfl⟩, fun m σ H' w => ?_⟩
    obtain ⟨x, y, rfl, hg, rfl, rfl⟩ := w
    refine ⟨.int (m : Int), rfl, _, _, rfl, rfl, _, rfl, ite2 (fun h1 => ?_) fun h1 => ?_⟩
    · have h1 : 0 < m := by have := of_decide_eq_true h1; omega
      refine ⟨fun σ' H2 => H2 = H' ∧ σ' = [some (.int (a : Int)), some (.int (b : Int)), some (.int (m : Int)), some (.int ((x % m : Nat) : Int))], fun σ' H2 ⟨z1, z2⟩ => ⟨x % m, Nat.mod_lt _ h1, m, x % m, rfl, by rw [← hg, Nat.gcd_comm x m, Nat.gcd_rec m x, Nat.gcd_comm], z1, z2⟩, ?_⟩
      refine ⟨.int (m : Int), rfl, .int (x : Int), rfl, .inl ⟨_, rfl, .int (m : Int), rfl, _, _, rfl, rfl, by show (0 : Int) < (m : Int); omega, _, _, rfl, rfl, ?_⟩⟩
      show [some (V.int (a : Int)), some (V.int (b : Int)), some (V.int (m : Int)), some (V.int ((x : Int) % (m : Int)))] = _
      rw [show (x : Int) % (m : Int) = ((x % m : Nat) : Int) from (Int.natCast_emod _ _).symm]
    · have h1 : m = 0 := by
        refine Decidable.byContradiction fun z => h1 (decide_eq_true ?_)
        omega
      subst h1
      rw [Nat.gcd_zero_right] at hg
      rw [← hg] at q
      exact ⟨_, rfl, q⟩
theorem cl__law_gcd (T : Txt K mg) : Cl P w K mg base 1 "_law_gcd" spGcd := by
  obtain ⟨f, fd, F, hm, hb⟩ := T.f__law_gcd
  exact cl_of (ok__law_gcd F T) hm F.kp hb
theorem sum_range_succ (f : Nat → Int) (i : Nat) : ((List.range (i + 1)).map f).sum = ((List.range i).map f).sum + f i := by
  rw [List.range_succ, List.map_append, List.sum_append]
  show _ + (f i + 0) = _
  rw [Int.add_zero]
def spNumL : Sp := fun vs H Q _ => ∃ (n k : Nat), vs = [.int (n : Int), .int (k : Int)] ∧ n ≤ 5 ∧ 0 < k ∧ k ≤ 300 ∧ Q (.int (Rg.numL n k)) H
theorem small300 {d : Nat} (h : d ≤ 300) : ((d : Nat) : Int).natAbs < 2 ^ 200 := Nat.lt_of_le_of_lt h (by decide +kernel)
theorem ok__law_number {f : Addr} {fd : FuncData} (F : Fun K "_law_number" "_law_number" st__law_number f fd) (T : Txt K mg) : FnOk P w K mg base CX0 3 f fd ["letters", "length"] spNumL := by
  have c__law_cores : Cl P w K mg base 2 "_law_cores" spCores := cl__law_cores T
  have c__law_gcd : Cl P w K mg base 1 "_law_gcd" spGcd := cl__law_gcd T
  refine F.ok sc__law_number (fun vs H Q E h => ?_) (fun cdv A outer s H vs Q E hr h => ?_)
  · obtain ⟨n, k, rfl, _⟩ := h
    rfl
  · obtain ⟨n, k, rfl, hn, k0, hk, q⟩ := h
    let g : Nat → Int := fun i => Rg.coreC n (if i = 0 then k else Nat.gcd k i)
    refine ⟨_, (pss_cons (ps_set (i := 2) sc__law_number.nd rfl (Or.inl rfl) pe_int) (pss_cons (ps_for PassesOwn.never rfl (pi_range1 rfl T.n_range (pa_cons (pv 1) pa_nil)) (pg_name (i := 3) sc__law_number.nd rfl (Or.inl rfl)) (pss_one (ps_set (i := 2) sc__law_number.nd rfl (Or.inl rfl) (pe_op op_add (pv 2) (pe_f c__law_cores hr (by decide) rfl (pa_cons (pv 0) (pa_cons (pe_ifExp (pt_cmpR op_gt (pv 3) pe_int (nomark _)) (pe_f c__law_gcd hr (by decide) rfl (pa_cons (pv 1) (pa_cons (pv 3) pa_nil))) (pv 1)) pa_nil))))))) (pss_one (ps_ret (pe_op op_fdivW (pv 2) (pv 1)))))), ?_⟩
    refine ⟨.int (k : Int), rfl, _, rfl, by omega, by omega, for_range (lo := 0) (n := k) (fun i σ H' => H' = H ∧ ∃ x, σ = [some (.int (n : Int)), some (.int (k : Int)), some (.int (((List.range i).map g).sum)), x]) ⟨rfl, none, rfl⟩ (fun i σ H' hi p => ?_) fun σ H' p => ?_⟩
    · obtain ⟨rfl, x, rfl⟩ := p
      rw [Int.zero_add]
      refine ⟨.int (((List.range i).map g).sum), rfl, .int (n : Int), rfl, .int (i : Int), rfl, _, _, rfl, rfl, _, rfl, ite2 (fun h1 => ?_) fun h1 => ?_⟩
      · have h1 : 0 < i := by have := of_decide_eq_true h1; omega
        refine ⟨.int (k : Int), rfl, .int (i : Int), rfl, k, i, rfl, n, Nat.gcd k i, rfl, hn, Nat.le_trans (Nat.gcd_le_left _ k0) hk, _, _, rfl, rfl, rfl, some (.int (i : Int)), ?_⟩
        rw [sum_range_succ]
        show _ = [_, _, some (V.int (_ + Rg.coreC n (if i = 0 then k else Nat.gcd k i))), _]
        rw [if_neg (by omega : ¬ i = 0)]
        rfl
      · have h1 : i = 0 := by
          refine Decidable.byContradiction fun z => h1 (decide_eq_true ?_)
          omega
        subst h1
        refine ⟨.int (k : Int), rfl, n, k, rfl, hn, hk, _, _, rfl, rfl, rfl, some (.int ((0 : Nat) : Int)), ?_⟩
        rw [sum_range_succ]
        rfl
    · obtain ⟨rfl, x, rfl⟩ := p
      exact ⟨_, rfl, .int (k : Int), rfl, _, _, rfl, rfl, wide_div (b := 200) (by show (0 : Int) < (k : Int); omega) (small300 hk) (by decide) (by decide), q⟩
theorem cl__law_number (T : Txt K mg) : Cl P w K mg base 3 "_law_number" spNumL := by
  obtain ⟨f, fd, F, hm, hb⟩ := T.f__law_number
  exact cl_of (ok__law_number F T) hm F.kp hb
def spPhi (K : PySem.W.Frag) : Sp := fun vs H Q _ => ∃ (d : Nat), vs = [.int (d : Int)] ∧ d ≤ 300 ∧ ∀ H', Same H H' → Q (.int ((Rg.phi d : Nat) : Int)) H'
theorem filt_succ (p : Nat → Bool) (i : Nat) : ((List.range (i + 1)).filter p) = (List.range i).filter p ++ (if p i = true then [i] else []) := by
  rw [List.range_succ, List.filter_append]
  congr 1
  rw [List.filter_cons, List.filter_nil]
theorem ok_coprime_number {f : Addr} {fd : FuncData} (F : Fun K "coprime_number" "coprime_number" st_coprime_number f fd) (T : Txt K mg) : FnOk P w K mg base CX0 1 f fd ["most"] (spPhi K) := by
  refine F.ok sc_coprime_number (fun vs H Q E h => ?_) (fun cdv A outer s H vs Q E hr h => ?_)
  · obtain ⟨d, rfl, _⟩ := h
    rfl
  · obtain ⟨d, rfl, hd, q⟩ := h
    refine ⟨_, (pss_one (ps_ret (pe_callB (kcall_len (K := K)) (by rfl) T.n_len bo_len (pa_cons (pe_lc (own := [("number", 1)]) rfl sc_coprime_number.nd (pi_range2 rfl T.n_range (pa_cons pe_int (pa_cons (pe_op op_add (pv 0) pe_int) pa_nil))) (blkOk_by (N := nm_coprime_number) (sc := defScope st_coprime_number) (by decide +kernel)) (fun _ _ _ _ _ => (pg_name (i := 1) sc_coprime_number.nd rfl (by first | exact Or.inl rfl | exact Or.inr rfl))) (fun _ _ _ _ _ => pts_one (pt_cmpR op_eq (pe_callBfun cr_gcd rfl T.i_gcd (pa_cons (pv 1) (pa_cons (pv 0) pa_nil))) pe_int (nomark _))) (fun _ _ _ _ _ => (pv 1))) pa_nil)))), ?_⟩
    let L : Nat → List V := fun i => ((List.range i).filter fun k => decide (Nat.gcd (k + 1) d = 1)).map fun (k : Nat) => V.int ((k + 1 : Nat) : Int)
    refine ⟨.int (d : Int), rfl, _, _, rfl, rfl, 1, _, rfl, ⟨by decide, by decide, by omega, by omega⟩, ?_⟩
    rw [show ((d : Int) + 1 - 1).toNat = d by omega]
    refine fun D hD => lc_range (lo := 1) (n := d) (fun i H' => Same H H' ∧ H' D = some (.lst (L i))) ⟨new_same hD, upd_same⟩ (fun i H' hi p => ?_) fun H' p => ?_
    · refine ⟨rfl, ?_⟩
      rw [show (1 : Int) + (i : Int) = ((i + 1 : Nat) : Int) by omega]
      refine ⟨.int ((i + 1 : Nat) : Int), rfl, .int (d : Int), rfl, _, _, rfl, rfl, _, rfl, ?_⟩
      rw [dec_int]
      have eg : ((((Nat.gcd ((i + 1 : Nat) : Int).natAbs ((d : Nat) : Int).natAbs : Nat) : Int)) == 1) = decide (Nat.gcd (i + 1) d = 1) := by
        rw [Bool.eq_iff_iff, beq_iff_eq, decide_eq_true_iff, Int.natAbs_natCast, Int.natAbs_natCast]
        omega
      rw [eg]
      have es : L (i + 1) = L i ++ (if decide (Nat.gcd (i + 1) d = 1) = true then [V.int ((i + 1 : Nat) : Int)] else []) := by
        show (List.filter _ (List.range (i + 1))).map _ = _
        rw [filt_succ, List.map_append]
        congr 1
        split <;> rfl
      refine ite2 (fun h1 => ?_) fun h1 => ?_
      · have hlen : (L i).length ≤ i := by
          show ((List.filter _ (List.range i)).map _).length ≤ i
          rw [List.length_map]
          exact Nat.le_trans (List.length_filter_le _ _) (by rw [List.length_range]; exact Nat.le_refl _)
        refine ⟨.int ((i + 1 : Nat) : Int), rfl, _, p.2, small1000 (by omega), same_mut p.1 hD, ?_⟩
        rw [upd_same, es, if_pos h1]
      · rw [es, if_neg h1, List.append_nil]
        exact p
    · refine ⟨D, _, rfl, .inl (lst_of p.2), ?_⟩
      have e : ((L d).length : Int) = ((Rg.phi d : Nat) : Int) := by
        show ((((List.filter _ (List.range d)).map _).length : Nat) : Int) = _
        rw [List.length_map]
        rfl
      rw [e]
      exact q _ p.1
theorem cl_coprime_number (T : Txt K mg) : Cl P w K mg base 1 "coprime_number" (spPhi K) := by
  obtain ⟨f, fd, F, hm, hb⟩ := T.f_coprime_number
  exact cl_of (ok_coprime_number F T) hm F.kp hb
def spNum (K : PySem.W.Frag) : Sp := fun vs H Q _ => ∃ (n k : Nat), vs = [.int (n : Int), .int (k : Int)] ∧ 1 ≤ n ∧ n ≤ 5 ∧ k ≤ 200 ∧ ∀ H', Same H H' → Q (.int (Rg.numC n k)) H'
theorem ok_ring_number {f : Addr} {fd : FuncData} (F : Fun K "ring_number" "ring_number" st_ring_number f fd) (T : Txt K mg) : FnOk P w K mg base CX0 4 f fd ["letters", "length"] (spNum K) := by
  have c_check_letters : Cl P w K mg base 3 "check_letters" spChkLetters := cl_check_letters T
  have c_is_within : Cl P w K mg base 2 "is_within" spWithin := cl_is_within T
  have c_coprime_number : Cl P w K mg base 1 "coprime_number" (spPhi K) := cl_coprime_number T
  have c_core_number : Cl P w K mg base 2 "core_number" spCores := cl_core_number T
  refine F.ok sc_ring_number (fun vs H Q E h => ?_) (fun cdv A outer s H vs Q E hr h => ?_)
  · obtain ⟨n, k, rfl, _⟩ := h
    rfl
  · obtain ⟨n, k, rfl, n1, n5, hk, q⟩ := h
    refine ⟨_, (pss_cons (ps_expr (pe_f c_check_letters hr (by decide) rfl (pa_cons (pv 0) pa_nil))) (pss_cons (ps_if (pt_not (pt_val (pe_f c_is_within hr (by decide) rfl (pa_cons (pv 1) (pa_cons pe_int (pa_cons (pe_glob rfl T.c_MOST_NUMBERED.choose_spec rel_int) pa_nil)))))) (pss_one ps_never) pss_nil) (pss_cons (ps_if (pt_cmpR op_eq (pv 1) pe_int (nomark _)) (pss_one (ps_ret pe_int)) pss_nil) (pss_cons (ps_setLc (i := 2) (own := [("divisor", 4)]) rfl sc_ring_number.nd rfl rfl (sw_true rfl rfl rfl (by decide +kernel)) (pi_range2 rfl T.n_range (pa_cons pe_int (pa_cons (pe_op op_add (pv 1) pe_int) pa_nil))) (blkOk_by (N := nm_ring_number) (sc := defScope st_ring_number) (by decide +kernel)) (fun _ _ _ _ _ => (pg_name (i := 4) sc_ring_number.nd rfl (by first | exact Or.inl rfl | exact Or.inr rfl))) (fun _ _ _ _ _ => pts_one (pt_cmpR op_eq (pe_op op_mod (pv 1) (pv 4)) pe_int (nomark _))) (fun _ _ _ _ _ => (pv 4))) (pss_cons (ps_setLc (i := 3) (own := [("divisor", 4)]) rfl sc_ring_number.nd rfl rfl (sw_true rfl rfl rfl (by decide +kernel)) (kpi_list (K := K) (pv 2)) (blkOk_by (N := nm_ring_number) (sc := defScope st_ring_number) (by decide +kernel)) (fun _ _ _ _ _ => (pg_name (i := 4) sc_ring_number.nd rfl (by first | exact Or.inl rfl | exact Or.inr rfl))) (fun _ _ _ _ _ => pts_nil) (fun _ _ _ _ _ => (pe_op op_mul (pe_f c_coprime_number hr (by decide) rfl (pa_cons (pv 4) pa_nil)) (pe_f c_core_number hr (by decide) rfl (pa_cons (pv 0) (pa_cons (pe_op op_fdivW (pv 1) (pv 4)) pa_nil)))))) (pss_one (ps_ret (pe_op op_fdivW (pe_callB (kcr_sum (K := K) rfl) (by rfl) T.n_sum bo_sum (pa_cons (pv 3) pa_nil)) (pv 1))))))))), ?_⟩
    refine ⟨.int (n : Int), rfl, n, rfl, by omega, by omega, .int (k : Int), rfl, k, 0, 200, rfl, _, rfl, ?_⟩
    rw [decide_eq_true (show (0 : Int) ≤ (k : Int) ∧ (k : Int) ≤ 200 from ⟨by omega, by omega⟩)]
    refine ⟨.int (k : Int), rfl, rfl, _, rfl, ?_⟩
    rw [dec_int]
    refine ite2 (fun h1 => ?_) fun h1 => ?_
    · have h1 : k = 0 := by have := of_decide_eq_true h1; omega
      subst h1
      exact q _ (Same.refl _)
    · have h1 : k ≠ 0 := fun z => h1 (decide_eq_true (by omega))
      let L : Nat → List Nat := fun i => ((List.range i).map (· + 1)).filter fun d => decide (k % d = 0)
      have hL : ∀ i, (L i).length ≤ i := fun i => Nat.le_trans (List.length_filter_le _ _) (by rw [List.length_map, List.length_range]; exact Nat.le_refl _)
      refine ⟨.int (k : Int), rfl, _, _, rfl, rfl, 1, _, rfl, ⟨by decide, by decide, by omega, by omega⟩, ?_⟩
      rw [show ((k : Int) + 1 - 1).toNat = k by omega]
      refine fun D hD => lc_range (lo := 1) (n := k) (fun i H' => Same H H' ∧ H' D = some (.lst ((L i).map fun (d : Nat) => V.int (d : Int)))) ⟨new_same hD, upd_same⟩ (fun i H' hi p => ?_) fun H' p => ?_
      · refine ⟨rfl, ?_⟩
        rw [show (1 : Int) + (i : Int) = ((i + 1 : Nat) : Int) by omega]
        refine ⟨.int (k : Int), rfl, .int ((i + 1 : Nat) : Int), rfl, _, _, rfl, rfl, by show (0 : Int) < ((i + 1 : Nat) : Int); omega, rfl, _, rfl, ?_⟩
        rw [dec_int]
        have eg : (((k : Int) % ((i + 1 : Nat) : Int)) == 0) = decide (k % (i + 1) = 0) := by
          rw [Bool.eq_iff_iff, beq_iff_eq, decide_eq_true_iff, show (k : Int) % ((i + 1 : Nat) : Int) = ((k % (i + 1) : Nat) : Int) from (Int.natCast_emod _ _).symm]
          omega
        rw [eg]
        have es : L (i + 1) = L i ++ (if decide (k % (i + 1) = 0) = true then [i + 1] else []) := by
          show List.filter _ ((List.range (i + 1)).map (· + 1)) = _
          rw [List.range_succ, List.map_append, List.filter_append]
          congr 1
          show List.filter _ [i + 1] = _
          rw [List.filter_cons, List.filter_nil]
        refine ite2 (fun h2 => ?_) fun h2 => ?_
        · refine ⟨.int ((i + 1 : Nat) : Int), rfl, _, p.2, small1000 (by rw [List.length_map]; have := hL i; omega), same_mut p.1 hD, ?_⟩
          rw [upd_same, es, if_pos h2, List.map_append]
          rfl
        · rw [es, if_neg h2, List.append_nil]
          exact p
      · have e1 := p.1
        have d1 : H' D = some (.lst ((Rg.divs k).map fun (d : Nat) => V.int (d : Int))) := p.2
        have hdl : (Rg.divs k).length ≤ k := hL k
        let g : Nat → Int := fun d => ((Rg.phi d : Nat) : Int) * Rg.coreC n (k / d)
        refine ⟨.ref D, rfl, D, rfl, ⟨_, lst_of d1⟩, fun D2 hD2 => lc_list (K := K) (a := D) (xs := (Rg.divs k).map fun (d : Nat) => V.int (d : Int)) (fun i H2 => Same H' H2 ∧ H2 D2 = some (.lst ((((Rg.divs k).take i).map g).map V.int))) ⟨new_same hD2, upd_same⟩ (fun i H2 _ z => lst_of (z.1 _ _ d1)) (fun i x H2 hx z => ?_) fun H2 z => ?_⟩
        · rw [List.getElem?_map] at hx
          cases hg : (Rg.divs k)[i]? with
          | none => rw [hg] at hx; cases hx
          | some d =>
            rw [hg] at hx
            cases hx
            have hm := List.mem_of_getElem? hg
            unfold Rg.divs at hm
            rw [List.mem_filter, List.mem_map] at hm
            obtain ⟨⟨j, hj, rfl⟩, _⟩ := hm
            rw [List.mem_range] at hj
            refine ⟨rfl, .int ((j + 1 : Nat) : Int), rfl, j + 1, rfl, by omega, fun H3 e3 => ?_⟩
            have hv : (fun i j : Int => V.int (i / j)) (k : Int) ((j + 1 : Nat) : Int) = .int ((k / (j + 1) : Nat) : Int) := congrArg V.int (Int.natCast_ediv _ _).symm
            refine ⟨.int (n : Int), rfl, .int (k : Int), rfl, .int ((j + 1 : Nat) : Int), rfl, _, _, rfl, rfl, wide_div (b := 200) (by show (0 : Int) < ((j + 1 : Nat) : Int); omega) (small300 (by omega)) (by decide) (by decide), n, k / (j + 1), by rw [hv], n5, Nat.le_trans (Nat.div_le_self _ _) (by omega), ?_⟩
            have hphi : Rg.phi (j + 1) ≤ j + 1 := Nat.le_trans (List.length_filter_le _ _) (by rw [List.length_range]; exact Nat.le_refl _)
            refine ⟨_, _, rfl, rfl, .inl ⟨by omega, by omega⟩, _, e3 _ _ z.2, small1000 (by rw [List.length_map, List.length_map, List.length_take]; omega), same_mut (Same.trans z.1 e3) hD2, ?_⟩
            rw [upd_same, List.take_succ, hg, List.map_append, List.map_append]
            rfl
        · refine ⟨.ref D2, rfl, D2, (Rg.divs k).map g, rfl, lst_of ?_, .int (k : Int), rfl, _, _, rfl, rfl, wide_div (b := 200) (by show (0 : Int) < (k : Int); omega) (small300 (by omega)) (by decide) (by decide), ?_⟩
          · rw [z.2, List.length_map, List.take_length]
          · have := q _ (Same.trans e1 z.1)
            unfold Rg.numC at this
            rw [if_neg h1] at this
            exact this
theorem cl_ring_number (T : Txt K mg) : Cl P w K mg base 4 "ring_number" (spNum K) := by
  obtain ⟨f, fd, F, hm, hb⟩ := T.f_ring_number
  exact cl_of (ok_ring_number F T) hm F.kp hb
def spEnts (K : PySem.W.Frag) : Sp := fun vs H Q _ => ∃ (n : Nat), vs = [.int (n : Int)] ∧ n ≤ 5 ∧ ∀ H' p, Same H H' → H p = none → H' p = some (.lst ((Rg.ents n).map V.int)) → Q (.ref p) H'
theorem ok_entries_of {f : Addr} {fd : FuncData} (F : Fun K "entries_of" "entries_of" st_entries_of f fd) (T : Txt K mg) : FnOk P w K mg base CX0 1 f fd ["letters"] (spEnts K) := by
  refine F.ok sc_entries_of (fun vs H Q E h => ?_) (fun cdv A outer s H vs Q E hr h => ?_)
  · obtain ⟨n, rfl, _⟩ := h
    rfl
  · obtain ⟨n, rfl, hn, q⟩ := h
    let L : Nat → List Int := fun i => ((List.range i).map fun (k : Nat) => (k : Int) - (n : Int)).filter fun e => !decide (e = 0)
    have hL : ∀ i, (L i).length ≤ i := fun i => Nat.le_trans (List.length_filter_le _ _) (by rw [List.length_map, List.length_range]; exact Nat.le_refl _)
    refine ⟨_, (pss_one (ps_ret (pe_lc (own := [("entry", 1)]) rfl sc_entries_of.nd (pi_range2 rfl T.n_range (pa_cons (pe_un un_neg (pv 0)) (pa_cons (pe_op op_add (pv 0) pe_int) pa_nil))) (blkOk_by (N := nm_entries_of) (sc := defScope st_entries_of) (by decide +kernel)) (fun _ _ _ _ _ => (pg_name (i := 1) sc_entries_of.nd rfl (by first | exact Or.inl rfl | exact Or.inr rfl))) (fun _ _ _ _ _ => pts_one (pt_cmpR op_ne (pv 1) pe_int (nomark _))) (fun _ _ _ _ _ => (pv 1))))), ?_⟩
    refine ⟨.int (n : Int), rfl, _, rfl, .int (n : Int), rfl, _, _, rfl, rfl, -(n : Int), _, rfl, ⟨by omega, by omega, by omega, by omega⟩, ?_⟩
    rw [show ((n : Int) + 1 - -(n : Int)).toNat = 2 * n + 1 by omega]
    refine fun D hD => lc_range (lo := -(n : Int)) (n := 2 * n + 1) (fun i H' => Same H H' ∧ H' D = some (.lst ((L i).map V.int))) ⟨new_same hD, upd_same⟩ (fun i H' hi p => ?_) fun H' p => ?_
    · refine ⟨rfl, ?_⟩
      rw [show -(n : Int) + (i : Int) = (i : Int) - (n : Int) by omega]
      refine ⟨.int ((i : Int) - (n : Int)), rfl, rfl, _, rfl, ?_⟩
      rw [dec_int]
      have es : L (i + 1) = L i ++ (if (!((i : Int) - (n : Int) == 0)) = true then [(i : Int) - (n : Int)] else []) := by
        show List.filter _ ((List.range (i + 1)).map _) = _
        rw [List.range_succ, List.map_append, List.filter_append]
        congr 1
        show List.filter _ [(i : Int) - (n : Int)] = _
        rw [List.filter_cons, List.filter_nil]
        rfl
      refine ite2 (fun h2 => ?_) fun h2 => ?_
      · refine ⟨.int ((i : Int) - (n : Int)), rfl, _, p.2, small1000 (by rw [List.length_map]; have := hL i; omega), same_mut p.1 hD, ?_⟩
        rw [upd_same, es, if_pos h2, List.map_append]
        rfl
      · rw [es, if_neg h2, List.append_nil]
        exact p
    · exact q _ D p.1 hD p.2
theorem cl_entries_of (T : Txt K mg) : Cl P w K mg base 1 "entries_of" (spEnts K) := by
  obtain ⟨f, fd, F, hm, hb⟩ := T.f_entries_of
  exact cl_of (ok_entries_of F T) hm F.kp hb
abbrev Pb := List Int × Nat
def leastB (n : Nat) (b : Pb) : Int := if b.1 = [] then -(n : Int) else b.1.getD (b.1.length - b.2) 0
def keepB (n : Nat) (b : Pb) (e : Int) : Bool := !(decide (e < leastB n b) || (!decide (b.1 = []) && decide (e = - b.1.getD (b.1.length - 1) 0)))
def nxtB (n : Nat) (b : Pb) (e : Int) : Pb := (b.1 ++ [e], if e = leastB n b then b.2 else b.1.length + 1)
def oneL (n : Nat) (b : Pb) (es : List Int) : List Pb := (es.filter (keepB n b)).map (nxtB n b)
theorem longr_eq (n : Nat) (bs : List Pb) : Rg.longr n bs = (bs.map fun b => oneL n b (Rg.ents n)).flatten := rfl
theorem longr_succ {n : Nat} {bs : List Pb} {i : Nat} {b : Pb} (h : bs[i]? = some b) : Rg.longr n (bs.take (i + 1)) = Rg.longr n (bs.take i) ++ oneL n b (Rg.ents n) := by
  rw [longr_eq, longr_eq, List.take_succ, h, List.map_append, List.flatten_append]
  show _ ++ (oneL n b (Rg.ents n) ++ []) = _
  rw [List.append_nil]
theorem oneL_succ {n : Nat} {b : Pb} {es : List Int} {j : Nat} {e : Int} (h : es[j]? = some e) : oneL n b (es.take (j + 1)) = oneL n b (es.take j) ++ (if keepB n b e = true then [nxtB n b e] else []) := by
  unfold oneL
  rw [List.take_succ, h, List.filter_append, List.map_append]
  congr 1
  show (List.filter (keepB n b) [e]).map _ = _
  rw [List.filter_cons, List.filter_nil]
  split <;> rfl
inductive Bg (K : PySem.W.Frag) (H : Hp) : V → Pb → Prop
  | mk {t r : Addr} {row : List Int} {p : Nat} (h : SqT K H t [.ref r, .int (p : Int)]) (hr : SqT K H r (row.map V.int)) (hp : 1 ≤ p ∧ (p ≤ row.length ∨ row = [] ∧ p = 1)) (hl : row.length ≤ 20) : Bg K H (.ref t) (row, p)
inductive Bgs (K : PySem.W.Frag) (H : Hp) : List V → List Pb → Prop
  | nil : Bgs K H [] []
  | cons {v : V} {vs : List V} {b : Pb} {bs : List Pb} : Bg K H v b → Bgs K H vs bs → Bgs K H (v :: vs) (b :: bs)
section
variable {H H1 : Hp}
theorem Bg.same {v : V} {b : Pb} (e : Same H H1) (h : Bg K H v b) : Bg K H1 v b := by
  cases h with
  | mk h hr hp hl => exact .mk (same_tup e h) (same_tup e hr) hp hl
theorem Bg.mut {v : V} {b : Pb} {D : Addr} {ys : List V} {o : HO} (d : H D = some (.lst ys)) (h : Bg K H v b) : Bg K (upd H D o) v b := by
  cases h with
  | mk h hr hp hl => exact .mk (tup_mut d h) (tup_mut d hr) hp hl
theorem Bgs.same (e : Same H H1) : ∀ {vs : List V} {bs : List Pb}, Bgs K H vs bs → Bgs K H1 vs bs
  | _, _, .nil => .nil
  | _, _, .cons h t => .cons (h.same e) (t.same e)
theorem Bgs.mut {D : Addr} {ys : List V} {o : HO} (d : H D = some (.lst ys)) : ∀ {vs : List V} {bs : List Pb}, Bgs K H vs bs → Bgs K (upd H D o) vs bs
  | _, _, .nil => .nil
  | _, _, .cons h t => .cons (h.mut d) (t.mut d)
theorem Bgs.len : ∀ {vs : List V} {bs : List Pb}, Bgs K H vs bs → vs.length = bs.length
  | _, _, .nil => rfl
  | _, _, .cons _ t => congrArg (· + 1) t.len
theorem Bgs.at : ∀ {vs : List V} {bs : List Pb}, Bgs K H vs bs → ∀ (i : Nat) (x : V), vs[i]? = some x → ∃ b, bs[i]? = some b ∧ Bg K H x b
  | _, _, .nil, i, x, h => nomatch h
  | _, _, .cons h1 t, 0, x, h => by cases h; exact ⟨_, rfl, h1⟩
  | _, _, .cons h1 t, i + 1, x, h => t.at i x h
theorem Bgs.snoc : ∀ {vs : List V} {bs : List Pb} {v : V} {b : Pb}, Bgs K H vs bs → Bg K H v b → Bgs K H (vs ++ [v]) (bs ++ [b])
  | _, _, _, _, .nil, g => .cons g .nil
  | _, _, _, _, .cons h t, g => .cons h (t.snoc g)
end
def spLonger (K : PySem.W.Frag) : Sp := fun vs H Q _ => ∃ (n : Nat) (b : Addr) (xs : List V) (bs : List Pb), vs = [.int (n : Int), .ref b] ∧ n ≤ 5 ∧ SqL K H b xs ∧ Bgs K H xs bs ∧ bs.length ≤ 1000 ∧ (∀ z ∈ bs, z.1.length ≤ 10) ∧
  ∀ H' p ys, Same H H' → H p = none → H' p = some (.lst ys) → Bgs K H' ys (Rg.longr n bs) → Q (.ref p) H'
theorem ents_len (n : Nat) (hn : n ≤ 5) : (Rg.ents n).length ≤ 11 := by
  refine Nat.le_trans (List.length_filter_le _ _) ?_
  rw [List.length_map, List.length_range]
  omega
theorem oneL_len (n : Nat) (b : Pb) (es : List Int) : (oneL n b es).length ≤ es.length := by
  unfold oneL
  rw [List.length_map]
  exact List.length_filter_le _ _
theorem longr_len (n : Nat) (hn : n ≤ 5) : ∀ bs : List Pb, (Rg.longr n bs).length ≤ bs.length * 11
  | [] => Nat.zero_le _
  | b :: bs => by
    show (oneL n b (Rg.ents n) ++ Rg.longr n bs).length ≤ (bs.length + 1) * 11
    rw [List.length_append, Nat.succ_mul]
    have h1 := oneL_len n b (Rg.ents n)
    have h2 := ents_len n hn
    have h3 := longr_len n hn bs
    omega
theorem at_last {ns : List Int} (h : ns ≠ []) : atI (ns.map V.int) (-1) = some (.int (ns.getD (ns.length - 1) 0)) := by
  obtain ⟨t, q, rfl⟩ := Rg.snoc_of h
  rw [List.map_append]
  refine (atI_last _ _).trans ?_
  rw [List.length_append, List.getD_eq_getElem?_getD, List.getElem?_append_right (by simp)]
  simp
theorem ok_longer_necklaces {f : Addr} {fd : FuncData} (F : Fun K "longer_necklaces" "longer_necklaces" st_longer_necklaces f fd) (T : Txt K mg) : FnOk P w K mg base CX0 2 f fd ["letters", "begun"] (spLonger K) := by
  have c_entries_of : Cl P w K mg base 1 "entries_of" (spEnts K) := cl_entries_of T
  refine F.ok sc_longer_necklaces (fun vs H Q E h => ?_) (fun cdv A outer s H vs Q E hr h => ?_)
  · obtain ⟨n, b, xs, bs, rfl, _⟩ := h
    rfl
  · obtain ⟨n, b, xs, bs, rfl, hn, hb, hB, hbl, hrl, k⟩ := h
    refine ⟨_, (pss_cons (ps_set (i := 2) sc_longer_necklaces.nd rfl (Or.inl rfl) (pe_f c_entries_of hr (by decide) rfl (pa_cons (pv 0) pa_nil))) (pss_cons (ps_set (i := 3) sc_longer_necklaces.nd rfl (Or.inl rfl) (pe_lst pa_nil)) (pss_cons (ps_for PassesOwn.never rfl (kpi_list (K := K) (pv 1)) (kpg_tup (K := K) (n := 2) rfl (pgs_cons (pg_name (i := 4) sc_longer_necklaces.nd rfl (Or.inl rfl)) (pgs_cons (pg_name (i := 5) sc_longer_necklaces.nd rfl (Or.inl rfl)) pgs_nil))) (pss_cons (ps_set (i := 6) sc_longer_necklaces.nd rfl (Or.inl rfl) (pe_ifExp (pt_cmpR (kop_neD (K := K) hr.units) (pv 4) (pe_tup pa_nil) (nomark _)) (pe_ix (kix_tup (K := K)) (pv 4) (pe_op op_sub (pe_callB (kcall_len (K := K)) (by rfl) T.n_len bo_len (pa_cons (pv 4) pa_nil)) (pv 5)) (fun _ _ => rfl)) (pe_un un_neg (pv 0)))) (pss_one (ps_for PassesOwn.never rfl (kpi_list (K := K) (pv 2)) (pg_name (i := 7) sc_longer_necklaces.nd rfl (Or.inl rfl)) (pss_cons (ps_if (PW.pt (pw_or (pt_cmpR op_lt (pv 7) (pv 6) (nomark _)) (pw_or1 (PW.pt (pw_and (pt_cmpR (kop_neD (K := K) hr.units) (pv 4) (pe_tup pa_nil) (nomark _)) (pw_and1 (pt_cmpR op_eq (pv 7) (pe_un un_neg (pe_ix (kix_tup (K := K)) (pv 4) (pe_un un_neg pe_int) (fun _ _ => rfl))) (nomark _)))))))) (pss_one ps_continue) pss_nil) (pss_one (ps_expr (pe_bm PySem.F.plainAttrs_list PySem.F.slot_list_append PySem.F.type_list_append mt_append (pv 3) (pa_cons (pe_tup (pa_cons (pe_op (kop_catA (K := K)) (pv 4) (pe_tup (pa_cons (pv 7) pa_nil))) (pa_cons (pe_ifExp (pt_cmpR op_eq (pv 7) (pv 6) (nomark _)) (pv 5) (pe_op op_add (pe_callB (kcall_len (K := K)) (by rfl) T.n_len bo_len (pa_cons (pv 4) pa_nil)) pe_int)) pa_nil))) pa_nil))))))))) (pss_one (ps_ret (pv 3)))))), ?_⟩
    refine ⟨.int (n : Int), rfl, n, rfl, hn, fun H1 pe e1 f1 d1 => ⟨Nat.zero_le _, fun l hl => ?_⟩⟩
    have b1 := same_lst e1 hb
    have hB1 := hB.same e1
    refine ⟨.ref b, rfl, b, rfl, ⟨_, same_lst (new_same hl) b1⟩, for_list (K := K) (a := b) (xs := xs) (fun i σ H' => Same H1 H' ∧ (∃ ys, H' l = some (.lst ys) ∧ Bgs K H' ys (Rg.longr n (bs.take i))) ∧ ∃ x4 x5 x6 x7, σ = [some (.int (n : Int)), some (.ref b), some (.ref pe), some (.ref l), x4, x5, x6, x7]) ⟨new_same hl, ⟨[], upd_same, .nil⟩, none, none, none, none, rfl⟩ (fun i σ H' _ q => same_lst q.1 b1) (fun i x σ H' hx q => ?_) fun σ H' q => ?_⟩
    · obtain ⟨s1, ⟨ys, dl, hys⟩, x4, x5, x6, x7, rfl⟩ := q
      obtain ⟨bb, hbb, hbx⟩ := hB1.at i x hx
      have hlen := hrl bb (List.mem_of_getElem? hbb)
      have hil : i < bs.length := (List.getElem?_eq_some_iff.mp hbb).1
      have hyl := hys.len
      have hll := longr_len n hn (bs.take i)
      rw [List.length_take] at hll
      cases hbx with
      | @mk t r row p ht1 hr1 hp hl2 =>
        have hlen : row.length ≤ 10 := hlen
        refine ⟨t, _, rfl, same_tup s1 ht1, rfl, _, _, rfl, _, _, rfl, rfl, ?_⟩
        have hr2 := same_tup s1 hr1
        refine asg_seq (P := IsV (.int (leastB n (row, p)))) (es_if (eb_test (es_neT (K := K) (es_vT rfl hr2) es_t0)) (fun h1 => ?_) fun h1 => ?_) fun v H2 e2 ev => ?_
        · have hrow : row ≠ [] := by simpa using h1
          have hpl : 0 < row.length := List.length_pos_iff.mpr hrow
          have hp2 : p ≤ row.length := hp.2.elim id fun z => absurd z.1 hrow
          refine es_as (es_ixT (es_vT rfl hr2) (es_i0 (es_lenT (es_vT rfl hr2)) (es_vV rfl)) (x := row.getD (row.length - p) 0) ?_) ?_
          · exact at_int (z := (row.length : Int) - (p : Int)) (j := row.length - p) (by omega) (by omega)
          · unfold leastB
            rw [if_neg hrow]
        · have hrow : row = [] := by simpa using h1
          refine es_as (es_u (es_vV (v := .int (n : Int)) rfl)) ?_
          unfold leastB
          rw [if_pos hrow]
        · subst ev
          have s2 := Same.trans s1 e2
          refine ⟨.ref pe, rfl, pe, rfl, ⟨_, lst_of (s2 _ _ d1)⟩, for_list (K := K) (a := pe) (xs := (Rg.ents n).map V.int) (fun j σ H3 => Same H1 H3 ∧ (∃ ys, H3 l = some (.lst ys) ∧ Bgs K H3 ys (Rg.longr n (bs.take i) ++ oneL n (row, p) ((Rg.ents n).take j))) ∧ ∃ x7, σ = [some (.int (n : Int)), some (.ref b), some (.ref pe), some (.ref l), some (.ref r), some (.int (p : Int)), some (.int (leastB n (row, p))), x7]) ⟨s2, ⟨ys, e2 _ _ dl, by rw [List.take_zero]; exact (List.append_nil _).symm ▸ hys.same e2⟩, x7, rfl⟩ (fun j σ H3 _ q => lst_of (q.1 _ _ d1)) (fun j x σ H3 hx q => ?_) fun σ H3 q => ?_⟩
          · obtain ⟨s3, ⟨ys3, dl3, hys3⟩, x7, rfl⟩ := q
            rw [List.getElem?_map] at hx
            cases he : (Rg.ents n)[j]? with
            | none => rw [he] at hx; cases hx
            | some e =>
              rw [he] at hx
              cases hx
              have hr3 := same_tup s3 hr1
              have hsu := oneL_succ (n := n) (b := (row, p)) he
              refine ifs_b (b := !keepB n (row, p) e) (eb_as (eb_or2 (eb_test (es_i0 (f := fun i j => V.bl (decide (i < j))) (es_vV rfl) (es_vV rfl))) (b := !decide (row = []) && decide (e = - row.getD (row.length - 1) 0)) fun h1 => eb_and2 (eb_test (es_neT (K := K) (es_vT rfl hr3) es_t0)) fun h2 => eb_test (es_eqI (es_vV rfl) (es_u (f := fun i => V.int (-i)) (es_ixT (K := K) (es_vT rfl hr3) (es_u (f := fun i => V.int (-i)) (es_cV (v := .int 1))) (at_last (by simpa using h2)))))) ?_) (fun hk H4 e4 => ?_) fun hk H4 e4 => ?_
              · unfold keepB
                rw [Bool.not_not]
              · have hk : keepB n (row, p) e = false := by simpa using hk
                rw [hk] at hsu
                refine ⟨Same.trans s3 e4, ⟨ys3, e4 _ _ dl3, ?_⟩, _, rfl⟩
                rw [hsu, if_neg (by decide), List.append_nil]
                exact hys3.same e4
              · have hk : keepB n (row, p) e = true := by simpa using hk
                rw [hk, if_pos rfl] at hsu
                have hr4 := same_tup e4 hr3
                refine drop_app (K := K) (i := 3) (l := l) rfl (e4 _ _ dl3) ?_ (es_pair (K := K) (P := IsI K (row ++ [e])) (Pb := IsV (.int ((nxtB n (row, p) e).2 : Int))) (fun v H H1 se hv => ?_) (fun v H H1 se hv => hv) (es_cat (es_vT rfl hr4) (es_t1 (es_vV rfl)) ?_) ?_) fun v H5 e5 dl5 hv => ?_
                · have h1 := hys3.len
                  have h2 := oneL_len n (row, p) ((Rg.ents n).take j)
                  have h3 := ents_len n hn
                  rw [List.length_take] at h2
                  rw [List.length_append] at h1
                  omega
                · obtain ⟨a, ea, ha⟩ := hv
                  exact ⟨a, ea, same_tup se ha⟩
                · show row.length + 1 ≤ 100000
                  omega
                · refine es_if (eb_test (es_eqI (es_vV rfl) (es_vV rfl))) (fun h1 => es_as (es_vV rfl) ?_) fun h1 => es_as (es_i0 (f := fun i j => V.int (i + j)) (es_lenT (es_vT rfl hr4)) (es_cV (v := .int 1))) ?_
                  · unfold nxtB
                    rw [if_pos (of_decide_eq_true h1)]
                  · unfold nxtB
                    rw [if_neg (of_decide_eq_false h1)]
                    rfl
                · obtain ⟨t5, x, y, rfl, h5, ⟨r5, rfl, hr5⟩, rfl⟩ := hv
                  have s5 := Same.trans s3 (Same.trans e4 e5)
                  refine ⟨same_mut s5 hl, ⟨_, upd_same, ?_⟩, _, rfl⟩
                  rw [hsu, ← List.append_assoc]
                  refine Bgs.snoc ((hys3.same (Same.trans e4 e5)).mut dl5) ?_
                  refine Bg.mut dl5 ?_
                  show Bg K H5 (.ref t5) (row ++ [e], (nxtB n (row, p) e).2)
                  refine .mk h5 hr5 ?_ (by rw [List.length_append]; show row.length + 1 ≤ 20; omega)
                  have hl5 : (row ++ [e]).length = row.length + 1 := by rw [List.length_append]; rfl
                  unfold nxtB
                  dsimp only
                  rw [hl5]
                  split
                  · refine ⟨hp.1, .inl ?_⟩
                    rcases hp.2 with z | z
                    · omega
                    · omega
                  · exact ⟨by omega, .inl (Nat.le_refl _)⟩
          · obtain ⟨s3, ⟨ys3, dl3, hys3⟩, x7, rfl⟩ := q
            refine ⟨s3, ⟨ys3, dl3, ?_⟩, _, _, _, _, rfl⟩
            rw [longr_succ hbb]
            have : (Rg.ents n).take ((Rg.ents n).map V.int).length = Rg.ents n := List.take_of_length_le (by rw [List.length_map]; exact Nat.le_refl _)
            rw [this] at hys3
            exact hys3
    · obtain ⟨s1, ⟨ys, dl, hys⟩, x4, x5, x6, x7, rfl⟩ := q
      have : bs.take xs.length = bs := List.take_of_length_le (by rw [hB.len]; exact Nat.le_refl _)
      rw [this] at hys
      exact ⟨.ref l, rfl, k _ l ys (Same.trans e1 s1) (Same.free e1 hl) dl hys⟩
theorem cl_longer_necklaces (T : Txt K mg) : Cl P w K mg base 2 "longer_necklaces" (spLonger K) := by
  obtain ⟨f, fd, F, hm, hb⟩ := T.f_longer_necklaces
  exact cl_of (ok_longer_necklaces F T) hm F.kp hb
theorem sizes_n {s : Nat × Nat} (h : s ∈ Rg.sizes) : 1 ≤ s.1 ∧ s.1 ≤ 5 := by
  have : (Rg.sizes.all fun s => decide (1 ≤ s.1 ∧ s.1 ≤ 5)) = true := by decide
  exact of_decide_eq_true (List.all_eq_true.mp this s h)
theorem sizes_m {s : Nat × Nat} (h : s ∈ Rg.sizes) : s.2 ≤ 6 := by
  have : (Rg.sizes.all fun s => decide (s.2 ≤ 6)) = true := by decide
  exact of_decide_eq_true (List.all_eq_true.mp this s h)
theorem begs_dec : (Rg.sizes.all fun s => (List.range (s.2 + 1)).all fun k => decide ((Rg.begs s.1 k).length ≤ 1000) && (Rg.begs s.1 k).all fun z => decide (z.1.length ≤ 10)) = true := by decide +kernel
theorem begs_ok {s : Nat × Nat} (h : s ∈ Rg.sizes) {k : Nat} (hk : k ≤ s.2) : (Rg.begs s.1 k).length ≤ 1000 ∧ ∀ z ∈ Rg.begs s.1 k, z.1.length ≤ 10 := by
  have h1 := List.all_eq_true.mp (List.all_eq_true.mp begs_dec s h) k (List.mem_range.mpr (by omega))
  rw [Bool.and_eq_true] at h1
  exact ⟨of_decide_eq_true h1.1, fun z hz => of_decide_eq_true (List.all_eq_true.mp h1.2 z hz)⟩
theorem dpa_snoc {H : Hp} : ∀ {vs : List V} {ds : List PyData} {v : V} {d : PyData}, DpAll K H vs ds → Dp K H v d → DpAll K H (vs ++ [v]) (ds ++ [d])
  | _, _, _, _, .nil, g => .cons g .nil
  | _, _, _, _, .cons h t, g => .cons h (dpa_snoc t g)
theorem dpa_mutR {H : Hp} {D : Addr} {ys : List V} {o : HO} (d : H D = some (.lst ys)) : ∀ {vs : List V} {ts : List (List Int)}, DpAll K H vs (ts.map tupD) → DpAll K (upd H D o) vs (ts.map tupD)
  | [], [], _ => .nil
  | _ :: _, [], h => nomatch h
  | [], _ :: _, h => nomatch h
  | v :: vs, t :: ts, .cons h g => by
    refine .cons ?_ (dpa_mutR d g)
    cases h with
    | tup ha hd =>
      rw [dpa_ints hd] at ha
      exact dp_tup (tup_mut d ha)
def spRingsWith (K : PySem.W.Frag) : Sp := fun vs H Q _ => ∃ (n len : Nat), vs = [.int (n : Int), .int (len : Int)] ∧ (∃ s ∈ Rg.sizes, n = s.1 ∧ len ≤ s.2) ∧ ∀ D out H', Same H H' → H' D = some (.lst out) → out.length ≤ 1000 → DpAll K H' out ((Rg.ringsC n len).map tupD) → Q (.ref D) H'
theorem ok_rings_with {f : Addr} {fd : FuncData} (F : Fun K "rings_with" "rings_with" st_rings_with f fd) (T : Txt K mg) : FnOk P w K mg base CX0 3 f fd ["letters", "length"] (spRingsWith K) := by
  have c_longer_necklaces : Cl P w K mg base 2 "longer_necklaces" (spLonger K) := cl_longer_necklaces T
  refine F.ok sc_rings_with (fun vs H Q E h => ?_) (fun cdv A outer s H vs Q E hr h => ?_)
  · obtain ⟨n, len, rfl, _⟩ := h
    rfl
  · obtain ⟨n, len, rfl, hs, k⟩ := h
    refine ⟨_, (pss_cons (ps_set (i := 2) sc_rings_with.nd rfl (Or.inl rfl) (pe_lst (pa_cons (pe_tup (pa_cons (pe_tup pa_nil) (pa_cons pe_int pa_nil))) pa_nil))) (pss_cons (ps_for PassesOwn.never rfl (pi_range1 rfl T.n_range (pa_cons (pv 1) pa_nil)) (pg_name (i := 3) sc_rings_with.nd rfl (Or.inl rfl)) (pss_one (ps_set (i := 2) sc_rings_with.nd rfl (Or.inl rfl) (pe_f c_longer_necklaces hr (by decide) rfl (pa_cons (pv 0) (pa_cons (pv 2) pa_nil)))))) (pss_one (ps_ret (pe_lc (own := [("row", 4), ("period", 5)]) rfl sc_rings_with.nd (kpi_list (K := K) (pv 2)) (blkOk_by (N := nm_rings_with) (sc := defScope st_rings_with) (by decide +kernel)) (fun _ _ _ _ _ => (kpg_tup (K := K) (n := 2) rfl (pgs_cons (pg_name (i := 4) sc_rings_with.nd rfl (by first | exact Or.inl rfl | exact Or.inr rfl)) (pgs_cons (pg_name (i := 5) sc_rings_with.nd rfl (by first | exact Or.inl rfl | exact Or.inr rfl)) pgs_nil)))) (fun _ _ _ _ _ => pts_one (PW.pt (pw_and (pt_cmpR op_eq (pe_op op_mod (pv 1) (pv 5)) pe_int (nomark _)) (pw_and1 (PW.pt (pw_or (pt_cmpR (kop_eqD (K := K) hr.units) (pv 4) (pe_tup pa_nil) (nomark _)) (pw_or1 (pt_cmpR op_ne (pe_ix (kix_tup (K := K)) (pv 4) pe_int (fun _ _ => rfl)) (pe_un un_neg (pe_ix (kix_tup (K := K)) (pv 4) (pe_un un_neg pe_int) (fun _ _ => rfl))) (nomark _))))))))) (fun _ _ _ _ _ => (pv 4))))))), ?_⟩
    obtain ⟨sz, hsz, rfl, hlen⟩ := hs
    obtain ⟨n, m⟩ := sz
    dsimp only at hlen k ⊢
    have hn : 1 ≤ n ∧ n ≤ 5 := sizes_n hsz
    have hm6 : m ≤ 6 := sizes_m hsz
    refine ⟨Nat.zero_le _, fun z hz => ⟨by show 2 ≤ sizeLine; decide, fun t ht => ⟨by show 1 ≤ sizeLine; decide, fun g hg => ?_⟩⟩⟩
    have n1 : Same H (upd H z (.tup [])) := new_same hz
    have n2 := Same.trans n1 (new_same (o := .tup [.ref z, .int 1]) ht)
    have n3 := Same.trans n2 (new_same (o := .lst [.ref t]) hg)
    have dz := new_same (o := .lst [.ref t]) hg _ _ (new_same (o := .tup [.ref z, .int 1]) ht _ _ (upd_same (H := H) (a := z) (o := .tup [])))
    have dt := new_same (o := .lst [.ref t]) hg _ _ (upd_same (a := t) (o := .tup [.ref z, .int 1]))
    have dg : upd (upd (upd H z (.tup [])) t (.tup [.ref z, .int 1])) g (.lst [.ref t]) g = some (.lst [.ref t]) := upd_same
    generalize upd (upd (upd H z (.tup [])) t (.tup [.ref z, .int 1])) g (.lst [.ref t]) = H1 at n3 dz dt dg
    have b0 : Bgs K H1 [.ref t] (Rg.begs n 0) := .cons (.mk (row := []) (p := 1) (tup_of dt) (tup_of dz) ⟨Nat.le_refl _, .inr ⟨rfl, rfl⟩⟩ (by decide)) .nil
    have bd := fun kk (hk : kk ≤ m) => begs_ok hsz (k := kk) hk
    refine ⟨.int (len : Int), rfl, len, rfl, by omega, by omega, for_range (lo := 0) (n := len) (fun i σ H' => Same H1 H' ∧ ∃ (g : Addr) (vs : List V) (x : Option V), SqL K H' g vs ∧ Bgs K H' vs (Rg.begs n i) ∧ σ = [some (.int (n : Int)), some (.int (len : Int)), some (.ref g), x, none, none]) ⟨Same.refl _, g, _, none, lst_of dg, b0, rfl⟩ (fun i σ H' hi p => ?_) fun σ H' p => ?_⟩
    · obtain ⟨e1, g1, vs, x, hg1, hB, rfl⟩ := p
      have bi := bd i (by omega)
      exact ⟨.int (n : Int), rfl, .ref g1, rfl, n, g1, vs, _, rfl, hn.2, hg1, hB, bi.1, bi.2, fun H2 p ys e2 f2 d2 hy => ⟨Same.trans e1 e2, p, ys, _, lst_of d2, hy, rfl⟩⟩
    · obtain ⟨e1, g1, vs, x, hg1, hB, rfl⟩ := p
      have bl := bd len hlen
      have s0 := Same.trans n3 e1
      let kb : Pb → Bool := fun b => decide (len % b.2 = 0) && (decide (b.1 = []) || !decide (b.1.getD 0 0 = - b.1.getD (b.1.length - 1) 0))
      refine ⟨.ref g1, rfl, g1, rfl, ⟨_, hg1⟩, fun D hD => lc_list (K := K) (a := g1) (xs := vs) (fun i H2 => Same H' H2 ∧ ∃ out, H2 D = some (.lst out) ∧ DpAll K H2 out ((((Rg.begs n len).take i).filter kb).map fun b => tupD b.1)) ⟨new_same hD, [], upd_same, .nil⟩ (fun i H2 _ q => same_lst q.1 hg1) (fun i x H2 hx q => ?_) fun H2 q => ?_⟩
      · obtain ⟨s2, out, hD2, hout⟩ := q
        obtain ⟨b, hb, hbx⟩ := hB.at i x hx
        have hrl := bl.2 b (List.mem_of_getElem? hb)
        cases hbx with
        | @mk t r row p ht1 hr1 hp hl2 =>
          refine ⟨t, _, rfl, same_tup s2 ht1, rfl, _, _, rfl, _, _, rfl, rfl, rfl, ?_⟩
          have hr2 := same_tup s2 hr1
          have hsu : (((Rg.begs n len).take (i + 1)).filter kb).map (fun b => tupD b.1) = (((Rg.begs n len).take i).filter kb).map (fun b => tupD b.1) ++ (if kb (row, p) = true then [tupD row] else []) := by
            rw [List.take_succ, hb, List.filter_append, List.map_append]
            congr 1
            show List.map _ (List.filter kb [(row, p)]) = _
            rw [List.filter_cons, List.filter_nil]
            split <;> rfl
          refine (eb_as (eb_and2 (eb_test (es_eqI (es_modI (es_vV rfl) (es_vV (v := .int (p : Int)) rfl) (by have := hp.1; omega)) (es_cV (v := .int 0)))) (b := decide (row = []) || !decide (row.getD 0 0 = - row.getD (row.length - 1) 0)) fun _ => eb_or2 (eb_test (es_eqT (K := K) (es_vT rfl hr2) es_t0)) fun h1 => ?_) ?_ : EvB _ _ H2 (kb (row, p))) H2 (Same.refl _) _ fun H3 e3 => ?_
          · have hrow : row ≠ [] := of_decide_eq_false h1
            refine eb_test (es_neI (es_ixT (K := K) (es_vT rfl hr2) (es_cV (v := .int 0)) (at_int (j := 0) rfl (List.length_pos_iff.mpr hrow))) (es_u (f := fun i => V.int (-i)) (es_ixT (K := K) (es_vT rfl hr2) (es_u (f := fun i => V.int (-i)) (es_cV (v := .int 1))) (at_last hrow))))
          · show (_ && _) = (_ && _)
            congr 1
            rw [Bool.eq_iff_iff, decide_eq_true_iff, decide_eq_true_iff, ← Int.natCast_emod]
            show ((len % p : Nat) : Int) = 0 ↔ len % p = 0
            omega
          · cases hk : kb (row, p) with
            | true =>
              rw [hk, if_pos rfl] at hsu
              have hD3 := e3 _ _ hD2
              refine ⟨.ref r, rfl, out, hD3, Nat.lt_of_le_of_lt (m := 1000) ?_ (by decide), same_mut (Same.trans s2 e3) hD, _, upd_same, ?_⟩
              · have := dpa_len hout
                rw [List.length_map] at this
                have h1 := List.length_filter_le kb ((Rg.begs n len).take i)
                have h2 := bl.1
                rw [List.length_take] at h1
                have h2 : (Rg.begs n len).length ≤ 1000 := h2
                omega
              · rw [hsu]
                refine dpa_snoc ?_ (dp_tup (tup_mut hD3 (same_tup e3 hr2)))
                have ec : ∀ l : List Pb, l.map (fun b => tupD b.1) = (l.map (·.1)).map tupD := fun l => by rw [List.map_map]; rfl
                rw [ec]
                exact dpa_mutR hD3 (ec _ ▸ dpa_same e3 _ _ hout)
            | false =>
              rw [hk, if_neg (by decide), List.append_nil] at hsu
              refine ⟨Same.trans s2 e3, out, e3 _ _ hD2, ?_⟩
              rw [hsu]
              exact dpa_same e3 _ _ hout
      · obtain ⟨s2, out, hD2, hout⟩ := q
        have : (Rg.begs n len).take vs.length = Rg.begs n len := List.take_of_length_le (by rw [hB.len]; exact Nat.le_refl _)
        rw [this] at hout
        refine k D out H2 (Same.trans s0 s2) hD2 (by have h1 := dpa_len hout; rw [List.length_map] at h1; have h2 := List.length_filter_le kb (Rg.begs n len); have h3 : (Rg.begs n len).length ≤ 1000 := bl.1; omega) ?_
        show DpAll K H2 out ((((Rg.begs n len).filter kb).map (·.1)).map tupD)
        rw [List.map_map]
        exact hout
theorem cl_rings_with (T : Txt K mg) : Cl P w K mg base 3 "rings_with" (spRingsWith K) := by
  obtain ⟨f, fd, F, hm, hb⟩ := T.f_rings_with
  exact cl_of (ok_rings_with F T) hm F.kp hb
def spRings (K : PySem.W.Frag) : SpG := fun vs H Q _ => ∃ (n len : Nat), vs = [.int (n : Int), .int (len : Int)] ∧ (∃ s ∈ Rg.sizes, n = s.1 ∧ len ≤ s.2) ∧ ∀ out H', Same H H' → DpAll K H' out ((Rg.ringsC n len).map tupD) → Q out H'
theorem cl_rings_of (T : Txt K mg) : GCl P w K mg base 4 "rings_of" (spRings K) := by
  have c_check_letters : Cl P w K mg base 3 "check_letters" spChkLetters := cl_check_letters T
  have c_is_within : Cl P w K mg base 2 "is_within" spWithin := cl_is_within T
  have c_rings_with : Cl P w K mg base 3 "rings_with" (spRingsWith K) := cl_rings_with T
  obtain ⟨f, fd, F, hm, hb⟩ := T.f_rings_of
  refine gcl_of F sc_rings_of hm hb (fun vs H Q E h => ?_) fun cdv A outer s H vs Q E pn hr h => ?_
  · obtain ⟨n, len, rfl, _⟩ := h
    rfl
  · obtain ⟨n, len, rfl, hs, k⟩ := h
    refine ⟨_, (gss_cons (gs_ps (ps_expr (pe_f c_check_letters hr (by decide) rfl (pa_cons (pv 0) pa_nil)))) (gss_cons (gs_ps (ps_if (pt_not (pt_val (pe_f c_is_within hr (by decide) rfl (pa_cons (pv 1) (pa_cons pe_int (pa_cons (pe_glob rfl T.c_MOST_LISTED.choose_spec rel_int) pa_nil)))))) (pss_one ps_never) pss_nil)) (gss_cons (gs_yieldFrom (yf_list (pe_f c_rings_with hr (by decide) rfl (pa_cons (pv 0) (pa_cons (pv 1) pa_nil)))) hr.hd) gss_nil))), ?_⟩
    have hs' := hs
    obtain ⟨sz, hsz, rfl, hlen⟩ := hs'
    obtain ⟨n, m⟩ := sz
    dsimp only at hlen k hs ⊢
    have hn : 1 ≤ n ∧ n ≤ 5 := sizes_n hsz
    have hm6 : m ≤ 6 := sizes_m hsz
    refine ⟨.int (n : Int), rfl, n, rfl, by omega, by omega, .int (len : Int), rfl, len, 0, 6, rfl, _, rfl, ?_⟩
    rw [decide_eq_true (show (0 : Int) ≤ (len : Int) ∧ (len : Int) ≤ 6 from ⟨by omega, by omega⟩)]
    exact ⟨.int (n : Int), rfl, .int (len : Int), rfl, n, len, rfl, hs, fun D out H1 e1 d1 ol hout => ⟨D, out, rfl, d1, by show 0 + out.length ≤ sizeLine; exact Nat.le_trans (Nat.le_of_eq (Nat.zero_add _)) (Nat.le_trans ol (by decide)), k out H1 e1 hout⟩⟩
def extsW (w : List Int) (es : List Int) : List (List Int) := (es.filter fun e => decide (w = []) || !decide (w.getD (w.length - 1) 0 = -e)).map fun e => w ++ [e]
def entsK (n k : Nat) : List Int := ((List.range k).map fun (k : Nat) => (k : Int) - (n : Int)).filter fun e => !decide (e = 0)
theorem extsW_succ (w : List Int) (n k : Nat) : extsW w (entsK n (k + 1)) = extsW w (entsK n k) ++ (if (!decide ((k : Int) - (n : Int) = 0) && (decide (w = []) || !decide (w.getD (w.length - 1) 0 = 0 - ((k : Int) - (n : Int))))) = true then [w ++ [(k : Int) - (n : Int)]] else []) := by
  unfold extsW entsK
  rw [List.range_succ, List.map_append, List.filter_append, List.filter_append, List.map_append]
  congr 1
  show List.map _ (List.filter _ (List.filter _ [(k : Int) - (n : Int)])) = _
  rw [Int.zero_sub]
  rw [List.filter_cons, List.filter_nil]
  cases h1 : decide ((k : Int) - (n : Int) = 0) with
  | true => rfl
  | false =>
    rw [show (!false) = true from rfl, if_pos rfl, List.filter_cons, List.filter_nil, Bool.true_and]
    split <;> rfl
theorem exts_len (w es : List Int) : (extsW w es).length ≤ es.length := by
  unfold extsW
  rw [List.length_map]
  exact List.length_filter_le _ _
theorem entsK_len (n k : Nat) : (entsK n k).length ≤ k := Nat.le_trans (List.length_filter_le _ _) (by rw [List.length_map, List.length_range]; exact Nat.le_refl _)
theorem flatW_len (es : List Int) : ∀ ws : List (List Int), ((ws.map fun w => extsW w es).flatten).length ≤ ws.length * es.length
  | [] => Nat.zero_le _
  | w :: ws => by
    show (extsW w es ++ (ws.map fun w => extsW w es).flatten).length ≤ (ws.length + 1) * es.length
    rw [List.length_append, Nat.succ_mul]
    have h1 := exts_len w es
    have h2 := flatW_len es ws
    omega
theorem wordsC_flat (n k : Nat) : Rg.wordsC n (k + 1) = ((Rg.wordsC n k).map fun w => extsW w (entsK n (2 * n + 1))).flatten := rfl
theorem words_dec : (Rg.sizes.all fun s => (List.range (s.2 + 1)).all fun k => decide ((Rg.wordsC s.1 k).length ≤ 1000) && (Rg.wordsC s.1 k).all fun w => decide (w.length ≤ 10) && nfB w && w.all fun e => !decide (e = 0) && decide (-(s.1 : Int) ≤ e) && decide (e ≤ (s.1 : Int))) = true := by decide +kernel
theorem words_ok {s : Nat × Nat} (h : s ∈ Rg.sizes) {k : Nat} (hk : k ≤ s.2) : (Rg.wordsC s.1 k).length ≤ 1000 ∧ ∀ w ∈ Rg.wordsC s.1 k, w.length ≤ 10 ∧ Wd (s.1 : Int) w := by
  have h1 := List.all_eq_true.mp (List.all_eq_true.mp words_dec s h) k (List.mem_range.mpr (by omega))
  rw [Bool.and_eq_true] at h1
  refine ⟨of_decide_eq_true h1.1, fun w hw => ?_⟩
  have h2 := List.all_eq_true.mp h1.2 w hw
  rw [Bool.and_eq_true, Bool.and_eq_true] at h2
  refine ⟨of_decide_eq_true h2.1.1, ⟨fun e he => ?_, nfB_iff.mp h2.1.2⟩⟩
  have h3 := List.all_eq_true.mp h2.2 e he
  rw [Bool.and_eq_true, Bool.and_eq_true] at h3
  exact ⟨of_decide_eq_false (by simpa using h3.1.1), of_decide_eq_true h3.1.2, of_decide_eq_true h3.2⟩
def spAllW (K : PySem.W.Frag) : Sp := fun vs H Q _ => ∃ (n len : Nat), vs = [.int (n : Int), .int (len : Int)] ∧ n ≤ 5 ∧ len ≤ 10 ∧ (∀ k ≤ len, (Rg.wordsC n k).length ≤ 1000 ∧ ∀ w ∈ Rg.wordsC n k, w.length ≤ 10) ∧
  ∀ H' p ys, Same H H' → H p = none → H' p = some (.lst ys) → DpAll K H' ys ((Rg.wordsC n len).map tupD) → Q (.ref p) H'
theorem dpa_mut {H : Hp} {D : Addr} {ys : List V} {o : HO} (d : H D = some (.lst ys)) : ∀ {vs : List V} {ts : List (List Int)}, DpAll K H vs (ts.map tupD) → DpAll K (upd H D o) vs (ts.map tupD)
  | [], [], _ => .nil
  | _ :: _, [], h => nomatch h
  | [], _ :: _, h => nomatch h
  | v :: vs, t :: ts, .cons h g => by
    refine .cons ?_ (dpa_mut d g)
    cases h with
    | tup ha hd =>
      rw [dpa_ints hd] at ha
      exact dp_tup (tup_mut d ha)
theorem dpa_at {H : Hp} : ∀ {vs : List V} {ts : List (List Int)} (i : Nat) (v : V), DpAll K H vs (ts.map tupD) → vs[i]? = some v → ∃ t a, ts[i]? = some t ∧ v = .ref a ∧ SqT K H a (t.map V.int)
  | [], _, i, v, _, h => nomatch h
  | _ :: _, [], i, v, h, _ => nomatch h
  | v :: vs, t :: ts, 0, x, .cons h g, hx => by
    cases hx
    cases h with
    | tup ha hd =>
      rw [dpa_ints hd] at ha
      exact ⟨t, _, rfl, rfl, ha⟩
  | v :: vs, t :: ts, i + 1, x, .cons h g, hx => dpa_at (vs := vs) i x g hx
theorem ok__law_all_words {f : Addr} {fd : FuncData} (F : Fun K "_law_all_words" "_law_all_words" st__law_all_words f fd) (T : Txt K mg) : FnOk P w K mg base CX0 1 f fd ["letters", "length"] (spAllW K) := by
  refine F.ok sc__law_all_words (fun vs H Q E h => ?_) (fun cdv A outer s H vs Q E hr h => ?_)
  · obtain ⟨n, len, rfl, _⟩ := h
    rfl
  · obtain ⟨n, len, rfl, hn, hlen, hok, k⟩ := h
    refine ⟨_, (pss_cons (ps_set (i := 2) sc__law_all_words.nd rfl (Or.inl rfl) (pe_lst (pa_cons (pe_tup pa_nil) pa_nil))) (pss_cons (ps_for PassesOwn.never rfl (pi_range1 rfl T.n_range (pa_cons (pv 1) pa_nil)) (pg_name (i := 3) sc__law_all_words.nd rfl (Or.inl rfl)) (pss_cons (ps_set (i := 4) sc__law_all_words.nd rfl (Or.inl rfl) (pe_lst pa_nil)) (pss_cons (ps_for PassesOwn.never rfl (kpi_list (K := K) (pe_callTy (kcall_list (K := K)) (by rfl) T.n_list bo_list (pa_cons (pv 2) pa_nil))) (pg_name (i := 5) sc__law_all_words.nd rfl (Or.inl rfl)) (pss_one (ps_for PassesOwn.never rfl (pi_range2 rfl T.n_range (pa_cons (pe_op op_sub pe_int (pv 0)) (pa_cons (pe_op op_add (pv 0) pe_int) pa_nil))) (pg_name (i := 6) sc__law_all_words.nd rfl (Or.inl rfl)) (pss_one (ps_if (PW.pt (pw_and (pt_cmpR op_ne (pv 6) pe_int (nomark _)) (pw_and1 (PW.pt (pw_or (pt_cmpR (kop_eqD (K := K) hr.units) (pv 5) (pe_tup pa_nil) (nomark _)) (pw_or1 (pt_cmpR op_ne (pe_ix (kix_tup (K := K)) (pv 5) (pe_un un_neg pe_int) (fun _ _ => rfl)) (pe_op op_sub pe_int (pv 6)) (nomark _)))))))) (pss_one (ps_expr (pe_bm PySem.F.plainAttrs_list PySem.F.slot_list_append PySem.F.type_list_append mt_append (pv 4) (pa_cons (pe_op (kop_catA (K := K)) (pv 5) (pe_tup (pa_cons (pv 6) pa_nil))) pa_nil)))) pss_nil))))) (pss_one (ps_set (i := 2) sc__law_all_words.nd rfl (Or.inl rfl) (pe_callTy (kcall_list (K := K)) (by rfl) T.n_list bo_list (pa_cons (pv 4) pa_nil))))))) (pss_one (ps_ret (pv 2))))), ?_⟩
    refine ⟨Nat.zero_le _, fun z hz => ⟨by show 1 ≤ sizeLine; decide, fun g hg => ?_⟩⟩
    have n1 : Same H (upd H z (.tup [])) := new_same hz
    have n2 := Same.trans n1 (new_same (o := .lst [.ref z]) hg)
    have fg : H g = none := Same.free n1 hg
    have dz := new_same (o := .lst [.ref z]) hg _ _ (upd_same (H := H) (a := z) (o := .tup []))
    have dg : upd (upd H z (.tup [])) g (.lst [.ref z]) g = some (.lst [.ref z]) := upd_same
    generalize upd (upd H z (.tup [])) g (.lst [.ref z]) = H1 at n2 dz dg
    have b0 : DpAll K H1 [.ref z] ((Rg.wordsC n 0).map tupD) := .cons (dp_tup (ns := []) (tup_of dz)) .nil
    refine ⟨.int (len : Int), rfl, len, rfl, by omega, by omega, for_range (lo := 0) (n := len) (fun i σ H' => Same H H' ∧ ∃ (g : Addr) (vs : List V) (x3 x4 x5 x6 : Option V), H g = none ∧ H' g = some (.lst vs) ∧ DpAll K H' vs ((Rg.wordsC n i).map tupD) ∧ σ = [some (.int (n : Int)), some (.int (len : Int)), some (.ref g), x3, x4, x5, x6]) ⟨n2, g, _, none, none, none, none, fg, dg, b0, rfl⟩ (fun i σ H' hi p => ?_) fun σ H' p => ?_⟩
    · obtain ⟨e1, g1, vs, x3, x4, x5, x6, f1, d1, hB, rfl⟩ := p
      have bi := hok i (by omega)
      have bi1 := hok (i + 1) (by omega)
      rw [wordsC_flat] at bi1
      refine ⟨Nat.zero_le _, fun l hl => ⟨.ref g1, rfl, g1, vs, rfl, .inl (lst_of (new_same hl _ _ d1)), fun c hc => ⟨c, rfl, ⟨_, lst_of upd_same⟩, ?_⟩⟩⟩
      have el : Same H' (upd H' l (.lst [])) := new_same hl
      have hcl : c ≠ l := fun q => by rw [q, upd_same] at hc; cases hc
      have fl : H l = none := Same.free e1 hl
      have s2 := Same.trans el (new_same (o := .lst vs) hc)
      have dl : upd (upd H' l (.lst [])) c (.lst vs) l = some (.lst []) := by rw [upd_ne (fun q => hcl q.symm)]; exact upd_same
      have dc : upd (upd H' l (.lst [])) c (.lst vs) c = some (.lst vs) := upd_same
      generalize upd (upd H' l (.lst [])) c (.lst vs) = H2 at s2 dl dc
      refine for_list (K := K) (a := c) (xs := vs) (fun j σ H3 => Same H' H3 ∧ H3 c = some (.lst vs) ∧ (∃ ys, H3 l = some (.lst ys) ∧ DpAll K H3 ys (((((Rg.wordsC n i).take j).map fun w => extsW w (entsK n (2 * n + 1))).flatten).map tupD)) ∧ ∃ x5 x6, σ = [some (.int (n : Int)), some (.int (len : Int)), some (.ref g1), some (.int (0 + (i : Int))), some (.ref l), x5, x6]) ⟨s2, dc, ⟨[], dl, .nil⟩, x5, x6, rfl⟩ (fun j σ H3 _ q => lst_of q.2.1) (fun j x σ H3 hx q => ?_) fun σ H3 q => ?_
      · obtain ⟨s3, dc3, ⟨ys, dl3, hys⟩, x5, x6, rfl⟩ := q
        obtain ⟨w0, a, hw0, rfl, ha⟩ := dpa_at j x hB hx
        have hwl : w0.length ≤ 10 ∧ True := ⟨bi.2 w0 (List.mem_of_getElem? hw0), True.intro⟩
        have hsum : ∀ kk, kk ≤ 11 → ((((Rg.wordsC n i).take j).map fun w => extsW w (entsK n (2 * n + 1))).flatten).length + (extsW w0 (entsK n kk)).length ≤ 100000 := fun kk hk => by
          have h1 := flatW_len (entsK n (2 * n + 1)) ((Rg.wordsC n i).take j)
          have h2 := exts_len w0 (entsK n kk)
          have h3 := entsK_len n kk
          have h4 := entsK_len n (2 * n + 1)
          have h5 : ((Rg.wordsC n i).take j).length ≤ 1000 := Nat.le_trans (by rw [List.length_take]; exact Nat.min_le_right _ _) bi.1
          have h6 := Nat.mul_le_mul h5 (show (entsK n (2 * n + 1)).length ≤ 11 by omega)
          omega
        have ha3 := same_tup s3 ha
        refine ⟨.int (n : Int), rfl, 0, n, rfl, rfl, .int (n : Int), rfl, n, 1, rfl, rfl, 0 - (n : Int), (n : Int) + 1, rfl, ⟨by omega, by omega, by omega, by omega⟩, ?_⟩
        rw [show ((n : Int) + 1 - (0 - (n : Int))).toNat = 2 * n + 1 by omega]
        refine for_range (lo := 0 - (n : Int)) (n := 2 * n + 1) (fun kk σ H4 => Same H' H4 ∧ H4 c = some (.lst vs) ∧ (∃ ys, H4 l = some (.lst ys) ∧ DpAll K H4 ys ((((((Rg.wordsC n i).take j).map fun w => extsW w (entsK n (2 * n + 1))).flatten) ++ extsW w0 (entsK n kk)).map tupD)) ∧ ∃ x6, σ = [some (.int (n : Int)), some (.int (len : Int)), some (.ref g1), some (.int (0 + (i : Int))), some (.ref l), some (.ref a), x6]) ⟨s3, dc3, ⟨ys, dl3, by rw [show extsW w0 (entsK n 0) = [] from rfl, List.append_nil]; exact hys⟩, x6, rfl⟩ (fun kk σ H4 hk q => ?_) fun σ H4 q => ?_
        · obtain ⟨s4, dc4, ⟨ys4, dl4, hys4⟩, x6, rfl⟩ := q
          have ha4 := same_tup s4 ha
          have ev : 0 - (n : Int) + (kk : Int) = (kk : Int) - (n : Int) := by omega
          rw [ev]
          have hsu := extsW_succ w0 n kk
          refine ifs_1 (b := !decide ((kk : Int) - (n : Int) = 0) && (decide (w0 = []) || !decide (w0.getD (w0.length - 1) 0 = 0 - ((kk : Int) - (n : Int))))) (eb_and2 (eb_test (es_neI (es_vV rfl) (es_cV (v := .int 0)))) fun _ => eb_or2 (eb_test (es_eqT (K := K) (es_vT rfl ha4) es_t0)) fun h1 => eb_test (es_neI (es_ixT (K := K) (es_vT rfl ha4) (es_u (f := fun i => V.int (-i)) (es_cV (v := .int 1))) (at_last (of_decide_eq_false h1))) (es_i0 (f := fun i j => V.int (i - j)) (es_cV (v := .int 0)) (es_vV rfl)))) (fun hb H5 e5 => ?_) fun hb H5 e5 => ?_
          · rw [hb, if_pos rfl] at hsu
            refine drop_app (K := K) (i := 4) (l := l) rfl (e5 _ _ dl4) ?_ (es_cat (es_vT rfl (same_tup e5 ha4)) (es_t1 (es_vV rfl)) ?_) fun v H6 e6 dl6 hv => ?_
            · have h1 := dpa_len hys4
              rw [List.length_map, List.length_append] at h1
              have h2 := hsum kk (by omega)
              omega
            · show w0.length + 1 ≤ 100000
              have := hwl.1
              omega
            · obtain ⟨p6, rfl, h6⟩ := hv
              refine ⟨same_mut (Same.trans s4 (Same.trans e5 e6)) hl, ?_, ⟨_, upd_same, ?_⟩, _, rfl⟩
              · rw [upd_ne hcl]
                exact e6 _ _ (e5 _ _ dc4)
              · rw [hsu, ← List.append_assoc, List.map_append]
                refine dpa_snoc (dpa_mut dl6 (dpa_same (Same.trans e5 e6) _ _ hys4)) (dp_tup (tup_mut dl6 h6))
          · rw [hb, if_neg (by decide), List.append_nil] at hsu
            refine ⟨Same.trans s4 e5, e5 _ _ dc4, ⟨ys4, e5 _ _ dl4, ?_⟩, _, rfl⟩
            rw [hsu]
            exact dpa_same e5 _ _ hys4
        · obtain ⟨s4, dc4, ⟨ys4, dl4, hys4⟩, x6, rfl⟩ := q
          refine ⟨s4, dc4, ⟨ys4, dl4, ?_⟩, _, _, rfl⟩
          rw [List.take_succ, hw0, List.map_append, List.flatten_append]
          show DpAll K H4 ys4 ((_ ++ (extsW w0 (entsK n (2 * n + 1)) ++ [])).map tupD)
          rw [List.append_nil]
          exact hys4
      · obtain ⟨s3, dc3, ⟨ys, dl3, hys⟩, x5, x6, rfl⟩ := q
        have et : (Rg.wordsC n i).take vs.length = Rg.wordsC n i := List.take_of_length_le (by have := dpa_len hB; rw [List.length_map] at this; omega)
        rw [et, ← wordsC_flat] at hys
        refine ⟨.ref l, rfl, l, ys, rfl, .inl (lst_of dl3), fun p hp => ⟨Same.trans e1 (Same.trans s3 (new_same hp)), p, ys, _, _, _, _, Same.free e1 (Same.free s3 hp), upd_same, dpa_same (new_same hp) _ _ hys, rfl⟩⟩
    · obtain ⟨e1, g1, vs, x3, x4, x5, x6, f1, d1, hB, rfl⟩ := p
      exact ⟨.ref g1, rfl, k _ _ _ e1 f1 d1 hB⟩
theorem cl__law_all_words (T : Txt K mg) : Cl P w K mg base 1 "_law_all_words" (spAllW K) := by
  obtain ⟨f, fd, F, hm, hb⟩ := T.f__law_all_words
  exact cl_of (ok__law_all_words F T) hm F.kp hb
def spLiked (K : PySem.W.Frag) : Sp := fun vs H Q _ => ∃ (S l : Addr) (xs : List V), vs = [.ref S, .ref l] ∧ Sk H (some S) ∧ S ≠ l ∧ SqL K H l xs ∧ xs ≠ [] ∧ xs.length ≤ 100000 ∧ ∀ H' (j : Nat) v, Rs (some S) H H' → xs[j]? = some v → Q v H'
theorem ok__law_liked {f : Addr} {fd : FuncData} (F : Fun K "_law_liked" "_law_liked" st__law_liked f fd) (T : Txt K mg) : FnOk P w K mg base CX0 2 f fd ["sack", "items"] (spLiked K) := by
  have c__law_drawn : Cl P w K mg base 1 "_law_drawn" spDrawn := cl__law_drawn T
  refine F.ok sc__law_liked (fun vs H Q E h => ?_) (fun cdv A outer s H vs Q E hr h => ?_)
  · obtain ⟨S, l, xs, rfl, _⟩ := h
    rfl
  · obtain ⟨S, l, xs, rfl, hS, hn, hl, he, hz, k⟩ := h
    have hp : 0 < xs.length := List.length_pos_iff.mpr he
    refine ⟨_, (pss_one (ps_ret (pe_ix (kix_list (K := K)) (pv 1) (pe_f c__law_drawn hr (by decide) rfl (pa_cons (pv 0) (pa_cons (pe_callB (kcall_len (K := K)) (by rfl) T.n_len bo_len (pa_cons (pv 1) pa_nil)) pa_nil))) (fun _ _ => rfl)))), ?_⟩
    refine ⟨.ref l, rfl, .ref S, rfl, .ref l, rfl, l, xs, rfl, .inl hl, S, _, rfl, hS, by omega, by omega, fun H1 r r1 a0 a1 => ?_⟩
    have hl1 : SqL K H1 l xs := r1.lst (fun q => hn (Option.some.inj q)) hl
    obtain ⟨j, rfl⟩ : ∃ j : Nat, r = (j : Int) := ⟨r.toNat, by omega⟩
    have hj : j < xs.length := by omega
    exact ⟨l, xs, _, _, rfl, rfl, hl1, atI_nat (List.getElem?_eq_getElem hj), k _ j _ r1 (List.getElem?_eq_getElem hj)⟩
theorem cl__law_liked (T : Txt K mg) : Cl P w K mg base 2 "_law_liked" (spLiked K) := by
  obtain ⟨f, fd, F, hm, hb⟩ := T.f__law_liked
  exact cl_of (ok__law_liked F T) hm F.kp hb
def pairsL : List (List Int) := [[1, 6], [2, 4], [2, 5], [3, 3], [4, 2], [5, 2]]
theorem pairs_in : ∀ t ∈ pairsL, ∃ s ∈ Rg.sizes, t = [(s.1 : Int), (s.2 : Int)] := by
  intro t ht
  have : (pairsL.all fun t => Rg.sizes.any fun s => decide (t = [(s.1 : Int), (s.2 : Int)])) = true := by decide
  have h1 := List.all_eq_true.mp this t ht
  rw [List.any_eq_true] at h1
  obtain ⟨s, h2, h3⟩ := h1
  exact ⟨s, h2, of_decide_eq_true h3⟩
theorem lists_at {n m len : Nat} (h : (n, m) ∈ Rg.sizes) (hl : len ≤ m) : Rg.ringsC n len = (Rg.wordsC n len).filter Rg.ownB :=
  of_decide_eq_true (List.all_eq_true.mp (List.all_eq_true.mp Rg.lists_ok (n, m) h) len (List.mem_range.mpr (by show len < m + 1; omega)))
theorem lens_at {n m len : Nat} (h : (n, m) ∈ Rg.sizes) (hl : len ≤ m) : Rg.numC n len = (Rg.ringsC n len).length :=
  of_decide_eq_true (List.all_eq_true.mp (List.all_eq_true.mp Rg.lens_ok (n, m) h) len (List.mem_range.mpr (by show len < m + 1; omega)))
theorem nums_at {n far : Nat} (h : 1 ≤ n ∧ n ≤ 5) (hf : far < 200) : Rg.numC n (far + 1) = Rg.numL n (far + 1) :=
  of_decide_eq_true (List.all_eq_true.mp (List.all_eq_true.mp Rg.nums_ok n (by simp only [List.mem_cons, List.not_mem_nil, or_false]; omega)) far (List.mem_range.mpr hf))
theorem add_is {H : Hp} {Q : VK} {i j v : Int} (e : i + j = v) (q : Q (.int v) H) : rI0 (fun i j => V.int (i + j)) (.int i) (.int j) H Q := ⟨i, j, rfl, rfl, by subst e; exact q⟩
theorem farL_in : ∀ x ∈ ([12, 40, 200] : List Int), 0 < x ∧ x ≤ 200 := by
  intro x hx
  simp only [List.mem_cons, List.not_mem_nil, or_false] at hx
  omega
def spRight : Sp := fun vs H Q _ => ∃ S : Addr, vs = [.ref S] ∧ Sk H (some S) ∧ ∀ H', Rs (some S) H H' → Q (.bl true) H'
theorem ok__law_right {f : Addr} {fd : FuncData} (F : Fun K "_law_right" "_law_right" st__law_right f fd) (T : Txt K mg) : FnOk P w K mg base CX0 8 f fd ["sack"] spRight := by
  have c__law_drawn : Cl P w K mg base 1 "_law_drawn" spDrawn := cl__law_drawn T
  have c__law_liked : Cl P w K mg base 2 "_law_liked" (spLiked K) := cl__law_liked T
  have gc_rings_of : GCl P w K mg base 4 "rings_of" (spRings K) := cl_rings_of T
  have c__law_all_words : Cl P w K mg base 1 "_law_all_words" (spAllW K) := cl__law_all_words T
  have c__law_ring : Cl P w K mg base 2 "_law_ring" (spLRing K) := cl__law_ring T
  have c_ring_number : Cl P w K mg base 4 "ring_number" (spNum K) := cl_ring_number T
  have c__law_number : Cl P w K mg base 3 "_law_number" spNumL := cl__law_number T
  refine F.ok sc__law_right (fun vs H Q E h => ?_) (fun cdv A outer s H vs Q E hr h => ?_)
  · obtain ⟨S, rfl, _⟩ := h
    rfl
  · obtain ⟨S, rfl, hS, k⟩ := h
    refine ⟨_, (pss_cons (ps_asg (pe_f c__law_liked hr (by decide) rfl (pa_cons (pv 0) (pa_cons (pe_lst (pa_cons (pe_tup (pa_cons pe_int (pa_cons pe_int pa_nil))) (pa_cons (pe_tup (pa_cons pe_int (pa_cons pe_int pa_nil))) (pa_cons (pe_tup (pa_cons pe_int (pa_cons pe_int pa_nil))) (pa_cons (pe_tup (pa_cons pe_int (pa_cons pe_int pa_nil))) (pa_cons (pe_tup (pa_cons pe_int (pa_cons pe_int pa_nil))) (pa_cons (pe_tup (pa_cons pe_int (pa_cons pe_int pa_nil))) pa_nil))))))) pa_nil))) (kpg_tup (K := K) (n := 2) rfl (pgs_cons (pg_name (i := 1) sc__law_right.nd rfl (Or.inl rfl)) (pgs_cons (pg_name (i := 2) sc__law_right.nd rfl (Or.inl rfl)) pgs_nil)))) (pss_cons (ps_par (i := 3) (j := 4) rfl sc__law_right.nd rfl rfl (by decide) rfl rfl (pa_cons (pe_f c__law_drawn hr (by decide) rfl (pa_cons (pv 0) (pa_cons (pe_op op_add (pv 2) pe_int) pa_nil))) (pa_cons (pe_op op_add pe_int (pe_f c__law_drawn hr (by decide) rfl (pa_cons (pv 0) (pa_cons (pe_f c__law_liked hr (by decide) rfl (pa_cons (pv 0) (pa_cons (pe_lst (pa_cons pe_int (pa_cons pe_int (pa_cons pe_int pa_nil)))) pa_nil))) pa_nil)))) pa_nil)) (by with_unfolding_all rfl)) (pss_cons (ps_set (i := 5) sc__law_right.nd rfl (Or.inl rfl) (pe_listC gc_rings_of hr (by decide) rfl (pa_cons (pv 1) (pa_cons (pv 3) pa_nil)) rfl T.n_list)) (pss_cons (ps_setLc (i := 6) (own := [("word", 7)]) rfl sc__law_right.nd rfl rfl (sw_true rfl rfl rfl (by decide +kernel)) (kpi_list (K := K) (pe_f c__law_all_words hr (by decide) rfl (pa_cons (pv 1) (pa_cons (pv 3) pa_nil)))) (blkOk_by (N := nm__law_right) (sc := defScope st__law_right) (by decide +kernel)) (fun _ _ _ _ _ => (pg_name (i := 7) sc__law_right.nd rfl (by first | exact Or.inl rfl | exact Or.inr rfl))) (fun _ _ _ _ _ => pts_one (pt_cmpR (kop_eqD (K := K) hr.units) (pe_f c__law_ring hr (by decide) rfl (pa_cons (pv 7) pa_nil)) (pv 7) (nomark _))) (fun _ _ _ _ _ => (pv 7))) (pss_cons (ps_if (PW.pt (pw_or (pt_cmpR (kop_neD (K := K) hr.units) (pv 5) (pv 6) (nomark _)) (pw_or1 (pt_cmpR op_ne (pe_f c_ring_number hr (by decide) rfl (pa_cons (pv 1) (pa_cons (pv 3) pa_nil))) (pe_callB (kcall_len (K := K)) (by rfl) T.n_len bo_len (pa_cons (pv 5) pa_nil)) (nomark _))))) (pss_one (ps_ret pe_bl)) pss_nil) (pss_one (ps_ret (pe_cmpR op_eq (pe_f c_ring_number hr (by decide) rfl (pa_cons (pv 1) (pa_cons (pv 4) pa_nil))) (pe_f c__law_number hr (by decide) rfl (pa_cons (pv 1) (pa_cons (pv 4) pa_nil))) (nomark _))))))))), ?_⟩
    have p2 : ∀ (a b : Int) {σ : L2.St} {H : Hp}, EvS (tTup (tCons (tC (.int a)) (tCons (tC (.int b)) tNil))) σ H (IsD K (tupD [a, b])) := fun a b {σ H} => es_tup (edc (es_int a) (edc (es_int b) ed0)) (by show 2 ≤ 1000; decide)
    have hd : EvS _ _ H _ := es_lstN (K := K) (ds := pairsL.map tupD) (σ := L2.start nm__law_right [V.ref S]) (edc (p2 1 6) (edc (p2 2 4) (edc (p2 2 5) (edc (p2 3 3) (edc (p2 4 2) (edc (p2 5 2) ed0)))))) (by decide)
    refine ⟨.ref S, rfl, hd H (Same.refl _) _ fun v H1 e1 hv1 => ?_⟩
    obtain ⟨l, vs, rfl, dl, hvs, fl⟩ := hv1
    have hln := dpa_len hvs
    rw [List.length_map] at hln
    refine ⟨S, l, vs, rfl, hS.same e1, ?_, lst_of dl, (fun q => by rw [q] at hln; cases hln), (by rw [hln]; decide), fun H2 j v r2 hv => ?_⟩
    · intro q
      obtain ⟨x, y, z, e⟩ := hS
      rw [q, fl] at e
      cases e
    obtain ⟨t, a, ht, rfl, ha⟩ := dpa_at j v hvs hv
    obtain ⟨sz, hsz, rfl⟩ := pairs_in t (List.mem_of_getElem? ht)
    have ha2 := r2.tup ha
    obtain ⟨n, m⟩ := sz
    have hn := sizes_n hsz
    have hm := sizes_m hsz
    dsimp only at ha2 hn hm
    refine ⟨a, _, rfl, ha2, rfl, _, _, rfl, _, _, rfl, rfl, ?_⟩
    refine ⟨.ref S, rfl, .int (m : Int), rfl, m, 1, rfl, rfl, S, (m : Int) + 1, rfl, r2.s1, by omega, by omega, fun H3 r r3 a0 a1 => ?_⟩
    have hd3 : EvS _ _ H3 _ := es_lstN (K := K) (ds := ([12, 40, 200] : List Int).map PyData.int) (σ := [some (.ref S), some (.int (n : Int)), some (.int (m : Int)), none, none, none, none, none]) (edc (es_int 12) (edc (es_int 40) (edc (es_int 200) ed0))) (by decide)
    refine ⟨.ref S, rfl, .ref S, rfl, hd3 H3 (Same.refl _) _ fun v H4 e4 hv4 => ?_⟩
    obtain ⟨l3, vs3, rfl, dl3, hvs3, fl3⟩ := hv4
    have hln3 := dpa_len hvs3
    have hvi := dpa_ints hvs3
    have hS3 := r3.s1
    refine ⟨S, l3, vs3, rfl, hS3.same e4, ?_, lst_of dl3, (fun q => by rw [q] at hln3; cases hln3), (by rw [hln3]; decide), fun H5 j2 v r5 hv2 => ?_⟩
    · intro q
      obtain ⟨x, y, z, e⟩ := hS3
      rw [q, fl3] at e
      cases e
    rw [hvi, List.getElem?_map] at hv2
    cases hx : ([12, 40, 200] : List Int)[j2]? with
    | none => rw [hx] at hv2; cases hv2
    | some x =>
      rw [hx] at hv2
      cases hv2
      have hx2 := farL_in x (List.mem_of_getElem? hx)
      refine ⟨S, x, rfl, r5.s1, by omega, by omega, fun H6 y r6 b0 b1 => ?_⟩
      obtain ⟨len, rfl⟩ : ∃ len : Nat, r = (len : Int) := ⟨r.toNat, by omega⟩
      obtain ⟨far, rfl⟩ : ∃ far : Nat, y = (far : Int) := ⟨y.toNat, by omega⟩
      have hlm : len ≤ m := by omega
      have hfar : far < 200 := by omega
      have ef : (1 : Int) + (far : Int) = ((far + 1 : Nat) : Int) := by omega
      refine add_is ef ⟨_, _, rfl, ?_⟩
      have rAll : Rs (some S) H H6 := (((Rs.same hS e1).tr r2).tr r3).tr ((Rs.same r3.s1 e4).tr (r5.tr r6))
      clear r2 r3 r5 r6 a0 a1 b0 b1 e4 dl3 hvs3 hvi hd3 hd hln3 hx ef
      have hw := words_ok hsz (k := len) hlm
      have hlists : Rg.ringsC n len = (Rg.wordsC n len).filter Rg.ownB := lists_at hsz hlm
      refine ⟨.int (n : Int), rfl, .int (len : Int), rfl, n, len, rfl, ⟨(n, m), hsz, rfl, hlm⟩, fun out H7 e7 hout pt hpt => ?_⟩
      have ht7 := dpa_same (new_same (o := .lst out) hpt) _ _ hout
      have dt7 : upd H7 pt (.lst out) pt = some (.lst out) := upd_same
      have s78 : Same H7 (upd H7 pt (.lst out)) := new_same hpt
      generalize upd H7 pt (.lst out) = H8 at ht7 dt7 s78
      refine ⟨.int (n : Int), rfl, .int (len : Int), rfl, n, len, rfl, by omega, by omega, fun kk hk => ⟨(words_ok hsz (k := kk) (by omega)).1, fun w hw => ((words_ok hsz (k := kk) (by omega)).2 w hw).1⟩, fun H9 pw ws e9 f9 d9 hws => ⟨pw, rfl, ⟨_, lst_of d9⟩, fun D hD => ?_⟩⟩
      refine lc_list (K := K) (a := pw) (xs := ws) (fun i H' => Same H9 H' ∧ ∃ acc, H' D = some (.lst acc) ∧ DpAll K H' acc ((((Rg.wordsC n len).take i).filter Rg.ownB).map tupD)) ⟨new_same hD, [], upd_same, .nil⟩ (fun i H2 _ z => lst_of (z.1 _ _ d9)) (fun i x H2 hx z => ?_) fun H2 z => ?_
      · obtain ⟨z1, acc, z2, z3⟩ := z
        obtain ⟨w0, a0, hw0, rfl, ha0⟩ := dpa_at i x hws hx
        have hwo := hw.2 w0 (List.mem_of_getElem? hw0)
        refine ⟨rfl, .ref a0, rfl, n, a0, w0, rfl, same_tup z1 ha0, hwo.2, by omega, fun G p r eg hr hp => ⟨.ref a0, rfl, eq_tup hp (same_tup eg (same_tup z1 ha0)) ⟨_, rfl, ?_⟩⟩⟩
        rw [Rg.own_iff hr]
        have es : (((Rg.wordsC n len).take (i + 1)).filter Rg.ownB).map tupD = (((Rg.wordsC n len).take i).filter Rg.ownB).map tupD ++ (if Rg.ownB w0 = true then [tupD w0] else []) := by
          rw [List.take_succ, hw0, List.filter_append, List.map_append]
          congr 1
          show List.map tupD (List.filter Rg.ownB [w0]) = _
          rw [List.filter_cons, List.filter_nil]
          split <;> rfl
        refine ite2 (fun hb => ?_) fun hb => ?_
        · rw [if_pos hb] at es
          have hl1 := dpa_len z3
          rw [List.length_map] at hl1
          have hl2 := List.length_filter_le Rg.ownB ((Rg.wordsC n len).take i)
          have hl3 : (Rg.wordsC n len).length ≤ 1000 := hw.1
          rw [List.length_take] at hl2
          refine ⟨.ref a0, rfl, acc, eg _ _ z2, small1000 (by omega), same_mut (Same.trans z1 eg) hD, _, upd_same, ?_⟩
          rw [es]
          exact dpa_snoc (dpa_mut (eg _ _ z2) (dpa_same eg _ _ z3)) (dp_tup (tup_mut (eg _ _ z2) (same_tup eg (same_tup z1 ha0))))
        · rw [if_neg hb, List.append_nil] at es
          refine ⟨Same.trans z1 eg, acc, eg _ _ z2, ?_⟩
          rw [es]
          exact dpa_same eg _ _ z3
      · obtain ⟨z1, acc, z2, z3⟩ := z
        have hwl := dpa_len hws
        rw [List.length_map] at hwl
        rw [List.take_of_length_le (by omega), ← hlists] at z3
        have t5 : Dp K H2 (.ref pt) (rowsD (Rg.ringsC n len)) := dp_rows (lst_of (z1 _ _ (e9 _ _ dt7))) (dpa_same (Same.trans e9 z1) _ _ ht7)
        have t6 : Dp K H2 (.ref D) (rowsD (Rg.ringsC n len)) := dp_rows (lst_of z2) z3
        refine ifno_seq (eb_or (eb_as (eb_test (es_neD (K := K) (es_var rfl t5) (es_var rfl t6) (shaped_rows _) (shaped_rows _))) ?_) (eb_as (eb_test (es_neI (fun G e Q q => ⟨.int (n : Int), rfl, .int (len : Int), rfl, n, len, rfl, hn.1, hn.2, by omega, fun G' e' => q _ _ e' rfl⟩) (es_lenD (K := K) (es_var rfl t5)))) ?_)) fun H' e' => ?_
        · rw [eqv_rowsD, decide_eq_true rfl]
          rfl
        · rw [List.length_map, lens_at hsz hlm, decide_eq_true rfl]
          rfl
        · refine ⟨.int (n : Int), rfl, .int ((far + 1 : Nat) : Int), rfl, n, far + 1, rfl, hn.1, hn.2, by omega, fun G e => ⟨.int (n : Int), rfl, .int ((far + 1 : Nat) : Int), rfl, n, far + 1, rfl, hn.2, by omega, by omega, rfl, ?_⟩⟩
          rw [nums_at hn hfar, decide_eq_true rfl]
          exact k _ (rAll.tr (Rs.same rAll.s1 (Same.trans (Same.trans e7 s78) (Same.trans (Same.trans e9 z1) (Same.trans e' e)))))
theorem cl__law_right (T : Txt K mg) : Cl P w K mg base 8 "_law_right" spRight := by
  obtain ⟨f, fd, F, hm, hb⟩ := T.f__law_right
  exact cl_of (ok__law_right F T) hm F.kp hb
def spLaw (K : PySem.W.Frag) : Sp := fun vs H Q _ => ∃ (a : Addr) (ns : List Int), vs = [.ref a] ∧ SqL K H a (ns.map V.int) ∧ ns.length ≤ 63 ∧ ∀ H', Q (.bl true) H'
section
variable {H : Hp} {σ : L2.St}
theorem es_rings (n len : Nat) (h : ∃ s ∈ Rg.sizes, n = s.1 ∧ len ≤ s.2) : EvS (tListG (tCallG (spRings K) [] E0 (tCons (tC (.int (n : Int))) (tCons (tC (.int (len : Int))) tNil)))) σ H (IsD K (rowsD (Rg.ringsC n len))) := fun H1 e Q q =>
  ⟨n, len, rfl, h, fun out H2 e2 hd p hp => q _ _ (Same.trans e2 (new_same hp)) (dp_rows (lst_of upd_same) (dpa_same (new_same hp) _ _ hd))⟩
theorem es_num (n len : Nat) (h : 1 ≤ n ∧ n ≤ 5) (hl : len ≤ 200) : EvS (tFn (spNum K) (tCons (tC (.int (n : Int))) (tCons (tC (.int (len : Int))) tNil))) σ H (IsD K (.int (Rg.numC n len))) := fun H1 e Q q =>
  ⟨n, len, rfl, h.1, h.2, hl, fun H2 e2 => q _ _ e2 (.int _)⟩
theorem i1 (a : Int) : EvS (tTup (tCons (tC (.int a)) tNil)) σ H (IsD K (tupD [a])) := es_tup (edc (es_int a) ed0) (by show 1 ≤ 1000; decide)
theorem ip (a b : Int) : EvS (tTup (tCons (tC (.int a)) (tCons (tC (.int b)) tNil))) σ H (IsD K (tupD [a, b])) := es_tup (edc (es_int a) (edc (es_int b) ed0)) (by show 2 ≤ 1000; decide)
theorem inn (a b : Int) : EvS (tTup (tCons (tUn (rU fun i => V.int (-i)) (tC (.int a))) (tCons (tUn (rU fun i => V.int (-i)) (tC (.int b))) tNil))) σ H (IsD K (tupD [-a, -b])) := es_tup (edc (es_neg a) (edc (es_neg b) ed0)) (by show 2 ≤ 1000; decide)
theorem inp (a b : Int) : EvS (tTup (tCons (tUn (rU fun i => V.int (-i)) (tC (.int a))) (tCons (tC (.int b)) tNil))) σ H (IsD K (tupD [-a, b])) := es_tup (edc (es_neg a) (edc (es_int b) ed0)) (by show 2 ≤ 1000; decide)
end
theorem rings13 : Rg.ringsC 1 3 = [[-1, -1, -1], [1, 1, 1]] := by decide
theorem rings40 : Rg.ringsC 4 0 = [[]] := by decide
theorem rings22 : Rg.ringsC 2 2 = [[-2, -2], [-2, -1], [-2, 1], [-1, -1], [-1, 2], [1, 1], [1, 2], [2, 2]] := by decide
theorem ok_law {f : Addr} {fd : FuncData} (F : Fun K "law" "law" st_law f fd) (T : Txt K mg) : FnOk P w K mg base CX0 9 f fd ["script"] (spLaw K) := by
  have c__law_right : Cl P w K mg base 8 "_law_right" spRight := cl__law_right T
  have c__law_sack : Cl P w K mg base 1 "_law_sack" (spSack K) := cl__law_sack T
  have gc_rings_of : GCl P w K mg base 4 "rings_of" (spRings K) := cl_rings_of T
  have c_ring_number : Cl P w K mg base 4 "ring_number" (spNum K) := cl_ring_number T
  refine F.ok sc_law (fun vs H Q E h => ?_) (fun cdv A outer s H vs Q E hr h => ?_)
  · obtain ⟨a, ns, rfl, _⟩ := h
    rfl
  · obtain ⟨a, ns, rfl, h, hl, k⟩ := h
    refine ⟨_, (pss_cons (ps_for PassesOwn.never rfl (pi_range1 rfl T.n_range (pa_cons (pe_callB (call_max2 rfl) (by rfl) T.n_max bo_max (pa_cons pe_int (pa_cons (pe_callB (call_min2 rfl) (by rfl) T.n_min bo_min (pa_cons pe_int (pa_cons (pe_callB (kcall_len (K := K)) (by rfl) T.n_len bo_len (pa_cons (pv 0) pa_nil)) pa_nil))) pa_nil))) pa_nil)) (pg_name (i := 1) sc_law.nd rfl (Or.inl rfl)) (pss_one (ps_if (pt_not (pt_val (pe_f c__law_right hr (by decide) rfl (pa_cons (pe_f c__law_sack hr (by decide) rfl (pa_cons (pv 0) (pa_cons (pv 1) pa_nil))) pa_nil)))) (pss_one (ps_ret pe_bl)) pss_nil))) (pss_cons (ps_if (PW.pt (pw_or (pt_cmpR (kop_neD (K := K) hr.units) (pe_listC gc_rings_of hr (by decide) rfl (pa_cons pe_int (pa_cons pe_int pa_nil)) rfl T.n_list) (pe_lst (pa_cons (pe_tup (pa_cons (pe_un un_neg pe_int) (pa_cons (pe_un un_neg pe_int) (pa_cons (pe_un un_neg pe_int) pa_nil)))) (pa_cons (pe_tup (pa_cons pe_int (pa_cons pe_int (pa_cons pe_int pa_nil)))) pa_nil))) (nomark _)) (pw_or1 (pt_cmpR (kop_neD (K := K) hr.units) (pe_listC gc_rings_of hr (by decide) rfl (pa_cons pe_int (pa_cons pe_int pa_nil)) rfl T.n_list) (pe_lst (pa_cons (pe_tup pa_nil) pa_nil)) (nomark _))))) (pss_one (ps_ret pe_bl)) pss_nil) (pss_cons (ps_if (pt_cmpR (kop_neD (K := K) hr.units) (pe_listC gc_rings_of hr (by decide) rfl (pa_cons pe_int (pa_cons pe_int pa_nil)) rfl T.n_list) (pe_lst (pa_cons (pe_tup (pa_cons (pe_un un_neg pe_int) (pa_cons (pe_un un_neg pe_int) pa_nil))) (pa_cons (pe_tup (pa_cons (pe_un un_neg pe_int) (pa_cons (pe_un un_neg pe_int) pa_nil))) (pa_cons (pe_tup (pa_cons (pe_un un_neg pe_int) (pa_cons pe_int pa_nil))) (pa_cons (pe_tup (pa_cons (pe_un un_neg pe_int) (pa_cons (pe_un un_neg pe_int) pa_nil))) (pa_cons (pe_tup (pa_cons (pe_un un_neg pe_int) (pa_cons pe_int pa_nil))) (pa_cons (pe_tup (pa_cons pe_int (pa_cons pe_int pa_nil))) (pa_cons (pe_tup (pa_cons pe_int (pa_cons pe_int pa_nil))) (pa_cons (pe_tup (pa_cons pe_int (pa_cons pe_int pa_nil))) pa_nil))))))))) (nomark _)) (pss_one (ps_ret pe_bl)) pss_nil) (pss_cons (ps_set (i := 2) sc_law.nd rfl (Or.inl rfl) (pe_lst (pa_cons (pe_f c_ring_number hr (by decide) rfl (pa_cons pe_int (pa_cons pe_int pa_nil))) (pa_cons (pe_f c_ring_number hr (by decide) rfl (pa_cons pe_int (pa_cons pe_int pa_nil))) (pa_cons (pe_f c_ring_number hr (by decide) rfl (pa_cons pe_int (pa_cons pe_int pa_nil))) (pa_cons (pe_f c_ring_number hr (by decide) rfl (pa_cons pe_int (pa_cons pe_int pa_nil))) (pa_cons (pe_f c_ring_number hr (by decide) rfl (pa_cons pe_int (pa_cons pe_int pa_nil))) pa_nil))))))) (pss_one (ps_ret (pe_cmpR (kop_eqD (K := K) hr.units) (pv 2) (pe_lst (pa_cons pe_int (pa_cons pe_int (pa_cons pe_int (pa_cons pe_int (pa_cons pe_int pa_nil)))))) (nomark _)))))))), ?_⟩
    refine ⟨.ref a, rfl, a, _, rfl, .inl h, _, _, rfl, _, _, rfl, _, rfl, by split <;> split <;> omega, by split <;> split <;> omega, for_range (lo := 0) (fun i σ H' => Same H H' ∧ ∃ x, σ = [some (.ref a), x, none]) ⟨Same.refl _, none, rfl⟩ (fun i σ H' hi p => ?_) fun σ H' p => ?_⟩
    · obtain ⟨s1, x, rfl⟩ := p
      have h1 : SqL K H' a (ns.map V.int) := same_lst s1 h
      refine ⟨.ref a, rfl, _, rfl, a, ns, _, rfl, h1, by omega, fun H1 S e1 hS hs => ⟨S, rfl, hs, fun H2 r2 => ⟨true, rfl, ?_⟩⟩⟩
      exact ⟨Same.trans s1 fun b o e => r2.keep b o (fun q => by
        cases q
        rw [hS] at e
        cases e) (e1 b o e), _, rfl⟩
    · obtain ⟨s1, x, rfl⟩ := p
      clear s1 h hl
      dsimp only
      refine ifno_seq (eb_or (eb_as (eb_test (es_neD (K := K) (e := rowsD [[-1, -1, -1], [1, 1, 1]]) (es_rings 1 3 ⟨(1, 6), by decide, rfl, by decide⟩) (es_lst (edc (es_tup (edc (es_neg 1) (edc (es_neg 1) (edc (es_neg 1) ed0))) (by decide)) (edc (es_tup (edc (es_int 1) (edc (es_int 1) (edc (es_int 1) ed0))) (by decide)) ed0)) (by decide)) (shaped_rows _) (shaped_rows _))) ?_)
        (eb_as (eb_test (es_neD (K := K) (e := rowsD [[]]) (es_rings 4 0 ⟨(4, 2), by decide, rfl, by decide⟩) (es_lst (edc (es_tup ed0 (by decide)) ed0) (by decide)) (shaped_rows _) (shaped_rows _))) ?_)) fun H1 e1 => ?_
      · rw [eqv_rowsD, rings13]
        rfl
      · rw [eqv_rowsD, rings40]
        rfl
      refine ifno_seq (eb_as (eb_test (es_neD (K := K) (e := rowsD [[-2, -2], [-2, -1], [-2, 1], [-1, -1], [-1, 2], [1, 1], [1, 2], [2, 2]]) (es_rings 2 2 ⟨(2, 4), by decide, rfl, by decide⟩) (es_lst (edc (inn 2 2) (edc (inn 2 1) (edc (inp 2 1) (edc (inn 1 1) (edc (inp 1 2) (edc (ip 1 1) (edc (ip 1 2) (edc (ip 2 2) ed0)))))))) (by decide)) (shaped_rows _) (shaped_rows _))) ?_) fun H2 e2 => ?_
      · rw [eqv_rowsD, rings22]
        rfl
      refine asg_seq (es_lst (edc (es_num 2 2 (by decide) (by decide)) (edc (es_num 2 3 (by decide) (by decide)) (edc (es_num 3 1 (by decide) (by decide)) (edc (es_num 2 0 (by decide) (by decide)) (edc (es_num 1 200 (by decide) (by decide)) ed0))))) (by decide)) fun v H3 e3 hv => ?_
      refine es_eqD (K := K) (d := .list [.int (Rg.numC 2 2), .int (Rg.numC 2 3), .int (Rg.numC 3 1), .int (Rg.numC 2 0), .int (Rg.numC 1 200)]) (e := .list [.int 8, .int 12, .int 6, .int 1, .int 2]) (es_var rfl hv) (es_lst (edc (es_int 8) (edc (es_int 12) (edc (es_int 6) (edc (es_int 1) (edc (es_int 2) ed0))))) (by decide)) (by decide +kernel) (by decide +kernel) H3 (Same.refl _) _ fun v4 H4 e4 ev => ?_
      subst ev
      have : PyData.eqv (.list [.int (Rg.numC 2 2), .int (Rg.numC 2 3), .int (Rg.numC 3 1), .int (Rg.numC 2 0), .int (Rg.numC 1 200)]) (.list [.int 8, .int 12, .int 6, .int 1, .int 2]) = true := by decide +kernel
      rw [this]
      exact k _
end
theorem all_mk {P : Program} {w : World} {K : PySem.W.Frag} {h : Heap} {mg : Str → Option Value} {fa : Addr}
    {f1 : Addr} {od1 an1 : Option Addr} {sl1 : Array (Option Value)} {oc1 kV1 dc1 pm1 cd1 ct1 : Value}
    {f2 : Addr} {od2 an2 : Option Addr} {sl2 : Array (Option Value)} {oc2 kV2 dc2 pm2 cd2 ct2 : Value}
    {f3 : Addr} {od3 an3 : Option Addr} {sl3 : Array (Option Value)} {oc3 kV3 dc3 pm3 cd3 ct3 : Value}
    {f4 : Addr} {od4 an4 : Option Addr} {sl4 : Array (Option Value)} {oc4 kV4 dc4 pm4 cd4 ct4 : Value}
    {f5 : Addr} {od5 an5 : Option Addr} {sl5 : Array (Option Value)} {oc5 kV5 dc5 pm5 cd5 ct5 : Value}
    {f6 : Addr} {od6 an6 : Option Addr} {sl6 : Array (Option Value)} {oc6 kV6 dc6 pm6 cd6 ct6 : Value}
    {f7 : Addr} {od7 an7 : Option Addr} {sl7 : Array (Option Value)} {oc7 kV7 dc7 pm7 cd7 ct7 : Value}
    {f8 : Addr} {od8 an8 : Option Addr} {sl8 : Array (Option Value)} {oc8 kV8 dc8 pm8 cd8 ct8 : Value}
    {f9 : Addr} {od9 an9 : Option Addr} {sl9 : Array (Option Value)} {oc9 kV9 dc9 pm9 cd9 ct9 : Value}
    {f10 : Addr} {od10 an10 : Option Addr} {sl10 : Array (Option Value)} {oc10 kV10 dc10 pm10 cd10 ct10 : Value}
    {f11 : Addr} {od11 an11 : Option Addr} {sl11 : Array (Option Value)} {oc11 kV11 dc11 pm11 cd11 ct11 : Value}
    {f12 : Addr} {od12 an12 : Option Addr} {sl12 : Array (Option Value)} {oc12 kV12 dc12 pm12 cd12 ct12 : Value}
    {f13 : Addr} {od13 an13 : Option Addr} {sl13 : Array (Option Value)} {oc13 kV13 dc13 pm13 cd13 ct13 : Value}
    {f14 : Addr} {od14 an14 : Option Addr} {sl14 : Array (Option Value)} {oc14 kV14 dc14 pm14 cd14 ct14 : Value}
    {f15 : Addr} {od15 an15 : Option Addr} {sl15 : Array (Option Value)} {oc15 kV15 dc15 pm15 cd15 ct15 : Value}
    {f16 : Addr} {od16 an16 : Option Addr} {sl16 : Array (Option Value)} {oc16 kV16 dc16 pm16 cd16 ct16 : Value}
    {f17 : Addr} {od17 an17 : Option Addr} {sl17 : Array (Option Value)} {oc17 kV17 dc17 pm17 cd17 ct17 : Value}
    {f18 : Addr} {od18 an18 : Option Addr} {sl18 : Array (Option Value)} {oc18 kV18 dc18 pm18 cd18 ct18 : Value}
    {f19 : Addr} {od19 an19 : Option Addr} {sl19 : Array (Option Value)} {oc19 kV19 dc19 pm19 cd19 ct19 : Value}
    {f20 : Addr} {od20 an20 : Option Addr} {sl20 : Array (Option Value)} {oc20 kV20 dc20 pm20 cd20 ct20 : Value}
    {f21 : Addr} {od21 an21 : Option Addr} {sl21 : Array (Option Value)} {oc21 kV21 dc21 pm21 cd21 ct21 : Value}
    {f22 : Addr} {od22 an22 : Option Addr} {sl22 : Array (Option Value)} {oc22 kV22 dc22 pm22 cd22 ct22 : Value}
    {f23 : Addr} {od23 an23 : Option Addr} {sl23 : Array (Option Value)} {oc23 kV23 dc23 pm23 cd23 ct23 : Value}
    {t_MAX_LETTERS : Tok}
    {t_MOST_LISTED : Tok}
    {t_MOST_NUMBERED : Tok}
    (X : K.In h)
    (G : h.Ns mainGlobals mg)
    (hfa : mg "law" = some (.ref fa))
    (a1 : PySem.W.nsIn K mainGlobals "is_integer" = some (some (.ref f1)))
    (l1 : K.lookup f1 = some ⟨oc1, od1, .func (PySem.W.fnOf "is_integer" "is_integer" (defArgs st_is_integer) (defBody st_is_integer) (defScope st_is_integer) .none kV1 dc1 pm1 an1 cd1 ct1), sl1⟩)
    (c1 : PySem.W.codeIn K cd1 "is_integer" = true)
    (k1 : PySem.W.keepIn K (.ref f1) = true)
    (a2 : PySem.W.nsIn K mainGlobals "is_within" = some (some (.ref f2)))
    (l2 : K.lookup f2 = some ⟨oc2, od2, .func (PySem.W.fnOf "is_within" "is_within" (defArgs st_is_within) (defBody st_is_within) (defScope st_is_within) .none kV2 dc2 pm2 an2 cd2 ct2), sl2⟩)
    (c2 : PySem.W.codeIn K cd2 "is_within" = true)
    (k2 : PySem.W.keepIn K (.ref f2) = true)
    (a3 : PySem.W.nsIn K mainGlobals "integer_power" = some (some (.ref f3)))
    (l3 : K.lookup f3 = some ⟨oc3, od3, .func (PySem.W.fnOf "integer_power" "integer_power" (defArgs st_integer_power) (defBody st_integer_power) (defScope st_integer_power) .none kV3 dc3 pm3 an3 cd3 ct3), sl3⟩)
    (c3 : PySem.W.codeIn K cd3 "integer_power" = true)
    (k3 : PySem.W.keepIn K (.ref f3) = true)
    (a4 : PySem.W.nsIn K mainGlobals "check_letters" = some (some (.ref f4)))
    (l4 : K.lookup f4 = some ⟨oc4, od4, .func (PySem.W.fnOf "check_letters" "check_letters" (defArgs st_check_letters) (defBody st_check_letters) (defScope st_check_letters) .none kV4 dc4 pm4 an4 cd4 ct4), sl4⟩)
    (c4 : PySem.W.codeIn K cd4 "check_letters" = true)
    (k4 : PySem.W.keepIn K (.ref f4) = true)
    (a5 : PySem.W.nsIn K mainGlobals "entries_of" = some (some (.ref f5)))
    (l5 : K.lookup f5 = some ⟨oc5, od5, .func (PySem.W.fnOf "entries_of" "entries_of" (defArgs st_entries_of) (defBody st_entries_of) (defScope st_entries_of) .none kV5 dc5 pm5 an5 cd5 ct5), sl5⟩)
    (c5 : PySem.W.codeIn K cd5 "entries_of" = true)
    (k5 : PySem.W.keepIn K (.ref f5) = true)
    (a6 : PySem.W.nsIn K mainGlobals "longer_necklaces" = some (some (.ref f6)))
    (l6 : K.lookup f6 = some ⟨oc6, od6, .func (PySem.W.fnOf "longer_necklaces" "longer_necklaces" (defArgs st_longer_necklaces) (defBody st_longer_necklaces) (defScope st_longer_necklaces) .none kV6 dc6 pm6 an6 cd6 ct6), sl6⟩)
    (c6 : PySem.W.codeIn K cd6 "longer_necklaces" = true)
    (k6 : PySem.W.keepIn K (.ref f6) = true)
    (a7 : PySem.W.nsIn K mainGlobals "rings_with" = some (some (.ref f7)))
    (l7 : K.lookup f7 = some ⟨oc7, od7, .func (PySem.W.fnOf "rings_with" "rings_with" (defArgs st_rings_with) (defBody st_rings_with) (defScope st_rings_with) .none kV7 dc7 pm7 an7 cd7 ct7), sl7⟩)
    (c7 : PySem.W.codeIn K cd7 "rings_with" = true)
    (k7 : PySem.W.keepIn K (.ref f7) = true)
    (a8 : PySem.W.nsIn K mainGlobals "rings_of" = some (some (.ref f8)))
    (l8 : K.lookup f8 = some ⟨oc8, od8, .func (PySem.W.fnOf "rings_of" "rings_of" (defArgs st_rings_of) (defBody st_rings_of) (defScope st_rings_of) .none kV8 dc8 pm8 an8 cd8 ct8), sl8⟩)
    (c8 : PySem.W.codeIn K cd8 "rings_of" = true)
    (k8 : PySem.W.keepIn K (.ref f8) = true)
    (a9 : PySem.W.nsIn K mainGlobals "coprime_number" = some (some (.ref f9)))
    (l9 : K.lookup f9 = some ⟨oc9, od9, .func (PySem.W.fnOf "coprime_number" "coprime_number" (defArgs st_coprime_number) (defBody st_coprime_number) (defScope st_coprime_number) .none kV9 dc9 pm9 an9 cd9 ct9), sl9⟩)
    (c9 : PySem.W.codeIn K cd9 "coprime_number" = true)
    (k9 : PySem.W.keepIn K (.ref f9) = true)
    (a10 : PySem.W.nsIn K mainGlobals "core_number" = some (some (.ref f10)))
    (l10 : K.lookup f10 = some ⟨oc10, od10, .func (PySem.W.fnOf "core_number" "core_number" (defArgs st_core_number) (defBody st_core_number) (defScope st_core_number) .none kV10 dc10 pm10 an10 cd10 ct10), sl10⟩)
    (c10 : PySem.W.codeIn K cd10 "core_number" = true)
    (k10 : PySem.W.keepIn K (.ref f10) = true)
    (a11 : PySem.W.nsIn K mainGlobals "ring_number" = some (some (.ref f11)))
    (l11 : K.lookup f11 = some ⟨oc11, od11, .func (PySem.W.fnOf "ring_number" "ring_number" (defArgs st_ring_number) (defBody st_ring_number) (defScope st_ring_number) .none kV11 dc11 pm11 an11 cd11 ct11), sl11⟩)
    (c11 : PySem.W.codeIn K cd11 "ring_number" = true)
    (k11 : PySem.W.keepIn K (.ref f11) = true)
    (a12 : PySem.W.nsIn K mainGlobals "_law_sack" = some (some (.ref f12)))
    (l12 : K.lookup f12 = some ⟨oc12, od12, .func (PySem.W.fnOf "_law_sack" "_law_sack" (defArgs st__law_sack) (defBody st__law_sack) (defScope st__law_sack) .none kV12 dc12 pm12 an12 cd12 ct12), sl12⟩)
    (c12 : PySem.W.codeIn K cd12 "_law_sack" = true)
    (k12 : PySem.W.keepIn K (.ref f12) = true)
    (a13 : PySem.W.nsIn K mainGlobals "_law_drawn" = some (some (.ref f13)))
    (l13 : K.lookup f13 = some ⟨oc13, od13, .func (PySem.W.fnOf "_law_drawn" "_law_drawn" (defArgs st__law_drawn) (defBody st__law_drawn) (defScope st__law_drawn) .none kV13 dc13 pm13 an13 cd13 ct13), sl13⟩)
    (c13 : PySem.W.codeIn K cd13 "_law_drawn" = true)
    (k13 : PySem.W.keepIn K (.ref f13) = true)
    (a14 : PySem.W.nsIn K mainGlobals "_law_liked" = some (some (.ref f14)))
    (l14 : K.lookup f14 = some ⟨oc14, od14, .func (PySem.W.fnOf "_law_liked" "_law_liked" (defArgs st__law_liked) (defBody st__law_liked) (defScope st__law_liked) .none kV14 dc14 pm14 an14 cd14 ct14), sl14⟩)
    (c14 : PySem.W.codeIn K cd14 "_law_liked" = true)
    (k14 : PySem.W.keepIn K (.ref f14) = true)
    (a15 : PySem.W.nsIn K mainGlobals "_law_core" = some (some (.ref f15)))
    (l15 : K.lookup f15 = some ⟨oc15, od15, .func (PySem.W.fnOf "_law_core" "_law_core" (defArgs st__law_core) (defBody st__law_core) (defScope st__law_core) .none kV15 dc15 pm15 an15 cd15 ct15), sl15⟩)
    (c15 : PySem.W.codeIn K cd15 "_law_core" = true)
    (k15 : PySem.W.keepIn K (.ref f15) = true)
    (a16 : PySem.W.nsIn K mainGlobals "_law_ring" = some (some (.ref f16)))
    (l16 : K.lookup f16 = some ⟨oc16, od16, .func (PySem.W.fnOf "_law_ring" "_law_ring" (defArgs st__law_ring) (defBody st__law_ring) (defScope st__law_ring) .none kV16 dc16 pm16 an16 cd16 ct16), sl16⟩)
    (c16 : PySem.W.codeIn K cd16 "_law_ring" = true)
    (k16 : PySem.W.keepIn K (.ref f16) = true)
    (a17 : PySem.W.nsIn K mainGlobals "_law_all_words" = some (some (.ref f17)))
    (l17 : K.lookup f17 = some ⟨oc17, od17, .func (PySem.W.fnOf "_law_all_words" "_law_all_words" (defArgs st__law_all_words) (defBody st__law_all_words) (defScope st__law_all_words) .none kV17 dc17 pm17 an17 cd17 ct17), sl17⟩)
    (c17 : PySem.W.codeIn K cd17 "_law_all_words" = true)
    (k17 : PySem.W.keepIn K (.ref f17) = true)
    (a18 : PySem.W.nsIn K mainGlobals "_law_raised" = some (some (.ref f18)))
    (l18 : K.lookup f18 = some ⟨oc18, od18, .func (PySem.W.fnOf "_law_raised" "_law_raised" (defArgs st__law_raised) (defBody st__law_raised) (defScope st__law_raised) .none kV18 dc18 pm18 an18 cd18 ct18), sl18⟩)
    (c18 : PySem.W.codeIn K cd18 "_law_raised" = true)
    (k18 : PySem.W.keepIn K (.ref f18) = true)
    (a19 : PySem.W.nsIn K mainGlobals "_law_gcd" = some (some (.ref f19)))
    (l19 : K.lookup f19 = some ⟨oc19, od19, .func (PySem.W.fnOf "_law_gcd" "_law_gcd" (defArgs st__law_gcd) (defBody st__law_gcd) (defScope st__law_gcd) .none kV19 dc19 pm19 an19 cd19 ct19), sl19⟩)
    (c19 : PySem.W.codeIn K cd19 "_law_gcd" = true)
    (k19 : PySem.W.keepIn K (.ref f19) = true)
    (a20 : PySem.W.nsIn K mainGlobals "_law_cores" = some (some (.ref f20)))
    (l20 : K.lookup f20 = some ⟨oc20, od20, .func (PySem.W.fnOf "_law_cores" "_law_cores" (defArgs st__law_cores) (defBody st__law_cores) (defScope st__law_cores) .none kV20 dc20 pm20 an20 cd20 ct20), sl20⟩)
    (c20 : PySem.W.codeIn K cd20 "_law_cores" = true)
    (k20 : PySem.W.keepIn K (.ref f20) = true)
    (a21 : PySem.W.nsIn K mainGlobals "_law_number" = some (some (.ref f21)))
    (l21 : K.lookup f21 = some ⟨oc21, od21, .func (PySem.W.fnOf "_law_number" "_law_number" (defArgs st__law_number) (defBody st__law_number) (defScope st__law_number) .none kV21 dc21 pm21 an21 cd21 ct21), sl21⟩)
    (c21 : PySem.W.codeIn K cd21 "_law_number" = true)
    (k21 : PySem.W.keepIn K (.ref f21) = true)
    (a22 : PySem.W.nsIn K mainGlobals "_law_right" = some (some (.ref f22)))
    (l22 : K.lookup f22 = some ⟨oc22, od22, .func (PySem.W.fnOf "_law_right" "_law_right" (defArgs st__law_right) (defBody st__law_right) (defScope st__law_right) .none kV22 dc22 pm22 an22 cd22 ct22), sl22⟩)
    (c22 : PySem.W.codeIn K cd22 "_law_right" = true)
    (k22 : PySem.W.keepIn K (.ref f22) = true)
    (a23 : PySem.W.nsIn K mainGlobals "law" = some (some (.ref f23)))
    (l23 : K.lookup f23 = some ⟨oc23, od23, .func (PySem.W.fnOf "law" "law" (defArgs st_law) (defBody st_law) (defScope st_law) .none kV23 dc23 pm23 an23 cd23 ct23), sl23⟩)
    (c23 : PySem.W.codeIn K cd23 "law" = true)
    (k23 : PySem.W.keepIn K (.ref f23) = true)
    (q_MAX_LETTERS : PySem.W.nsIn K mainGlobals "MAX_LETTERS" = some (some (.int 5 t_MAX_LETTERS)))
    (q_MOST_LISTED : PySem.W.nsIn K mainGlobals "MOST_LISTED" = some (some (.int 6 t_MOST_LISTED)))
    (q_MOST_NUMBERED : PySem.W.nsIn K mainGlobals "MOST_NUMBERED" = some (some (.int 200 t_MOST_NUMBERED)))
    (z_abs : PySem.W.nsIn K mainGlobals "abs" = some none)
    (z_bool : PySem.W.nsIn K mainGlobals "bool" = some none)
    (z_int : PySem.W.nsIn K mainGlobals "int" = some none)
    (z_isinstance : PySem.W.nsIn K mainGlobals "isinstance" = some none)
    (z_len : PySem.W.nsIn K mainGlobals "len" = some none)
    (z_list : PySem.W.nsIn K mainGlobals "list" = some none)
    (z_max : PySem.W.nsIn K mainGlobals "max" = some none)
    (z_min : PySem.W.nsIn K mainGlobals "min" = some none)
    (z_range : PySem.W.nsIn K mainGlobals "range" = some none)
    (z_sum : PySem.W.nsIn K mainGlobals "sum" = some none)
    (y_gcd : PySem.W.nsIn K mainGlobals "gcd" = some (some (.builtin "math.gcd")))
    : ∃ fd : FuncData, (∀ (s : Shared) (v : Value), BindsTo s fd ⟨[v], []⟩ [("script", v)]) ∧ ∀ base : Heap, K.In base → base.Ns mainGlobals mg → FnOk P w K mg base CX0 9 fa fd ["script"] (spLaw K) := by
  have e := hfa.symm.trans (PySem.W.mg_of X G a23)
  cases e
  have F1 := fun_mk (st := st_is_integer) l1 c1 k1
  have b1 := F1.binds (ps := ["value"]) fun _ _ _ _ _ _ us hl => match us, hl with | [_], _ => rfl
  have F2 := fun_mk (st := st_is_within) l2 c2 k2
  have b2 := F2.binds (ps := ["value", "least", "most"]) fun _ _ _ _ _ _ us hl => match us, hl with | [_, _, _], _ => rfl
  have F3 := fun_mk (st := st_integer_power) l3 c3 k3
  have b3 := F3.binds (ps := ["base", "many"]) fun _ _ _ _ _ _ us hl => match us, hl with | [_, _], _ => rfl
  have F4 := fun_mk (st := st_check_letters) l4 c4 k4
  have b4 := F4.binds (ps := ["letters"]) fun _ _ _ _ _ _ us hl => match us, hl with | [_], _ => rfl
  have F5 := fun_mk (st := st_entries_of) l5 c5 k5
  have b5 := F5.binds (ps := ["letters"]) fun _ _ _ _ _ _ us hl => match us, hl with | [_], _ => rfl
  have F6 := fun_mk (st := st_longer_necklaces) l6 c6 k6
  have b6 := F6.binds (ps := ["letters", "begun"]) fun _ _ _ _ _ _ us hl => match us, hl with | [_, _], _ => rfl
  have F7 := fun_mk (st := st_rings_with) l7 c7 k7
  have b7 := F7.binds (ps := ["letters", "length"]) fun _ _ _ _ _ _ us hl => match us, hl with | [_, _], _ => rfl
  have F8 := fun_mk (st := st_rings_of) l8 c8 k8
  have b8 := F8.binds (ps := ["letters", "length"]) fun _ _ _ _ _ _ us hl => match us, hl with | [_, _], _ => rfl
  have F9 := fun_mk (st := st_coprime_number) l9 c9 k9
  have b9 := F9.binds (ps := ["most"]) fun _ _ _ _ _ _ us hl => match us, hl with | [_], _ => rfl
  have F10 := fun_mk (st := st_core_number) l10 c10 k10
  have b10 := F10.binds (ps := ["letters", "length"]) fun _ _ _ _ _ _ us hl => match us, hl with | [_, _], _ => rfl
  have F11 := fun_mk (st := st_ring_number) l11 c11 k11
  have b11 := F11.binds (ps := ["letters", "length"]) fun _ _ _ _ _ _ us hl => match us, hl with | [_, _], _ => rfl
  have F12 := fun_mk (st := st__law_sack) l12 c12 k12
  have b12 := F12.binds (ps := ["script", "spot"]) fun _ _ _ _ _ _ us hl => match us, hl with | [_, _], _ => rfl
  have F13 := fun_mk (st := st__law_drawn) l13 c13 k13
  have b13 := F13.binds (ps := ["sack", "total"]) fun _ _ _ _ _ _ us hl => match us, hl with | [_, _], _ => rfl
  have F14 := fun_mk (st := st__law_liked) l14 c14 k14
  have b14 := F14.binds (ps := ["sack", "items"]) fun _ _ _ _ _ _ us hl => match us, hl with | [_, _], _ => rfl
  have F15 := fun_mk (st := st__law_core) l15 c15 k15
  have b15 := F15.binds (ps := ["word"]) fun _ _ _ _ _ _ us hl => match us, hl with | [_], _ => rfl
  have F16 := fun_mk (st := st__law_ring) l16 c16 k16
  have b16 := F16.binds (ps := ["word"]) fun _ _ _ _ _ _ us hl => match us, hl with | [_], _ => rfl
  have F17 := fun_mk (st := st__law_all_words) l17 c17 k17
  have b17 := F17.binds (ps := ["letters", "length"]) fun _ _ _ _ _ _ us hl => match us, hl with | [_, _], _ => rfl
  have F18 := fun_mk (st := st__law_raised) l18 c18 k18
  have b18 := F18.binds (ps := ["base", "many"]) fun _ _ _ _ _ _ us hl => match us, hl with | [_, _], _ => rfl
  have F19 := fun_mk (st := st__law_gcd) l19 c19 k19
  have b19 := F19.binds (ps := ["one", "other"]) fun _ _ _ _ _ _ us hl => match us, hl with | [_, _], _ => rfl
  have F20 := fun_mk (st := st__law_cores) l20 c20 k20
  have b20 := F20.binds (ps := ["letters", "length"]) fun _ _ _ _ _ _ us hl => match us, hl with | [_, _], _ => rfl
  have F21 := fun_mk (st := st__law_number) l21 c21 k21
  have b21 := F21.binds (ps := ["letters", "length"]) fun _ _ _ _ _ _ us hl => match us, hl with | [_, _], _ => rfl
  have F22 := fun_mk (st := st__law_right) l22 c22 k22
  have b22 := F22.binds (ps := ["sack"]) fun _ _ _ _ _ _ us hl => match us, hl with | [_], _ => rfl
  have T : Txt K mg := ⟨⟨_, _, F1, PySem.W.mg_of X G a1, b1⟩,
    ⟨_, _, F2, PySem.W.mg_of X G a2, b2⟩,
    ⟨_, _, F3, PySem.W.mg_of X G a3, b3⟩,
    ⟨_, _, F4, PySem.W.mg_of X G a4, b4⟩,
    ⟨_, _, F5, PySem.W.mg_of X G a5, b5⟩,
    ⟨_, _, F6, PySem.W.mg_of X G a6, b6⟩,
    ⟨_, _, F7, PySem.W.mg_of X G a7, b7⟩,
    ⟨_, _, F8, PySem.W.mg_of X G a8, b8⟩,
    ⟨_, _, F9, PySem.W.mg_of X G a9, b9⟩,
    ⟨_, _, F10, PySem.W.mg_of X G a10, b10⟩,
    ⟨_, _, F11, PySem.W.mg_of X G a11, b11⟩,
    ⟨_, _, F12, PySem.W.mg_of X G a12, b12⟩,
    ⟨_, _, F13, PySem.W.mg_of X G a13, b13⟩,
    ⟨_, _, F14, PySem.W.mg_of X G a14, b14⟩,
    ⟨_, _, F15, PySem.W.mg_of X G a15, b15⟩,
    ⟨_, _, F16, PySem.W.mg_of X G a16, b16⟩,
    ⟨_, _, F17, PySem.W.mg_of X G a17, b17⟩,
    ⟨_, _, F18, PySem.W.mg_of X G a18, b18⟩,
    ⟨_, _, F19, PySem.W.mg_of X G a19, b19⟩,
    ⟨_, _, F20, PySem.W.mg_of X G a20, b20⟩,
    ⟨_, _, F21, PySem.W.mg_of X G a21, b21⟩,
    ⟨_, _, F22, PySem.W.mg_of X G a22, b22⟩,
    ⟨_, PySem.W.mg_of X G q_MAX_LETTERS⟩,
    ⟨_, PySem.W.mg_of X G q_MOST_LISTED⟩,
    ⟨_, PySem.W.mg_of X G q_MOST_NUMBERED⟩,
    PySem.W.mg_none_of X G z_abs,
    PySem.W.mg_none_of X G z_bool,
    PySem.W.mg_none_of X G z_int,
    PySem.W.mg_none_of X G z_isinstance,
    PySem.W.mg_none_of X G z_len,
    PySem.W.mg_none_of X G z_list,
    PySem.W.mg_none_of X G z_max,
    PySem.W.mg_none_of X G z_min,
    PySem.W.mg_none_of X G z_range,
    PySem.W.mg_none_of X G z_sum,
    PySem.W.mg_of X G y_gcd⟩
  exact ⟨PySem.W.fnOf "law" "law" (defArgs st_law) (defBody st_law) (defScope st_law) .none kV23 dc23 pm23 an23 cd23 ct23, fun s v => .of_eq rfl, fun base _ _ => ok_law (fun_mk (st := st_law) l23 c23 k23) T⟩
theorem walk {l : PySem.W.OpenLaw} {q : Program} {loose : List Str} {XP : (Str → Option Value) → Heap → Prop} {YP : World → Heap → Prop} {d : DefRec} {K : Params → PySem.W.Frag} (hn : l.most = some 63) (hdf : d.params.defaults = [])
    (hY : ∀ (w : World) (h : Heap), YP w h → (K w.params).In h)
    (F : ∀ (w : World) (mg : Str → Option Value) (fa : Addr) (h : Heap), (K w.params).In h → h.Ns mainGlobals mg → mg d.name = some (.ref fa) →
      ∃ fd : FuncData, (∀ (s : Shared) (u : Value), BindsTo s fd ⟨[u], []⟩ [("script", u)]) ∧ ∀ base : Heap, (K w.params).In base → base.Ns mainGlobals mg → FnOk l.prog w (K w.params) mg base CX0 9 fa fd ["script"] (spLaw (K w.params))) :
    PySem.W.WalkO q loose XP YP l.row.toRowW d [] (fun f vs => PySem.call f vs) :=
  L2.walk_of (n := 63) (k := 9) (x := "script") (CX := fun _ => CX0) (sp := fun w => spLaw (K w.params)) hn (by decide) hdf ⟨rfl, by decide, by decide⟩ hY F (fun _ _ a ns hl _ hS => ⟨a, ns, rfl, hS, hl, fun _ => rfl⟩) fun _ _ _ _ _ z => z
end Pr

open PySem PySem.W PyProof.Rows in
set_option maxRecDepth 100000 in
set_option maxHeartbeats 0 in
theorem PySem.Challenge.cw_noroadback_k04_whole_lists_of_rings_holds : PySem.Challenge.rw_noroadback_k04_whole_lists_of_rings.Holds := by
  w_on; o_law; k_head; (case hw => w_witness2)
  k_fill
  refine Pr.walk (l := PySem.Challenge.rw_noroadback_k04_whole_lists_of_rings) rfl rfl (fun w h Y => PySem.W.kIn_of Y) ?F
  case F =>
    intro w mg fa h KX G hmg
    refine' Pr.all_mk KX G hmg ?a1 ?l1 ?c1 ?k1 ?a2 ?l2 ?c2 ?k2 ?a3 ?l3 ?c3 ?k3 ?a4 ?l4 ?c4 ?k4 ?a5 ?l5 ?c5 ?k5 ?a6 ?l6 ?c6 ?k6 ?a7 ?l7 ?c7 ?k7 ?a8 ?l8 ?c8 ?k8 ?a9 ?l9 ?c9 ?k9 ?a10 ?l10 ?c10 ?k10 ?a11 ?l11 ?c11 ?k11 ?a12 ?l12 ?c12 ?k12 ?a13 ?l13 ?c13 ?k13 ?a14 ?l14 ?c14 ?k14 ?a15 ?l15 ?c15 ?k15 ?a16 ?l16 ?c16 ?k16 ?a17 ?l17 ?c17 ?k17 ?a18 ?l18 ?c18 ?k18 ?a19 ?l19 ?c19 ?k19 ?a20 ?l20 ?c20 ?k20 ?a21 ?l21 ?c21 ?k21 ?a22 ?l22 ?c22 ?k22 ?a23 ?l23 ?c23 ?k23 ?q_MAX_LETTERS ?q_MOST_LISTED ?q_MOST_NUMBERED ?z_abs ?z_bool ?z_int ?z_isinstance ?z_len ?z_list ?z_max ?z_min ?z_range ?z_sum ?y_gcd
    (case a1 => k_is)
    (case l1 => k_is)
    (case c1 => k_is)
    (case k1 => k_is)
    (case a2 => k_is)
    (case l2 => k_is)
    (case c2 => k_is)
    (case k2 => k_is)
    (case a3 => k_is)
    (case l3 => k_is)
    (case c3 => k_is)
    (case k3 => k_is)
    (case a4 => k_is)
    (case l4 => k_is)
    (case c4 => k_is)
    (case k4 => k_is)
    (case a5 => k_is)
    (case l5 => k_is)
    (case c5 => k_is)
    (case k5 => k_is)
    (case a6 => k_is)
    (case l6 => k_is)
    (case c6 => k_is)
    (case k6 => k_is)
    (case a7 => k_is)
    (case l7 => k_is)
    (case c7 => k_is)
    (case k7 => k_is)
    (case a8 => k_is)
    (case l8 => k_is)
    (case c8 => k_is)
    (case k8 => k_is)
    (case a9 => k_is)
    (case l9 => k_is)
    (case c9 => k_is)
    (case k9 => k_is)
    (case a10 => k_is)
    (case l10 => k_is)
    (case c10 => k_is)
    (case k10 => k_is)
    (case a11 => k_is)
    (case l11 => k_is)
    (case c11 => k_is)
    (case k11 => k_is)
    (case a12 => k_is)
    (case l12 => k_is)
    (case c12 => k_is)
    (case k12 => k_is)
    (case a13 => k_is)
    (case l13 => k_is)
    (case c13 => k_is)
    (case k13 => k_is)
    (case a14 => k_is)
    (case l14 => k_is)
    (case c14 => k_is)
    (case k14 => k_is)
    (case a15 => k_is)
    (case l15 => k_is)
    (case c15 => k_is)
    (case k15 => k_is)
    (case a16 => k_is)
    (case l16 => k_is)
    (case c16 => k_is)
    (case k16 => k_is)
    (case a17 => k_is)
    (case l17 => k_is)
    (case c17 => k_is)
    (case k17 => k_is)
    (case a18 => k_is)
    (case l18 => k_is)
    (case c18 => k_is)
    (case k18 => k_is)
    (case a19 => k_is)
    (case l19 => k_is)
    (case c19 => k_is)
    (case k19 => k_is)
    (case a20 => k_is)
    (case l20 => k_is)
    (case c20 => k_is)
    (case k20 => k_is)
    (case a21 => k_is)
    (case l21 => k_is)
    (case c21 => k_is)
    (case k21 => k_is)
    (case a22 => k_is)
    (case l22 => k_is)
    (case c22 => k_is)
    (case k22 => k_is)
    (case a23 => k_is)
    (case l23 => k_is)
    (case c23 => k_is)
    (case k23 => k_is)
    (case q_MAX_LETTERS => k_is)
    (case q_MOST_LISTED => k_is)
    (case q_MOST_NUMBERED => k_is)
    (case z_abs => k_is)
    (case z_bool => k_is)
    (case z_int => k_is)
    (case z_isinstance => k_is)
    (case z_len => k_is)
    (case z_list => k_is)
    (case z_max => k_is)
    (case z_min => k_is)
    (case z_range => k_is)
    (case z_sum => k_is)
    (case y_gcd => k_is)
