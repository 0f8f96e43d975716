import PyProof.Rows.All
import Wide.All
import OpenK.AllK
import Wide.FinOn
import Lean
import PyProof.EqAt
import PyProof.EqKinds
import PyProof.TupleCall
import PyProof.NeKinds
import PyProof.StrLawsTight
import PyProof.Conv_int
import PyProof.StrLawsRepr
import PyProof.ReprStr
import KE.KSortTup
import KE.KRevSl
import PySem.Challenge.RW_haltline_k03_orders_of_tables
set_option Elab.async false
set_option linter.all false
set_option maxRecDepth 100000
set_option bootstrap.genMatcherCode false
set_option genSizeOf false
set_option compiler.extract_closed false
section
variable{P:Prop}{T0 T1 T2 T3 T4 T5 T6 T7 T8 T9 T10 T11 T12 T13 T14 T15 T16:Type}{A0 A1 A2 A3 A4 A5 A6 A7 A8 A9:Prop}{B0 B1 B2 B3 B4 B5 B6 B7 B8 B9:T0→Prop}{C0 C1 C2 C3 C4 C5 C6 C7 C8 C9:T0→T1→Prop}{D0 D1 D2 D3 D4 D5 D6 D7 D8 D9:T0→T1→T2→Prop}{E0 E1 E2 E3 E4 E5 E6 E7 E8 E9:T0→T1→T2→T3→Prop}{F0 F1 F2 F3 F4 F5 F6 F7 F8 F9:T0→T1→T2→T3→T4→Prop}{G0 G1 G2 G3 G4 G5 G6 G7 G8 G9:T0→T1→T2→T3→T4→T5→Prop}{H0 H1 H2 H3 H4 H5 H6 H7 H8 H9:T0→T1→T2→T3→T4→T5→T6→Prop}{I0 I1 I2 I3 I4 I5 I6 I7 I8 I9:T0→T1→T2→T3→T4→T5→T6→T7→Prop}{J0 J1 J2 J3 J4 J5 J6 J7 J8 J9:T0→T1→T2→T3→T4→T5→T6→T7→T8→Prop}{K0 K1 K2 K3 K4 K5 K6 K7 K8 K9:T0→T1→T2→T3→T4→T5→T6→T7→T8→T9→Prop}{L0 L1 L2 L3 L4 L5 L6 L7 L8 L9:T0→T1→T2→T3→T4→T5→T6→T7→T8→T9→T10→Prop}{M0 M1 M2 M3 M4 M5 M6 M7 M8 M9:T0→T1→T2→T3→T4→T5→T6→T7→T8→T9→T10→T11→Prop}{N0 N1 N2 N3 N4 N5 N6 N7 N8 N9:T0→T1→T2→T3→T4→T5→T6→T7→T8→T9→T10→T11→T12→Prop}{O0 O1 O2 O3 O4 O5 O6 O7 O8 O9:T0→T1→T2→T3→T4→T5→T6→T7→T8→T9→T10→T11→T12→T13→Prop}{P0 P1 P2 P3 P4 P5 P6 P7 P8 P9:T0→T1→T2→T3→T4→T5→T6→T7→T8→T9→T10→T11→T12→T13→T14→Prop}{Q0 Q1 Q2 Q3 Q4 Q5 Q6 Q7 Q8 Q9:T0→T1→T2→T3→T4→T5→T6→T7→T8→T9→T10→T11→T12→T13→T14→T15→Prop}{R0 R1 R2 R3 R4 R5 R6 R7 R8 R9:T0→T1→T2→T3→T4→T5→T6→T7→T8→T9→T10→T11→T12→T13→T14→T15→T16→Prop}
theorem bL (H:∃a b,C0 a b∧C1 a b∧C2 a b)(K:∀a b,C0 a b→C1 a b→C2 a b→P):P:=by obtain ⟨a,b,c,d,e⟩:=H;exact K a b c d e
theorem dr (H:∃a,B0 a∧B1 a∧B2 a)(K:∀a,B0 a→B1 a→B2 a→P):P:=by obtain ⟨a,b,c,d⟩:=H;exact K a b c d
theorem dL (a b)(c:C0 a b)(d:C1 a b)(e:C2 a b):∃a b,C0 a b∧C1 a b∧C2 a b:=⟨a,b,c,d,e⟩
theorem f_ (H:∃a b c,D0 a b c∧D1 a b c∧D2 a b c∧D3 a b c)(K:∀a b c,D0 a b c→D1 a b c→D2 a b c→D3 a b c→P):P:=by obtain ⟨a,b,c,d,e,f,g⟩:=H;exact K a b c d e f g
theorem iM (a b c)(d:D0 a b c)(e:D1 a b c)(f:D2 a b c)(g:D3 a b c):∃a b c,D0 a b c∧D1 a b c∧D2 a b c∧D3 a b c:=⟨a,b,c,d,e,f,g⟩
theorem iZ (a)(b:B0 a)(c:B1 a)(d:B2 a):∃a,B0 a∧B1 a∧B2 a:=⟨a,b,c,d⟩
theorem kT (H:∃a b,C0 a b∧C1 a b)(K:∀a b,C0 a b→C1 a b→P):P:=by obtain ⟨a,b,c,d⟩:=H;exact K a b c d
theorem lh (H:∃a b c d,E0 a b c d∧E1 a b c d∧E2 a b c d∧E3 a b c d)(K:∀a b c d,E0 a b c d→E1 a b c d→E2 a b c d→E3 a b c d→P):P:=by obtain ⟨a,b,c,d,e,f,g,h⟩:=H;exact K a b c d e f g h
theorem mH (H:∃a b,C0 a b∧C1 a b∧C2 a b∧C3 a b)(K:∀a b,C0 a b→C1 a b→C2 a b→C3 a b→P):P:=by obtain ⟨a,b,c,d,e,f⟩:=H;exact K a b c d e f
theorem pY (a b c)(d:D0 a b c)(e:D1 a b c)(f:D2 a b c)(g:D3 a b c)(h:D4 a b c):∃a b c,D0 a b c∧D1 a b c∧D2 a b c∧D3 a b c∧D4 a b c:=⟨a,b,c,d,e,f,g,h⟩
theorem ju (H:∃a b c,D0 a b c∧D1 a b c∧D2 a b c∧D3 a b c∧D4 a b c)(K:∀a b c,D0 a b c→D1 a b c→D2 a b c→D3 a b c→D4 a b c→P):P:=by obtain ⟨a,b,c,d,e,f,g,h⟩:=H;exact K a b c d e f g h
theorem lf (H:A0∧A1∧A2∧A3)(K:A0→A1→A2→A3→P):P:=by obtain ⟨a,b,c,d⟩:=H;exact K a b c d
theorem lg (H:∃a b c,D0 a b c∧D1 a b c∧D2 a b c)(K:∀a b c,D0 a b c→D1 a b c→D2 a b c→P):P:=by obtain ⟨a,b,c,d,e,f⟩:=H;exact K a b c d e f
theorem kY (a b)(c:C0 a b)(d:C1 a b):∃a b,C0 a b∧C1 a b:=⟨a,b,c,d⟩
theorem kZ (a b)(c:C0 a b)(d:C1 a b)(e:C2 a b)(f:C3 a b):∃a b,C0 a b∧C1 a b∧C2 a b∧C3 a b:=⟨a,b,c,d,e,f⟩
theorem lQ (c:A0)(a b)(d:C0 a b)(e:C1 a b):A0∧∃a b,C0 a b∧C1 a b:=⟨c,a,b,d,e⟩
theorem lS (b:A0)(a)(c:B0 a)(d:B1 a):A0∧∃a,B0 a∧B1 a:=⟨b,a,c,d⟩
theorem lT (a:A0)(b:A1)(c:A2)(d:A3):A0∧A1∧A2∧A3:=⟨a,b,c,d⟩
theorem lU (a b c d)(e:E0 a b c d)(f:E1 a b c d)(g:E2 a b c d)(h:E3 a b c d):∃a b c d,E0 a b c d∧E1 a b c d∧E2 a b c d∧E3 a b c d:=⟨a,b,c,d,e,f,g,h⟩
theorem mX (H:A0∧A1∧A2∧A3∧A4)(K:A0→A1→A2→A3→A4→P):P:=by obtain ⟨a,b,c,d,e⟩:=H;exact K a b c d e
theorem qK (H:A0∧A1∧A2∧A3∧A4∧A5)(K:A0→A1→A2→A3→A4→A5→P):P:=by obtain ⟨a,b,c,d,e,f⟩:=H;exact K a b c d e f
theorem qL (H:∃a,B0 a∧B1 a∧B2 a∧B3 a∧B4 a)(K:∀a,B0 a→B1 a→B2 a→B3 a→B4 a→P):P:=by obtain ⟨a,b,c,d,e,f⟩:=H;exact K a b c d e f
theorem se (H:A0∧∃a,B0 a∧B1 a)(K:A0→∀a,B0 a→B1 a→P):P:=by obtain ⟨b,a,c,d⟩:=H;exact K b a c d
theorem sf (H:∃a b c d,E0 a b c d∧E1 a b c d)(K:∀a b c d,E0 a b c d→E1 a b c d→P):P:=by obtain ⟨a,b,c,d,e,f⟩:=H;exact K a b c d e f
theorem rh (a:A0)(b:A1)(c:A2)(d:A3)(e:A4):A0∧A1∧A2∧A3∧A4:=⟨a,b,c,d,e⟩
theorem rj (a b c d)(e:E0 a b c d)(f:E1 a b c d)(g:E2 a b c d)(h:E3 a b c d)(i:E4 a b c d):∃a b c d,E0 a b c d∧E1 a b c d∧E2 a b c d∧E3 a b c d∧E4 a b c d:=⟨a,b,c,d,e,f,g,h,i⟩
theorem rk (a b c d)(e:E0 a b c d)(f:E1 a b c d)(g:E2 a b c d)(h:E3 a b c d)(i:E4 a b c d)(j:E5 a b c d):∃a b c d,E0 a b c d∧E1 a b c d∧E2 a b c d∧E3 a b c d∧E4 a b c d∧E5 a b c d:=⟨a,b,c,d,e,f,g,h,i,j⟩
theorem uI (H:A0∧∃a b,C0 a b∧C1 a b)(K:A0→∀a b,C0 a b→C1 a b→P):P:=by obtain ⟨c,a,b,d,e⟩:=H;exact K c a b d e
theorem uJ (H:A0∧A1∧∃a,B0 a∧∃b c d,E0 a b c d∧E1 a b c d)(K:A0→A1→∀a,B0 a→∀b c d,E0 a b c d→E1 a b c d→P):P:=by obtain ⟨e,f,a,g,b,c,d,h,i⟩:=H;exact K e f a g b c d h i
theorem uK (H:∃a,B0 a∧B1 a∧∃b,C0 a b)(K:∀a,B0 a→B1 a→∀b,C0 a b→P):P:=by obtain ⟨a,c,d,b,e⟩:=H;exact K a c d b e
theorem uL (H:A0∧∃a b,C0 a b∧C1 a b∧C2 a b)(K:A0→∀a b,C0 a b→C1 a b→C2 a b→P):P:=by obtain ⟨c,a,b,d,e,f⟩:=H;exact K c a b d e f
theorem uM (H:∃a b c d,E0 a b c d∧E1 a b c d∧E2 a b c d∧E3 a b c d∧E4 a b c d∧E5 a b c d∧E6 a b c d)(K:∀a b c d,E0 a b c d→E1 a b c d→E2 a b c d→E3 a b c d→E4 a b c d→E5 a b c d→E6 a b c d→P):P:=by obtain ⟨a,b,c,d,e,f,g,h,i,j,k⟩:=H;exact K a b c d e f g h i j k
theorem uN (H:∃a b c d e,F0 a b c d e)(K:∀a b c d e,F0 a b c d e→P):P:=by obtain ⟨a,b,c,d,e,f⟩:=H;exact K a b c d e f
theorem ug (a b c)(d:D0 a b c)(e:D1 a b c):∃a b c,D0 a b c∧D1 a b c:=⟨a,b,c,d,e⟩
theorem wX (H:∃a b c,D0 a b c)(K:∀a b c,D0 a b c→P):P:=by obtain ⟨a,b,c,d⟩:=H;exact K a b c d
theorem wY (H:∃a b c,D0 a b c∧D1 a b c)(K:∀a b c,D0 a b c→D1 a b c→P):P:=by obtain ⟨a,b,c,d,e⟩:=H;exact K a b c d e
theorem wZ (H:∃a b c d e f g h i,J0 a b c d e f g h i∧J1 a b c d e f g h i∧J2 a b c d e f g h i)(K:∀a b c d e f g h i,J0 a b c d e f g h i→J1 a b c d e f g h i→J2 a b c d e f g h i→P):P:=by obtain ⟨a,b,c,d,e,f,g,h,i,j,k,l⟩:=H;exact K a b c d e f g h i j k l
theorem w6 (H:∃a b c d e,F0 a b c d e∧F1 a b c d e∧F2 a b c d e∧F3 a b c d e∧F4 a b c d e)(K:∀a b c d e,F0 a b c d e→F1 a b c d e→F2 a b c d e→F3 a b c d e→F4 a b c d e→P):P:=by obtain ⟨a,b,c,d,e,f,g,h,i,j⟩:=H;exact K a b c d e f g h i j
theorem vy (a b)(c:C0 a b)(d:C1 a b)(e:C2 a b)(f:C3 a b)(g:C4 a b):∃a b,C0 a b∧C1 a b∧C2 a b∧C3 a b∧C4 a b:=⟨a,b,c,d,e,f,g⟩
theorem vz (a b c d e)(f:F0 a b c d e):∃a b c d e,F0 a b c d e:=⟨a,b,c,d,e,f⟩
theorem zh (H:∃a b c,D0 a b c∧D1 a b c∧D2 a b c∧D3 a b c∧D4 a b c∧D5 a b c∧D6 a b c∧D7 a b c)(K:∀a b c,D0 a b c→D1 a b c→D2 a b c→D3 a b c→D4 a b c→D5 a b c→D6 a b c→D7 a b c→P):P:=by obtain ⟨a,b,c,d,e,f,g,h,i,j,k⟩:=H;exact K a b c d e f g h i j k
theorem yj (a b c d)(e:E0 a b c d)(f:E1 a b c d):∃a b c d,E0 a b c d∧E1 a b c d:=⟨a,b,c,d,e,f⟩
theorem yk (a)(b:B0 a)(c:B1 a)(d:B2 a)(e:B3 a)(f:B4 a):∃a,B0 a∧B1 a∧B2 a∧B3 a∧B4 a:=⟨a,b,c,d,e,f⟩
theorem ym (a b c d e)(f:F0 a b c d e)(g:F1 a b c d e)(h:F2 a b c d e)(i:F3 a b c d e)(j:F4 a b c d e):∃a b c d e,F0 a b c d e∧F1 a b c d e∧F2 a b c d e∧F3 a b c d e∧F4 a b c d e:=⟨a,b,c,d,e,f,g,h,i,j⟩
theorem yn (a b)(d:C0 a b)(e:C1 a b)(f:C2 a b)(c)(g:D0 a b c):∃a b,C0 a b∧C1 a b∧C2 a b∧∃c,D0 a b c:=⟨a,b,d,e,f,c,g⟩
theorem yo (a)(d:B0 a)(b c)(e:D0 a b c):∃a,B0 a∧∃b c,D0 a b c:=⟨a,d,b,c,e⟩
theorem BX (H:∃a b c d,E0 a b c d∧E1 a b c d∧E2 a b c d∧E3 a b c d∧E4 a b c d)(K:∀a b c d,E0 a b c d→E1 a b c d→E2 a b c d→E3 a b c d→E4 a b c d→P):P:=by obtain ⟨a,b,c,d,e,f,g,h,i⟩:=H;exact K a b c d e f g h i
theorem BY (H:∃a b c d e,F0 a b c d e∧F1 a b c d e∧F2 a b c d e∧F3 a b c d e∧F4 a b c d e∧F5 a b c d e)(K:∀a b c d e,F0 a b c d e→F1 a b c d e→F2 a b c d e→F3 a b c d e→F4 a b c d e→F5 a b c d e→P):P:=by obtain ⟨a,b,c,d,e,f,g,h,i,j,k⟩:=H;exact K a b c d e f g h i j k
theorem AK (a:A0)(b:A1)(c:A2)(d:A3)(e:A4)(f:A5):A0∧A1∧A2∧A3∧A4∧A5:=⟨a,b,c,d,e,f⟩
theorem AL (a)(b:B0 a)(c:B1 a)(d:B2 a)(e:B3 a):∃a,B0 a∧B1 a∧B2 a∧B3 a:=⟨a,b,c,d,e⟩
theorem AM (a b c d e)(f:F0 a b c d e)(g:F1 a b c d e)(h:F2 a b c d e)(i:F3 a b c d e)(j:F4 a b c d e)(k:F5 a b c d e):∃a b c d e,F0 a b c d e∧F1 a b c d e∧F2 a b c d e∧F3 a b c d e∧F4 a b c d e∧F5 a b c d e:=⟨a,b,c,d,e,f,g,h,i,j,k⟩
theorem Ei (H:A0∧A1∧∃a,B0 a∧∃b c d,E0 a b c d∧E1 a b c d∧E2 a b c d)(K:A0→A1→∀a,B0 a→∀b c d,E0 a b c d→E1 a b c d→E2 a b c d→P):P:=by obtain ⟨e,f,a,g,b,c,d,h,i,j⟩:=H;exact K e f a g b c d h i j
theorem Ej (H:∃a b,C0 a b∧C1 a b∧C2 a b∧∃c d,E0 a b c d∧∃e f,G0 a b c d e f∧G1 a b c d e f∧G2 a b c d e f)(K:∀a b,C0 a b→C1 a b→C2 a b→∀c d,E0 a b c d→∀e f,G0 a b c d e f→G1 a b c d e f→G2 a b c d e f→P):P:=by obtain ⟨a,b,g,h,i,c,d,j,e,f,k,l,m⟩:=H;exact K a b g h i c d j e f k l m
theorem Ek (H:A0∧∃a b c d,E0 a b c d∧E1 a b c d∧E2 a b c d∧E3 a b c d)(K:A0→∀a b c d,E0 a b c d→E1 a b c d→E2 a b c d→E3 a b c d→P):P:=by obtain ⟨e,a,b,c,d,f,g,h,i⟩:=H;exact K e a b c d f g h i
theorem El (H:∃a b c d,E0 a b c d∧E1 a b c d∧E2 a b c d∧E3 a b c d∧E4 a b c d∧E5 a b c d∧E6 a b c d∧E7 a b c d∧E8 a b c d)(K:∀a b c d,E0 a b c d→E1 a b c d→E2 a b c d→E3 a b c d→E4 a b c d→E5 a b c d→E6 a b c d→E7 a b c d→E8 a b c d→P):P:=by obtain ⟨a,b,c,d,e,f,g,h,i,j,k,l,m⟩:=H;exact K a b c d e f g h i j k l m
theorem Em (H:∃a,B0 a∧B1 a∧B2 a∧B3 a∧B4 a∧B5 a)(K:∀a,B0 a→B1 a→B2 a→B3 a→B4 a→B5 a→P):P:=by obtain ⟨a,b,c,d,e,f,g⟩:=H;exact K a b c d e f g
theorem En (H:A0∧A1∧A2∧A3∧∃a,B0 a)(K:A0→A1→A2→A3→∀a,B0 a→P):P:=by obtain ⟨b,c,d,e,a,f⟩:=H;exact K b c d e a f
theorem Eo (H:∃a b c d,E0 a b c d)(K:∀a b c d,E0 a b c d→P):P:=by obtain ⟨a,b,c,d,e⟩:=H;exact K a b c d e
theorem CZ (e:A0)(f:A1)(a)(g:B0 a)(b c d)(h:E0 a b c d)(i:E1 a b c d):A0∧A1∧∃a,B0 a∧∃b c d,E0 a b c d∧E1 a b c d:=⟨e,f,a,g,b,c,d,h,i⟩
theorem C_ (a b c)(d:D0 a b c):∃a b c,D0 a b c:=⟨a,b,c,d⟩
theorem Da (a)(c:B0 a)(d:B1 a)(b)(e:C0 a b):∃a,B0 a∧B1 a∧∃b,C0 a b:=⟨a,c,d,b,e⟩
theorem Db (b:A0)(c:A1)(d:A2)(e:A3)(a)(f:B0 a)(g:B1 a)(h:B2 a):A0∧A1∧A2∧A3∧∃a,B0 a∧B1 a∧B2 a:=⟨b,c,d,e,a,f,g,h⟩
theorem Dc (e:A0)(f:A1)(a b c d)(g:E0 a b c d)(h:E1 a b c d)(i:E2 a b c d)(j:E3 a b c d)(k:E4 a b c d):A0∧A1∧∃a b c d,E0 a b c d∧E1 a b c d∧E2 a b c d∧E3 a b c d∧E4 a b c d:=⟨e,f,a,b,c,d,g,h,i,j,k⟩
theorem De (c:A0)(a b)(d:C0 a b)(e:C1 a b)(f:C2 a b):A0∧∃a b,C0 a b∧C1 a b∧C2 a b:=⟨c,a,b,d,e,f⟩
theorem Df (a b c)(d:D0 a b c)(e:D1 a b c)(f:D2 a b c):∃a b c,D0 a b c∧D1 a b c∧D2 a b c:=⟨a,b,c,d,e,f⟩
theorem Dg (a b c d)(e:E0 a b c d)(f:E1 a b c d)(g:E2 a b c d)(h:E3 a b c d)(i:E4 a b c d)(j:E5 a b c d)(k:E6 a b c d):∃a b c d,E0 a b c d∧E1 a b c d∧E2 a b c d∧E3 a b c d∧E4 a b c d∧E5 a b c d∧E6 a b c d:=⟨a,b,c,d,e,f,g,h,i,j,k⟩
theorem Dh (a)(f:B0 a)(b c d e)(g:F0 a b c d e)(h:F1 a b c d e)(i:F2 a b c d e)(j:F3 a b c d e)(k:F4 a b c d e)(l:F5 a b c d e)(m:F6 a b c d e):∃a,B0 a∧∃b c d e,F0 a b c d e∧F1 a b c d e∧F2 a b c d e∧F3 a b c d e∧F4 a b c d e∧F5 a b c d e∧F6 a b c d e:=⟨a,f,b,c,d,e,g,h,i,j,k,l,m⟩
theorem Di (a b)(e:C0 a b)(f:C1 a b)(g:C2 a b)(c d)(h:E0 a b c d)(i:E1 a b c d)(j:E2 a b c d):∃a b,C0 a b∧C1 a b∧C2 a b∧∃c d,E0 a b c d∧E1 a b c d∧E2 a b c d:=⟨a,b,e,f,g,c,d,h,i,j⟩
theorem Dj (a)(g:B0 a)(b c d e f)(h:G0 a b c d e f)(i:G1 a b c d e f)(j:G2 a b c d e f)(k:G3 a b c d e f):∃a,B0 a∧∃b c d e f,G0 a b c d e f∧G1 a b c d e f∧G2 a b c d e f∧G3 a b c d e f:=⟨a,g,b,c,d,e,f,h,i,j,k⟩
theorem Dk (d:A0)(a)(e:B0 a)(b)(f:C0 a b)(g:C1 a b)(c)(h:D0 a b c):A0∧∃a,B0 a∧∃b,C0 a b∧C1 a b∧∃c,D0 a b c:=⟨d,a,e,b,f,g,c,h⟩
theorem Dl (a b c d)(h:E0 a b c d)(i:E1 a b c d)(j:E2 a b c d)(k:E3 a b c d)(e f g)(l:H0 a b c d e f g)(m:H1 a b c d e f g)(n:H2 a b c d e f g)(o:H3 a b c d e f g):∃a b c d,E0 a b c d∧E1 a b c d∧E2 a b c d∧E3 a b c d∧∃e f g,H0 a b c d e f g∧H1 a b c d e f g∧H2 a b c d e f g∧H3 a b c d e f g:=⟨a,b,c,d,h,i,j,k,e,f,g,l,m,n,o⟩
theorem Dm (a b c d e)(i:F0 a b c d e)(j:F1 a b c d e)(k:F2 a b c d e)(l:F3 a b c d e)(m:F4 a b c d e)(n:F5 a b c d e)(o:F6 a b c d e)(f g h)(p:I0 a b c d e f g h)(q:I1 a b c d e f g h)(r:I2 a b c d e f g h)(s:I3 a b c d e f g h):∃a b c d e,F0 a b c d e∧F1 a b c d e∧F2 a b c d e∧F3 a b c d e∧F4 a b c d e∧F5 a b c d e∧F6 a b c d e∧∃f g h,I0 a b c d e f g h∧I1 a b c d e f g h∧I2 a b c d e f g h∧I3 a b c d e f g h:=⟨a,b,c,d,e,i,j,k,l,m,n,o,f,g,h,p,q,r,s⟩
theorem Do (a b c)(g:D0 a b c)(h:D1 a b c)(i:D2 a b c)(j:D3 a b c)(d e f)(k:G0 a b c d e f)(l:G1 a b c d e f)(m:G2 a b c d e f)(n:G3 a b c d e f):∃a b c,D0 a b c∧D1 a b c∧D2 a b c∧D3 a b c∧∃d e f,G0 a b c d e f∧G1 a b c d e f∧G2 a b c d e f∧G3 a b c d e f:=⟨a,b,c,g,h,i,j,d,e,f,k,l,m,n⟩
theorem Dp (a)(b:B0 a)(c:B1 a)(d:B2 a)(e:B3 a)(f:B4 a)(g:B5 a):∃a,B0 a∧B1 a∧B2 a∧B3 a∧B4 a∧B5 a:=⟨a,b,c,d,e,f,g⟩
theorem Dq (b:A0)(c:A1)(d:A2)(e:A3)(a)(f:B0 a):A0∧A1∧A2∧A3∧∃a,B0 a:=⟨b,c,d,e,a,f⟩
theorem Dr (a b c d)(e:E0 a b c d):∃a b c d,E0 a b c d:=⟨a,b,c,d,e⟩
theorem Ds (a)(c:B0 a)(b)(d:C0 a b):∃a,B0 a∧∃b,C0 a b:=⟨a,c,b,d⟩
theorem Dt (a b c d)(e:E0 a b c d)(f:E1 a b c d)(g:E2 a b c d):∃a b c d,E0 a b c d∧E1 a b c d∧E2 a b c d:=⟨a,b,c,d,e,f,g⟩
theorem Du (a)(g:B0 a)(b c d e f)(h:G0 a b c d e f):∃a,B0 a∧∃b c d e f,G0 a b c d e f:=⟨a,g,b,c,d,e,f,h⟩
theorem Fu (H:A0∧∃a,B0 a∧∃b,C0 a b∧C1 a b)(K:A0→∀a,B0 a→∀b,C0 a b→C1 a b→P):P:=by obtain ⟨c,a,d,b,e,f⟩:=H;exact K c a d b e f
theorem Fv (H:A0∧A1∧A2∧A3∧∃a,B0 a∧B1 a)(K:A0→A1→A2→A3→∀a,B0 a→B1 a→P):P:=by obtain ⟨b,c,d,e,a,f,g⟩:=H;exact K b c d e a f g
theorem Fw (H:∃a,B0 a∧∃b,C0 a b)(K:∀a,B0 a→∀b,C0 a b→P):P:=by obtain ⟨a,c,b,d⟩:=H;exact K a c b d
theorem Fx (H:A0∧A1∧A2∧A3∧∃a,B0 a∧B1 a∧B2 a)(K:A0→A1→A2→A3→∀a,B0 a→B1 a→B2 a→P):P:=by obtain ⟨b,c,d,e,a,f,g,h⟩:=H;exact K b c d e a f g h
theorem Fy (H:∃a b c d,E0 a b c d∧E1 a b c d∧E2 a b c d)(K:∀a b c d,E0 a b c d→E1 a b c d→E2 a b c d→P):P:=by obtain ⟨a,b,c,d,e,f,g⟩:=H;exact K a b c d e f g
theorem Fz (H:∃a b c d e,F0 a b c d e∧F1 a b c d e∧F2 a b c d e∧F3 a b c d e∧F4 a b c d e∧F5 a b c d e∧F6 a b c d e∧F7 a b c d e)(K:∀a b c d e,F0 a b c d e→F1 a b c d e→F2 a b c d e→F3 a b c d e→F4 a b c d e→F5 a b c d e→F6 a b c d e→F7 a b c d e→P):P:=by obtain ⟨a,b,c,d,e,f,g,h,i,j,k,l,m⟩:=H;exact K a b c d e f g h i j k l m
theorem FA (H:∃a b c d,E0 a b c d∧E1 a b c d∧E2 a b c d∧E3 a b c d∧E4 a b c d∧E5 a b c d)(K:∀a b c d,E0 a b c d→E1 a b c d→E2 a b c d→E3 a b c d→E4 a b c d→E5 a b c d→P):P:=by obtain ⟨a,b,c,d,e,f,g,h,i,j⟩:=H;exact K a b c d e f g h i j
theorem FB (H:∃a b c,D0 a b c∧D1 a b c∧D2 a b c∧D3 a b c∧D4 a b c∧D5 a b c∧D6 a b c)(K:∀a b c,D0 a b c→D1 a b c→D2 a b c→D3 a b c→D4 a b c→D5 a b c→D6 a b c→P):P:=by obtain ⟨a,b,c,d,e,f,g,h,i,j⟩:=H;exact K a b c d e f g h i j
theorem FC (H:∃a b c d e f g h i j k l m n o p q,R0 a b c d e f g h i j k l m n o p q∧R1 a b c d e f g h i j k l m n o p q∧R2 a b c d e f g h i j k l m n o p q∧R3 a b c d e f g h i j k l m n o p q)(K:∀a b c d e f g h i j k l m n o p q,R0 a b c d e f g h i j k l m n o p q→R1 a b c d e f g h i j k l m n o p q→R2 a b c d e f g h i j k l m n o p q→R3 a b c d e f g h i j k l m n o p q→P):P:=by obtain ⟨a,b,c,d,e,f,g,h,i,j,k,l,m,n,o,p,q,r,s,t,u⟩:=H;exact K a b c d e f g h i j k l m n o p q r s t u
theorem FD (H:∃a b,C0 a b∧C1 a b∧C2 a b∧C3 a b∧C4 a b)(K:∀a b,C0 a b→C1 a b→C2 a b→C3 a b→C4 a b→P):P:=by obtain ⟨a,b,c,d,e,f,g⟩:=H;exact K a b c d e f g
theorem FE (H:∃a b c d e,F0 a b c d e∧F1 a b c d e)(K:∀a b c d e,F0 a b c d e→F1 a b c d e→P):P:=by obtain ⟨a,b,c,d,e,f,g⟩:=H;exact K a b c d e f g
theorem FF (H:∃a b c d e,F0 a b c d e∧F1 a b c d e∧F2 a b c d e∧F3 a b c d e)(K:∀a b c d e,F0 a b c d e→F1 a b c d e→F2 a b c d e→F3 a b c d e→P):P:=by obtain ⟨a,b,c,d,e,f,g,h,i⟩:=H;exact K a b c d e f g h i
theorem FG (H:A0∧∃a,B0 a∧B1 a∧B2 a)(K:A0→∀a,B0 a→B1 a→B2 a→P):P:=by obtain ⟨b,a,c,d,e⟩:=H;exact K b a c d e
theorem FH (H:A0∧A1∧∃a b c,D0 a b c∧D1 a b c∧D2 a b c∧D3 a b c)(K:A0→A1→∀a b c,D0 a b c→D1 a b c→D2 a b c→D3 a b c→P):P:=by obtain ⟨d,e,a,b,c,f,g,h,i⟩:=H;exact K d e a b c f g h i
theorem FI (H:∃a,B0 a∧∃b,C0 a b∧C1 a b)(K:∀a,B0 a→∀b,C0 a b→C1 a b→P):P:=by obtain ⟨a,c,b,d,e⟩:=H;exact K a c b d e
theorem FJ (H:∃a b c d,E0 a b c d∧E1 a b c d∧E2 a b c d∧E3 a b c d∧E4 a b c d∧E5 a b c d∧E6 a b c d∧E7 a b c d∧E8 a b c d∧E9 a b c d)(K:∀a b c d,E0 a b c d→E1 a b c d→E2 a b c d→E3 a b c d→E4 a b c d→E5 a b c d→E6 a b c d→E7 a b c d→E8 a b c d→E9 a b c d→P):P:=by obtain ⟨a,b,c,d,e,f,g,h,i,j,k,l,m,n⟩:=H;exact K a b c d e f g h i j k l m n
theorem ER (c:A0)(a)(d:B0 a)(b)(e:C0 a b)(f:C1 a b):A0∧∃a,B0 a∧∃b,C0 a b∧C1 a b:=⟨c,a,d,b,e,f⟩
theorem ES (b:A0)(c:A1)(d:A2)(e:A3)(a)(f:B0 a)(g:B1 a):A0∧A1∧A2∧A3∧∃a,B0 a∧B1 a:=⟨b,c,d,e,a,f,g⟩
theorem ET (a b)(c:C0 a b)(d:C1 a b)(e:C2 a b)(f:C3 a b)(g:C4 a b)(h:C5 a b):∃a b,C0 a b∧C1 a b∧C2 a b∧C3 a b∧C4 a b∧C5 a b:=⟨a,b,c,d,e,f,g,h⟩
theorem EU (a b c)(d:D0 a b c)(e:D1 a b c)(f:D2 a b c)(g:D3 a b c)(h:D4 a b c)(i:D5 a b c):∃a b c,D0 a b c∧D1 a b c∧D2 a b c∧D3 a b c∧D4 a b c∧D5 a b c:=⟨a,b,c,d,e,f,g,h,i⟩
theorem EV (c:A0)(d:A1)(a b)(e:C0 a b)(f:C1 a b):A0∧A1∧∃a b,C0 a b∧C1 a b:=⟨c,d,a,b,e,f⟩
theorem CB (a b c d e f g h i)(j:J0 a b c d e f g h i)(k:J1 a b c d e f g h i)(l:J2 a b c d e f g h i):∃a b c d e f g h i,J0 a b c d e f g h i∧J1 a b c d e f g h i∧J2 a b c d e f g h i:=⟨a,b,c,d,e,f,g,h,i,j,k,l⟩
theorem FP (a b c d e f g h i j k l m n o p q)(r:R0 a b c d e f g h i j k l m n o p q)(s:R1 a b c d e f g h i j k l m n o p q)(t:R2 a b c d e f g h i j k l m n o p q)(u:R3 a b c d e f g h i j k l m n o p q):∃a b c d e f g h i j k l m n o p q,R0 a b c d e f g h i j k l m n o p q∧R1 a b c d e f g h i j k l m n o p q∧R2 a b c d e f g h i j k l m n o p q∧R3 a b c d e f g h i j k l m n o p q:=⟨a,b,c,d,e,f,g,h,i,j,k,l,m,n,o,p,q,r,s,t,u⟩
theorem CC (a)(c:B0 a)(b)(d:C0 a b)(e:C1 a b):∃a,B0 a∧∃b,C0 a b∧C1 a b:=⟨a,c,b,d,e⟩
theorem CD (a b)(e:C0 a b)(f:C1 a b)(c d)(g:E0 a b c d)(h:E1 a b c d)(i:E2 a b c d):∃a b,C0 a b∧C1 a b∧∃c d,E0 a b c d∧E1 a b c d∧E2 a b c d:=⟨a,b,e,f,c,d,g,h,i⟩
theorem CF (a b c d e)(h:F0 a b c d e)(i:F1 a b c d e)(j:F2 a b c d e)(k:F3 a b c d e)(l:F4 a b c d e)(f g)(m:H0 a b c d e f g)(n:H1 a b c d e f g)(o:H2 a b c d e f g):∃a b c d e,F0 a b c d e∧F1 a b c d e∧F2 a b c d e∧F3 a b c d e∧F4 a b c d e∧∃f g,H0 a b c d e f g∧H1 a b c d e f g∧H2 a b c d e f g:=⟨a,b,c,d,e,h,i,j,k,l,f,g,m,n,o⟩
theorem CG (a b c d e)(f:F0 a b c d e)(g:F1 a b c d e)(h:F2 a b c d e)(i:F3 a b c d e)(j:F4 a b c d e)(k:F5 a b c d e)(l:F6 a b c d e):∃a b c d e,F0 a b c d e∧F1 a b c d e∧F2 a b c d e∧F3 a b c d e∧F4 a b c d e∧F5 a b c d e∧F6 a b c d e:=⟨a,b,c,d,e,f,g,h,i,j,k,l⟩
theorem CH (a b c)(d:D0 a b c)(e:D1 a b c)(f:D2 a b c)(g:D3 a b c)(h:D4 a b c)(i:D5 a b c)(j:D6 a b c):∃a b c,D0 a b c∧D1 a b c∧D2 a b c∧D3 a b c∧D4 a b c∧D5 a b c∧D6 a b c:=⟨a,b,c,d,e,f,g,h,i,j⟩
theorem CI (a b c d e)(f:F0 a b c d e)(g:F1 a b c d e)(h:F2 a b c d e)(i:F3 a b c d e):∃a b c d e,F0 a b c d e∧F1 a b c d e∧F2 a b c d e∧F3 a b c d e:=⟨a,b,c,d,e,f,g,h,i⟩
theorem CJ (a b)(g:C0 a b)(h:C1 a b)(i:C2 a b)(c d)(j:E0 a b c d)(e f)(k:G0 a b c d e f)(l:G1 a b c d e f)(m:G2 a b c d e f)(n:G3 a b c d e f)(o:G4 a b c d e f):∃a b,C0 a b∧C1 a b∧C2 a b∧∃c d,E0 a b c d∧∃e f,G0 a b c d e f∧G1 a b c d e f∧G2 a b c d e f∧G3 a b c d e f∧G4 a b c d e f:=⟨a,b,g,h,i,c,d,j,e,f,k,l,m,n,o⟩
theorem CK (a)(e:B0 a)(f:B1 a)(b c d)(g:E0 a b c d)(h:E1 a b c d)(i:E2 a b c d)(j:E3 a b c d):∃a,B0 a∧B1 a∧∃b c d,E0 a b c d∧E1 a b c d∧E2 a b c d∧E3 a b c d:=⟨a,e,f,b,c,d,g,h,i,j⟩
theorem CM (a)(e:B0 a)(f:B1 a)(g:B2 a)(b c d)(h:E0 a b c d)(i:E1 a b c d)(j:E2 a b c d)(k:E3 a b c d):∃a,B0 a∧B1 a∧B2 a∧∃b c d,E0 a b c d∧E1 a b c d∧E2 a b c d∧E3 a b c d:=⟨a,e,f,g,b,c,d,h,i,j,k⟩
theorem CN (a b)(g:C0 a b)(h:C1 a b)(i:C2 a b)(c d)(j:E0 a b c d)(e f)(k:G0 a b c d e f)(l:G1 a b c d e f)(m:G2 a b c d e f):∃a b,C0 a b∧C1 a b∧C2 a b∧∃c d,E0 a b c d∧∃e f,G0 a b c d e f∧G1 a b c d e f∧G2 a b c d e f:=⟨a,b,g,h,i,c,d,j,e,f,k,l,m⟩
theorem CO (a b c)(d:D0 a b c)(e:D1 a b c)(f:D2 a b c)(g:D3 a b c)(h:D4 a b c)(i:D5 a b c)(j:D6 a b c)(k:D7 a b c):∃a b c,D0 a b c∧D1 a b c∧D2 a b c∧D3 a b c∧D4 a b c∧D5 a b c∧D6 a b c∧D7 a b c:=⟨a,b,c,d,e,f,g,h,i,j,k⟩
theorem CP (a b c)(i:D0 a b c)(j:D1 a b c)(k:D2 a b c)(l:D3 a b c)(d e f g h)(m:I0 a b c d e f g h)(n:I1 a b c d e f g h)(o:I2 a b c d e f g h)(p:I3 a b c d e f g h)(q:I4 a b c d e f g h)(r:I5 a b c d e f g h)(s:I6 a b c d e f g h)(t:I7 a b c d e f g h)(u:I8 a b c d e f g h):∃a b c,D0 a b c∧D1 a b c∧D2 a b c∧D3 a b c∧∃d e f g h,I0 a b c d e f g h∧I1 a b c d e f g h∧I2 a b c d e f g h∧I3 a b c d e f g h∧I4 a b c d e f g h∧I5 a b c d e f g h∧I6 a b c d e f g h∧I7 a b c d e f g h∧I8 a b c d e f g h:=⟨a,b,c,i,j,k,l,d,e,f,g,h,m,n,o,p,q,r,s,t,u⟩
theorem CQ (e:A0)(a b c d)(f:E0 a b c d)(g:E1 a b c d)(h:E2 a b c d)(i:E3 a b c d):A0∧∃a b c d,E0 a b c d∧E1 a b c d∧E2 a b c d∧E3 a b c d:=⟨e,a,b,c,d,f,g,h,i⟩
theorem CS (a b c d)(e:E0 a b c d)(f:E1 a b c d)(g:E2 a b c d)(h:E3 a b c d)(i:E4 a b c d)(j:E5 a b c d)(k:E6 a b c d)(l:E7 a b c d)(m:E8 a b c d):∃a b c d,E0 a b c d∧E1 a b c d∧E2 a b c d∧E3 a b c d∧E4 a b c d∧E5 a b c d∧E6 a b c d∧E7 a b c d∧E8 a b c d:=⟨a,b,c,d,e,f,g,h,i,j,k,l,m⟩
theorem CT (a b c d)(e:E0 a b c d)(f:E1 a b c d)(g:E2 a b c d)(h:E3 a b c d)(i:E4 a b c d)(j:E5 a b c d)(k:E6 a b c d)(l:E7 a b c d)(m:E8 a b c d)(n:E9 a b c d):∃a b c d,E0 a b c d∧E1 a b c d∧E2 a b c d∧E3 a b c d∧E4 a b c d∧E5 a b c d∧E6 a b c d∧E7 a b c d∧E8 a b c d∧E9 a b c d:=⟨a,b,c,d,e,f,g,h,i,j,k,l,m,n⟩
theorem CU (a)(e:B0 a)(f:B1 a)(b c d)(g:E0 a b c d)(h:E1 a b c d)(i:E2 a b c d)(j:E3 a b c d)(k:E4 a b c d):∃a,B0 a∧B1 a∧∃b c d,E0 a b c d∧E1 a b c d∧E2 a b c d∧E3 a b c d∧E4 a b c d:=⟨a,e,f,b,c,d,g,h,i,j,k⟩
theorem CV (a b c d)(i:E0 a b c d)(j:E1 a b c d)(k:E2 a b c d)(e f g h)(l:I0 a b c d e f g h)(m:I1 a b c d e f g h)(n:I2 a b c d e f g h)(o:I3 a b c d e f g h)(p:I4 a b c d e f g h):∃a b c d,E0 a b c d∧E1 a b c d∧E2 a b c d∧∃e f g h,I0 a b c d e f g h∧I1 a b c d e f g h∧I2 a b c d e f g h∧I3 a b c d e f g h∧I4 a b c d e f g h:=⟨a,b,c,d,i,j,k,e,f,g,h,l,m,n,o,p⟩
theorem CW (a b c d e)(h:F0 a b c d e)(i:F1 a b c d e)(j:F2 a b c d e)(k:F3 a b c d e)(l:F4 a b c d e)(m:F5 a b c d e)(n:F6 a b c d e)(o:F7 a b c d e)(f g)(p:H0 a b c d e f g)(q:H1 a b c d e f g)(r:H2 a b c d e f g):∃a b c d e,F0 a b c d e∧F1 a b c d e∧F2 a b c d e∧F3 a b c d e∧F4 a b c d e∧F5 a b c d e∧F6 a b c d e∧F7 a b c d e∧∃f g,H0 a b c d e f g∧H1 a b c d e f g∧H2 a b c d e f g:=⟨a,b,c,d,e,h,i,j,k,l,m,n,o,f,g,p,q,r⟩
theorem CY (a)(e:B0 a)(b c d)(f:E0 a b c d):∃a,B0 a∧∃b c d,E0 a b c d:=⟨a,e,b,c,d,f⟩
end
theorem cps {G:Prop}(h:∀ P:Prop,(G→P)→P):G:=h G id
namespace L2
open PySem PySem.Spec PyProof.Rows
theorem dZ {α:Type}{l:List α}{i:Nat}{a:α}(h:l[i]?=some a):∃ h:i<l.length,l[i]=a:=List.getElem?_eq_some_iff.mp h
theorem dt {α:Type}{a b:α}{l:List α}(h:a∈l):a∈b::l:=.tail _ h
theorem cS {α:Type}{l:List α}{i:Nat}(h:i<l.length):l[i]?=some l[i]:=List.getElem?_eq_getElem h
noncomputable abbrev ly:=Sum Int Str
noncomputable def zt:ly→Value→Bool
 | .inl k,v=>Value.isInt k v
 | .inr x,v=>Value.isStrOf x v
noncomputable def EX (w:World):ly→Int
 | .inl k=>hashInt k
 | .inr x=>hashStr w x
theorem bM:∀ {k:ly} {v:Value},zt k v=true→(∃ i t,k=Sum.inl i∧v=Value.int i t)∨(∃ x t,k=Sum.inr x∧v=Value.str x t)
 | .inl i,v,h=>by
  obtain ⟨t,e⟩:=Value.isInt_shape (k:=i) (v:=v) h
  exact .inl (kY i t rfl e)
 | .inr x,v,h=>by
  obtain ⟨t,e⟩:=Value.isStrOf_shape (x:=x) (v:=v) h
  exact .inr (kY x t rfl e)
theorem AQ (a b:Int):decide ((Sum.inl a:ly)=Sum.inl b)=(a == b):=by
 by_cases e:a=b
 ·subst e; simp
 ·have h:¬ (Sum.inl a:ly)=Sum.inl b:=fun q=>e (Sum.inl.inj q)
  rw [decide_eq_false h]
  exact (beq_eq_false_iff_ne.mpr e).symm
theorem AT (a b:Str):decide ((Sum.inr a:ly)=Sum.inr b)=decide (a=b):=by
 by_cases e:a=b
 ·subst e; simp
 ·have h:¬ (Sum.inr a:ly)=Sum.inr b:=fun q=>e (Sum.inr.inj q)
  rw [decide_eq_false h,decide_eq_false e]
theorem AR (a:Int)(b:Str):decide ((Sum.inl a:ly)=Sum.inr b)=false:=decide_eq_false (fun q=>nomatch q)
theorem AS (a:Str)(b:Int):decide ((Sum.inr a:ly)=Sum.inl b)=false:=decide_eq_false (fun q=>nomatch q)
noncomputable def sU (prog:Program)(w:World):PySem.KeyKind prog w ly where
 is:=zt
 hash:=EX w
 inj:=fun v a b ha hb=>by
  rcases bM ha with ⟨i,t,rfl,rfl⟩ | ⟨x,t,rfl,rfl⟩
  ·rcases bM hb with ⟨j,u,rfl,e⟩ | ⟨y,u,rfl,e⟩
   ·injection e with e1 _; rw [e1]
   ·exact nomatch e
  ·rcases bM hb with ⟨j,u,rfl,e⟩ | ⟨y,u,rfl,e⟩
   ·exact nomatch e
   ·injection e with e1 _; rw [e1]
 byValue:=fun k v h=>by
  rcases bM h with ⟨i,t,rfl,rfl⟩ | ⟨x,t,rfl,rfl⟩ <;> rfl
 pyHash:=fun hv h=>by
  rcases bM hv with ⟨i,t,rfl,rfl⟩ | ⟨x,t,rfl,rfl⟩
  ·exact wpAny_pyHash_int h
  ·exact wpAny_pyHash_str h
 eqBool:=fun hu hv h=>by
  rcases bM hu with ⟨i,t,rfl,rfl⟩ | ⟨x,t,rfl,rfl⟩
  ·rcases bM hv with ⟨j,u,rfl,rfl⟩ | ⟨y,u,rfl,rfl⟩
   ·rw [AQ] at h; exact wpAny_eqBool_int h
   ·rw [AR] at h; exact SeqAt.EqAt.int_str i t y u _ _ _ _ h
  ·rcases bM hv with ⟨j,u,rfl,rfl⟩ | ⟨y,u,rfl,rfl⟩
   ·rw [AS] at h; exact SeqAt.EqAt.str_int x t j u _ _ _ _ h
   ·rw [AT] at h; exact wpAny_eqBool_str h
 «strs»:=fun k x t v h=>by
  rcases bM h with ⟨i,u,rfl,e⟩ | ⟨y,u,rfl,e⟩
  ·exact nomatch e
  ·injection e with e1 _
   subst e1
   cases v <;> rfl
inductive V where
 | non | bl (b:Bool) | int (i:Int) | str (x:Str) | byt (b:Array UInt8) | flt (b:UInt64) | ref (a:Addr) | ty (n:String)
 deriving DecidableEq
noncomputable def RelV:V→Value→Prop
 | .non,u=>u=Value.none
 | .bl b,u=>u=Value.bool b
 | .int i,u=>∃ t,u=Value.int i t
 | .str x,u=>∃ t,u=Value.str x t
 | .byt b,u=>∃ t,u=Value.bytes b t
 | .flt b,u=>∃ t,u=Value.float b t
 | .ref a,u=>u=Value.ref a
 | .ty n,u=>u=Value.type n
noncomputable abbrev Vals:List V→List Value→Prop:=Paired RelV
theorem Vals.length {xs:List V}{us:List Value}(r:Vals xs us):xs.length=us.length:=Paired.length r
theorem Vals.get:∀ {xs:List V} {us:List Value} {i:Nat} {x:V},Vals xs us→xs[i]?=some x→∃ u,us[i]?=some u∧RelV x u
 | _,_,_,_,.nil,e=>by simp at e
 | _,_,0,_,.cons r _,e=>by simp at e; subst e; exact ⟨_,rfl,r⟩
 | _,_,i+1,x,.cons _ t,e=>by
  obtain ⟨u,a,b⟩:=Vals.get (i:=i) (x:=x) t (by simpa using e)
  exact ⟨u,by simpa using a,b⟩
theorem Vals.set {x:V}{u:Value}(r:RelV x u):∀ {xs:List V} {us:List Value} (i:Nat),Vals xs us→Vals (xs.set i x) (us.set i u)
 | _,_,_,.nil=> .nil
 | _,_,0,.cons _ t=> .cons r t
 | _,_,i+1,.cons q t=> .cons q (Vals.set r i t)
theorem Vals.append:∀ {xs ys:List V} {us ws:List Value},Vals xs us→Vals ys ws→Vals (xs ++ ys) (us ++ ws)
 | _,_,_,_,.nil,s=>s
 | _,_,_,_,.cons r t,s=> .cons r (Vals.append t s)
theorem Vals.take:∀ {xs:List V} {us:List Value} (n:Nat),Vals xs us→Vals (xs.take n) (us.take n)
 | _,_,0,_=> .nil
 | _,_,_+1,.nil=> .nil
 | _,_,n+1,.cons r t=> .cons r (Vals.take n t)
theorem Vals.drop:∀ {xs:List V} {us:List Value} (n:Nat),Vals xs us→Vals (xs.drop n) (us.drop n)
 | _,_,0,r=>r
 | _,_,_+1,.nil=> .nil
 | _,_,n+1,.cons _ t=>Vals.drop n t
noncomputable def RelO:Option V→Option Value→Prop
 | some v,some u=>RelV v u
 | none,none=>True
 | _,_=>False
noncomputable def KV {κ:Type}:List (κ×V)→List (κ×Value)→Prop:=Paired fun (p:κ×V) (q:κ×Value)=>p.1=q.1∧RelV p.2 q.2
noncomputable def kV:ly→V
 | .inl i=> .int i
 | .inr x=> .str x
inductive HO where
 /-- a list -/
 | lst (xs:List V)
 /-- a tuple (never changes) -/
 | tup (xs:List V)
 /-- a dict whose keys are ints and texts; one whose keys are tuples of ints and texts (the empty one is both) -/
 | dK (kvs:List (ly×V)) | dT (kvs:List (List ly×V))
 /-- a set of ints:its members,its size -/
 | set (S:Int→Bool) (n:Nat)
 /-- an instance of the class at C,its dict at dx,its attributes -/
 | ins (C dx:Addr) (fs:List (Str×V))
 /-- the dict of the instance at x -/
 | own (x:Addr)
 /-- the dict of an exception -/
 | xd (fs:List (Str×V))
 /-- a bound method,f of x -/
 | met (f x:Addr)
 /-- a range object lo,lo+1,.. below hi -/
 | rng (lo hi:Int)
 /-- a thing that is known to the object (the script; a dict while a loop walks it):read,never written while it is so -/
 | frz (o:Obj) (u:HO)
 /-- a code object's table -/
 | tbl (ps:Array Value)
 /-- any other thing,by what is true of its one object (a def of one's own:SetO a S n:=HO.ext fun h=> ..) -/
 | ext (φ:Heap→Prop)
noncomputable abbrev Hp:=Addr→Option HO
noncomputable def bu (H:Hp)(a:Addr)(o:HO):Hp:=fun b=>if b=a then some o else H b
theorem az {H:Hp}{a:Addr}{o:HO}:bu H a o a=some o:=by unfold bu; rw [if_pos rfl]
theorem am {H:Hp}{a b:Addr}{o:HO}(h:b≠a):bu H a o b=H b:=by unfold bu; rw [if_neg h]
theorem aw {H:Hp}{a b:Addr}{o:HO}(h:H a=some o)(h':H b=none):a≠b:=by
 intro e; subst e; rw [h] at h'; cases h'
section
variable(P:Program)(w:World)
noncomputable def ObjOk (H:Hp)(h:Heap)(a:Addr):HO→Prop
 | .lst xs=>xs.length≤sizeLine∧∃ (its:List Value) (n:Nat),Vals xs its∧h.get? a=some { cls:= .type "list",data:= .seq its.toArray n }
 | .tup xs=>xs.length≤sizeLine∧∃ its:List Value,Vals xs its∧IsTup h a its.toArray
 | .dK kvs=>kvs.length≤sizeLine∧(a == sysModules)=false∧∃ vs,KV kvs vs∧h.DictOf (sU P w) a vs
 | .dT kvs=>kvs.length≤sizeLine∧(a == sysModules)=false∧∃ xs:List (List ly×Addr×Value),
   Paired (fun (p:List ly×V) (q:List ly×Addr×Value)=>p.1=q.1∧H q.2.1=some (.tup (p.1.map kV))∧RelV p.2 q.2.2) kvs xs∧
   ∃ o es ep,h.get? a=some o∧o.ExactDict∧o.data= .dict es ep∧es.toList=xs.map (entryOfKey (tupleKind (sU P w)))∧(xs.map (·.1)).Nodup
 | .set S n=>h.SetOf (intKind P w) a S n
 | .ins C dx fs=>H dx=some (.own a)∧fs.length≤1000∧dx≠a∧h.get? a=some (W.instObj C dx)∧
   ∃ mA,h.Ns1 dx mA∧(∀ f,RelO (fs.lookup f) (mA f))∧PySem.Within mA (fs.map (·.1))
 | .own _=>∃ o,h.get? a=some o
 | .xd fs=>∃ mA,h.Ns1 a mA∧∀ f,RelO (fs.lookup f) (mA f)
 | .rng lo hi=>∃ t u v,h.get? a=some { cls:= .type "range",data:= .fields #[.int lo t,.int hi u,.int 1 v] }
 | .frz o u=>h.get? a=some o∧ObjOk H h a u
 | .tbl ps=>h.get? a=some { cls:= .none,data:= .fields ps }
 | .met f x=>h.get? a=some (W.methodObj (.ref f) (.ref x))
 | .ext φ=>φ h∧(∃ o,h.get? a=some o)∧∀ h1 h2:Heap,φ h1→(∀ o,h1.get? a=some o→h2.get? a=some o)→φ h2
noncomputable def HOk (H:Hp)(h:Heap):Prop:=∀ a o,H a=some o→ObjOk P w H h a o
end
section
variable{P:Program}{w:World}{H H':Hp}{h h':Heap}{a:Addr}{o:HO}
theorem ObjOk.lt (x:ObjOk P w H h a o):a < h.objs.size:=by
 cases o with
 | lst d=>refine uI (x) fun _ _ _ _ e=> ?_; exact Heap.lt_size e
 | tup d=>refine se (x) fun _ _ _ p=> ?_; exact p.lt
 | dK c=>refine uJ (x) fun _ _ _ _ o _ _ e _=> ?_; exact Heap.lt_size e
 | dT c=>refine uJ (x) fun _ _ _ _ o _ _ e _=> ?_; exact Heap.lt_size e
 | set S n=>refine sf (x) fun o _ _ _ e _=> ?_; exact Heap.lt_size e
 | ins C i fs=>refine mX (x) fun _ _ _ e _=> ?_; exact Heap.lt_size e
 | own y=>obtain ⟨_,e⟩:=x; exact Heap.lt_size e
 | xd fs=>obtain ⟨_,⟨_,_,_,e,_⟩,_⟩:=x; exact Heap.lt_size e
 | rng g j=>refine wX (x) fun _ _ _ e=> ?_; exact Heap.lt_size e
 | frz l u=>obtain ⟨e,_⟩:=x; exact Heap.lt_size e
 | tbl m=>exact Heap.lt_size (show h.get? a=some _ from x)
 | met f y=>exact Heap.lt_size (show h.get? a=some _ from x)
 | ext k=>obtain ⟨_,⟨_,e⟩,_⟩:=x; exact Heap.lt_size e
theorem Paired.mapP {α β:Type}{F G:α→β→Prop}:∀ {l₁:List α} {l₂:List β},Paired F l₁ l₂→(∀ a b,F a b→G a b)→Paired G l₁ l₂
 | _,_,.nil,_=> .nil
 | _,_,.cons r t,f=> .cons (f _ _ r) (Paired.mapP t f)
theorem ObjOk.stay (x:ObjOk P w H h a o)(k:∀ b u,(b=a∨H b=some (.own a))→h.get? b=some u→h'.get? b=some u)
  (ho:∀ b,H b=some (.own a)→H' b=some (.own a)) (ht:∀ b xs,H b=some (.tup xs)→H' b=some (.tup xs)):ObjOk P w H' h' a o:=by
 induction o with
 | lst xs=>refine uI (x) fun z s n r e=> ?_; exact (lQ z s n r (k _ _ (.inl rfl) e))
 | tup xs=>refine Fu (x) fun z s r i e c=> ?_; exact (ER z s r i (k _ _ (.inl rfl) e) c)
 | dK g=>refine uJ (x) fun z y F r i m l e c=> ?_; exact (CZ z y F r i m l (k _ _ (.inl rfl) e) c)
 | dT g=>
  refine uJ (x) fun z y xs r i m l e c=> ?_
  exact (CZ z y xs (Paired.mapP r fun p q z=>⟨z.1,ht _ _ z.2.1,z.2.2⟩) i m l (k _ _ (.inl rfl) e) c)
 | set S n=>refine sf (x) fun i m l t e c=> ?_; exact (yj i m l t (k _ _ (.inl rfl) e) c)
 | ins C K fs=>
  refine Fv (x) fun d z ne e B D r=> ?_; obtain ⟨A,m,l,I,c⟩:=D
  exact (ES (ho _ d) z ne (k _ _ (.inl rfl) e) B (ug A m l (k _ _ (.inr d) I) c) r)
 | own y=>obtain ⟨i,e⟩:=x; exact ⟨i,k _ _ (.inl rfl) e⟩
 | xd fs=>obtain ⟨B,⟨A,m,l,e,c⟩,r⟩:=x; exact ⟨B,(ug A m l (k _ _ (.inl rfl) e) c),r⟩
 | rng J L=>refine wX (x) fun t u v e=> ?_; exact (C_ t u v (k _ _ (.inl rfl) e))
 | frz i u G=>obtain ⟨e,q⟩:=x; exact ⟨k _ _ (.inl rfl) e,G q⟩
 | tbl j=>
  have e:h.get? a=some { cls:= .none,data:= .fields j }:=x
  show h'.get? a=some { cls:= .none,data:= .fields j }
  exact k a _ (.inl rfl) e
 | met f y=>
  have e:h.get? a=some (W.methodObj (.ref f) (.ref y)):=x
  show h'.get? a=some (W.methodObj (.ref f) (.ref y))
  exact k a _ (.inl rfl) e
 | ext M=>obtain ⟨p,⟨o,e⟩,E⟩:=x; exact ⟨E _ _ p fun o q=>k _ _ (.inl rfl) q,⟨o,k _ _ (.inl rfl) e⟩,E⟩
theorem HOk.lt (x:HOk P w H h)(e:H a=some o):a < h.objs.size:=(x a o e).lt
theorem HOk.fresh (x:HOk P w H h)(e:h.objs.size≤a):H a=none:=by
 cases q:H a with
 | none=>rfl
 | some u=>exact absurd (Nat.lt_of_lt_of_le (x.lt q) e) (Nat.lt_irrefl _)
theorem HOk.kept (x:HOk P w H h)(k:∀ b u,h.get? b=some u→h'.get? b=some u):HOk P w H h':=fun a o e=>
 (x a o e).stay (fun b u _ q=>k b u q) (fun _ q=>q) fun _ _ q=>q
theorem HOk.laid (x:HOk P w H h)(k:∀ b u,h.get? b=some u→h'.get? b=some u)(hp:h.objs.size≤a)(new:ObjOk P w (bu H a o) h' a o):HOk P w (bu H a o) h':=fun b u e=>by
 have z:=x.fresh hp
 by_cases y:b=a
 ·subst y; rw [az] at e; cases e; exact new
 ·rw [am y] at e
  exact (x b u e).stay (fun c v _ q=>k c v q) (fun c q=>by rw [am (aw q z)]; exact q) fun c d q=>by rw [am (aw q z)]; exact q
end
noncomputable def Rd (H:Hp)(a:Addr)(u:HO):Prop:=H a=some u∨∃ o,H a=some (.frz o u)
theorem Rd.ok {P:Program}{w:World}{H:Hp}{h:Heap}{a:Addr}{u:HO}(r:Rd H a u)(x:HOk P w H h):ObjOk P w H h a u:=by
 rcases r with r | ⟨o,r⟩
 ·exact x a u r
 ·obtain ⟨_,q⟩:=x a _ r
  exact q
noncomputable def Er:Option HO→Prop
 | some (.lst _)=>True
 | some (.dK _)=>True
 | some (.dT _)=>True
 | some (.set _ _)=>True
 | some (.ins _ _ _)=>True
 | some (.ext _)=>True
 | _=>False
section
variable{P:Program}{w:World}{H:Hp}{h h':Heap}{x e:Addr}{o':HO}
theorem HOk.write (ok:HOk P w H h)(mu:Er (H x))(he:e=x∨H e=some (.own x))(k:∀ b u,b≠e→h.get? b=some u→h'.get? b=some u)(heo:∃ u,h'.get? e=some u)
  (new:ObjOk P w (bu H x o') h' x o'):HOk P w (bu H x o') h':=fun b u q=>by
 have B:∀ c y,H c=some (.own y)→c≠x:=fun c y r z=>by subst z; rw [r] at mu; exact mu
 have C:∀ c d,H c=some (.tup d)→c≠x:=fun c d r z=>by subst z; rw [r] at mu; exact mu
 by_cases D:b=x
 ·subst D; rw [az] at q; cases q; exact new
 ·rw [am D] at q
  by_cases A:b=e
  ·have q':H b=some (.own x):=by
    rcases he with z | z
    ·exact absurd (A.trans z) D
    ·rw [A]; exact z
   rw [q] at q'; cases q'
   obtain ⟨v,E⟩:=heo
   exact ⟨v,by rw [A]; exact E⟩
  ·refine (ok b u q).stay (fun c v hc r=>k c v ?_ r) (fun c r=>by rw [am (B c b r)]; exact r) fun c d r=>by rw [am (C c d r)]; exact r
   rcases hc with rfl | hc
   ·exact A
   ·rintro rfl
    rcases he with z | z
    ·exact B c b hc z
    ·rw [hc] at z; cases z; exact D rfl
end
structure Un (fs ex:List Addr)(H H':Hp)(h h':Heap):Prop where
 keep:∀ b o,h.get? b=some o→H b=none→b∉fs→b∉ex→h'.get? b=some o
 slot:∀ b o,h.get? b=some o→H b=none→b∈fs→b∉ex→∃ sl,h'.get? b=some { o with slots:=sl }
 free:∀ b o,h.get? b=some o→H b=none→b∉ex→H' b=none
 there:∀ b o,h.get? b=some o→b∉ex→∃ o',h'.get? b=some o'
 tups:∀ b xs,H b=some (.tup xs)→H' b=some (.tup xs)
 frzs:∀ b o u,H b=some (.frz o u)→H' b=some (.frz o u)
 tbls:∀ b ps,H b=some (.tbl ps)→∃ more,H' b=some (.tbl (ps ++ more))
section
variable{fs fs' ex ex':List Addr}{H H1 H2:Hp}{h h1 h2 h':Heap}{a x e:Addr}{o:HO}
theorem Un.any (u:Un fs ex H H1 h h1){b:Addr}{ob:Obj}(q:h.get? b=some ob)(n:H b=none)(hx:b∉ex):∃ sl,h1.get? b=some { ob with slots:=sl }:=by
 by_cases v:b∈fs
 ·exact u.slot b ob q n v hx
 ·exact ⟨ob.slots,u.keep b ob q n v hx⟩
theorem Un.kept (k:∀ b u,h.get? b=some u→h'.get? b=some u):Un fs ex H H h h':=
 ⟨fun b i q _ _ _=>k b i q,fun b i q _ _ _=>⟨i.slots,k b i q⟩,fun _ _ _ n _=>n,fun b i q _=>⟨i,k b i q⟩,fun _ _ q=>q,fun _ _ _ q=>q,fun _ j q=>⟨#[],by rw [q]; simp⟩⟩
theorem Un.refl:Un fs ex H H h h:=Un.kept fun _ _ q=>q
theorem Un.laid (k:∀ b u,h.get? b=some u→h'.get? b=some u)(hp:h.objs.size≤a)(hn:H a=none):Un fs ex H (bu H a o) h h' where
 keep:=fun b u q _ _ _=>k b u q
 slot:=fun b u q _ _ _=>⟨u.slots,k b u q⟩
 free:=fun b u q n _=>by rw [am (Nat.ne_of_lt (Nat.lt_of_lt_of_le (Heap.lt_size q) hp))]; exact n
 there:=fun b u q _=>⟨u,k b u q⟩
 tups:=fun b d q=>by rw [am (aw q hn)]; exact q
 frzs:=fun b u d q=>by rw [am (aw q hn)]; exact q
 tbls:=fun b j q=>⟨#[],by rw [am (aw q hn),q]; simp⟩
theorem Un.write (mu:Er (H x))(he:e=x∨H e=some (.own x))(k:∀ b u,b≠e→h.get? b=some u→h'.get? b=some u)(heo:∃ u,h'.get? e=some u):Un fs ex H (bu H x o) h h':=by
 have B:∀ b,H b=none→b≠x:=fun b n z=>by subst z; rw [n] at mu; exact mu
 have v:∀ b,H b=none→b≠e:=fun b n z=>by
  subst z
  rcases he with r | r
  ·exact B b n r
  ·rw [n] at r; cases r
 have A:∀ b u,H b=some u→¬ Er (some u)→b≠x:=fun b u q C z=>by subst z; rw [q] at mu; exact C mu
 refine ⟨fun b u q n _ _=>k b u (v b n) q,fun b u q n _ _=>⟨u.slots,k b u (v b n) q⟩,fun b u q n _=>by rw [am (B b n)]; exact n,fun b u q _=> ?_,
  fun b d q=>by rw [am (A b _ q fun z=>z)]; exact q,fun b u d q=>by rw [am (A b _ q fun z=>z)]; exact q,fun b j q=>⟨#[],by rw [am (A b _ q fun z=>z),q]; simp⟩⟩
 by_cases w:b=e
 ·subst w; exact heo
 ·exact ⟨u,k b u w q⟩
end
noncomputable def EA (h:Heap)(H:Hp):List Addr:=(List.range h.objs.size).filter fun a=>(H a).isSome
noncomputable def oC (h:Heap)(H:Hp):Heap:=W.hideAll h (EA h H)
theorem ue (h:Heap)(H:Hp):(oC h H).objs.size=h.objs.size:=W.hideAll_size _ _
theorem vt {h:Heap}{H:Hp}{b:Addr}{o:Obj}(e:h.get? b=some o)(n:H b=none):(oC h H).get? b=some o:=
 W.hideAll_get _ e fun A=>by
  have q:(H b).isSome=true:=(List.mem_filter.mp A).2
  rw [n] at q; simp at q
theorem yu {h:Heap}{H:Hp}{b:Addr}{o:Obj}(e:(oC h H).get? b=some o):h.get? b=some o∧H b=none:=by
 have e':h.get? b=some o:=W.of_hideAll (EA h H) e
 refine ⟨e',?_⟩
 cases q:H b with
 | none=>rfl
 | some x=>
  have A:b∈EA h H:=List.mem_filter.mpr ⟨List.mem_range.mpr (Heap.lt_size e'),by simp [q]⟩
  have z:(oC h H).get? b=none:=W.hideAll_none (EA h H) A
  rw [z] at e; cases e
structure Mod (K:W.Frag)(mg:Str→Option Value)(base:Heap):Prop where
 kin:K.In base
 glob:base.Ns mainGlobals mg
 blt:∃ mb,base.Ns builtinsNs mb∧∀ x:Str,x≠ "__name__" →mb x=bootBuiltins x
 nolimit:base.NoLimit
structure Cx where
 prog:Program
 w:World
 K:W.Frag
 mg:Str→Option Value
 base:Heap
 A:Around
 N:List Str
 s₀:Shared
 H₀:Hp
 env:Env
 outer:List Env
 stack:List Env
 ex:List Addr
 fn:Str→Bool
 calm:Bool
 pn:List (Addr×Obj)
 xe:Value→Shared→Prop
noncomputable def eR (l:List Env):List Addr:=l.filterMap (·.frame)
noncomputable abbrev Cx.fs (X:Cx):List Addr:=eR X.outer
noncomputable def oe (sc:Scope)(x:Str):Prop:=sc.names.lookup x=some .local∨sc.names.lookup x=some .cell∨sc.names.lookup x=some .free
noncomputable def w_ (sc:Scope)(x:Str):Prop:=sc.names.lookup x=some .local∨sc.names.lookup x=some .cell
noncomputable def EF (env:Env)(h:Heap)(m:Str→Option Value)(x:Str)(u:Value):Prop:=
 (env.kindOf x=some .local∧m x=some u)∨((env.kindOf x=some .cell∨env.kindOf x=some .free)∧∃ c,env.cells.lookup x=some c∧h.IsCell c (some u))
structure Cx.Ok (X:Cx):Prop where
 mod:Mod X.K X.mg X.base
 kind:X.env.scope.kind= .function
 glob:X.env.globals=mainGlobals
 blt:X.env.builtins=builtinsNs
 above:X.s₀.heap.objs.size≤X.env.locals
 inj:∀ x y c,X.env.cells.lookup x=some c→X.env.cells.lookup y=some c→x=y
 has:∀ x,(X.env.kindOf x=some .cell∨X.env.kindOf x=some .free)→∃ c,X.env.cells.lookup x=some c
 cab:∀ x c,X.fn x=true→X.env.cells.lookup x=some c→X.s₀.heap.objs.size≤c
 hd:X.calm=true→X.A.handled=none
 frames:X.A.frames=some X.stack
 stk:X.stack=X.outer∨(X.stack=X.env :: X.outer∧X.env.frame=some X.env.locals)
 exf:∀ b∈X.ex,b≠X.env.locals∧∀ x c,X.env.cells.lookup x=some c→c≠b
 bs:∀ b o,X.base.get? b=some o→X.s₀.heap.get? b=some o∧X.H₀ b=none
 bsz:X.base.objs.size≤X.s₀.heap.objs.size
 noex:∀ b o,X.base.get? b=some o→b∉X.ex
 exfs:∀ b∈X.ex,b∉X.fs
 funs:X.s₀.heap.FunFrames X.base X.outer
 frf:∀ b∈X.fs,X.H₀ b=none
structure Inv (X:Cx)(pins:List (Addr×Obj))(σ:List (Option V))(H:Hp)(s:Shared):Prop where
 ok:X.Ok
 os:s.os=X.s₀.os
 bare:AllBare s.gens
 base:Un X.fs X.ex X.H₀ H X.s₀.heap s.heap
 loc:∃ m,s.heap.Ns X.env.locals m∧∀ (i:Nat) (x:Str) (v:V),X.N[i]?=some x→σ[i]?=some (some v)→oe X.env.scope x→∃ u,RelV v u∧EF X.env s.heap m x u
 cell:∀ x c,X.env.cells.lookup x=some c→∃ v,s.heap.IsCell c v
 free:H X.env.locals=none
 freeC:∀ x c,X.env.cells.lookup x=some c→H c=none
 pin:∀ p∈X.pn ++ pins,s.heap.get? p.1=some p.2∧H p.1=none∧p.1≠X.env.locals∧p.1∉X.fs∧∀ v,p.2.data≠ .cell v
 hok:HOk X.prog X.w H s.heap
 len:σ.length=X.N.length
section
variable{X:Cx}{pins:List (Addr×Obj)}{σ:List (Option V)}{H H':Hp}{s:Shared}{h':Heap}
theorem Cx.Ok.nofr (ok:X.Ok){b:Addr}{o:Obj}(e:X.base.get? b=some o):b∉X.fs:=fun u=>by
 have:=(ok.funs.mem u).1
 rw [e] at this; cases this
theorem Inv.bs (I:Inv X pins σ H s):∀ b o,X.base.get? b=some o→s.heap.get? b=some o∧H b=none:=fun b o e=>
 ⟨I.base.keep b o (I.ok.bs b o e).1 (I.ok.bs b o e).2 (I.ok.nofr e) (I.ok.noex b o e),I.base.free b o (I.ok.bs b o e).1 (I.ok.bs b o e).2 (I.ok.noex b o e)⟩
theorem Inv.bk (I:Inv X pins σ H s):∀ b o,X.base.get? b=some o→s.heap.get? b=some o:=fun b o e=>(I.bs b o e).1
theorem Inv.mod (I:Inv X pins σ H s):Mod X.K X.mg X.base:=I.ok.mod
theorem Inv.kIn (I:Inv X pins σ H s):X.K.In s.heap:=I.ok.mod.kin.keeps I.bk
theorem Inv.lt (I:Inv X pins σ H s):X.env.locals < s.heap.objs.size:=let ⟨_,hn,_⟩:=I.loc; hn.lt
theorem Inv.sz (I:Inv X pins σ H s):X.s₀.heap.objs.size≤s.heap.objs.size:=Nat.le_trans I.ok.above (Nat.le_of_lt I.lt)
theorem Inv.nofs (I:Inv X pins σ H s){a:Addr}(h:s.heap.objs.size≤a):a∉X.fs:=fun u=>by
 refine se (I.ok.funs.mem u) fun _ o D _=> ?_
 exact absurd (Nat.lt_of_lt_of_le (Heap.lt_size D) (Nat.le_trans I.sz h)) (Nat.lt_irrefl _)
theorem Inv.cne (I:Inv X pins σ H s):∀ x c,X.env.cells.lookup x=some c→c≠X.env.locals:=fun x c e z=>by
 refine cps fun PP G=> ?_
 refine kT (I.cell x c e) fun v o D J=> ?_
 obtain ⟨m,⟨K,l,k,E,F,_⟩,_⟩:=I.loc
 refine G ?_; clear G PP
 rw [z,E] at D; cases D; rw [F] at J; cases J
theorem Inv.funs (I:Inv X pins σ H s):s.heap.FunFrames X.base X.outer:=by
 have all:∀ (l:List Env),(∀ b∈eR l,b∈X.fs)→X.s₀.heap.FunFrames X.base l→s.heap.FunFrames X.base l:=by
  intro l
  induction l with
  | nil=>intro _ _; trivial
  | cons N r t=>
   intro M O
   refine cps fun PP G=> ?_
   obtain ⟨P,⟨L,o,K,v,D,R⟩,Q⟩:=O
   have J:L∈X.fs:=M L (by unfold eR; rw [List.filterMap_cons,K]; exact List.mem_cons_self)
   obtain ⟨S,e⟩:=I.base.slot L o D (I.ok.frf L J) J fun z=>I.ok.exfs L z J
   refine G ?_; clear G PP
   exact ⟨P,(kZ L _ K v e R),t (fun b u=>M b (by unfold eR; rw [List.filterMap_cons,K]; exact dt u)) Q⟩
 exact all X.outer (fun _ u=>u) I.ok.funs
theorem Inv.stack (I:Inv X pins σ H s):s.heap.FunFrames X.base X.stack:=by
 rcases I.ok.stk with e | ⟨e,K⟩
 ·rw [e]; exact I.funs
 ·rw [e]
  obtain ⟨m,v,_⟩:=I.loc
  refine .cons (by rw [I.ok.kind]; decide) K v ?_ I.funs
  exact Heap.get?_none_of_le (Nat.le_trans I.ok.bsz I.ok.above)
theorem Inv.stkSub (I:Inv X pins σ H s):∀ b∈eR X.stack,b∈X.env.locals :: X.fs:=fun b u=>by
 rcases I.ok.stk with e | ⟨e,K⟩
 ·rw [e] at u; exact dt u
 ·rw [e] at u
  unfold eR at u
  rw [List.filterMap_cons,K] at u
  exact u
theorem Inv.stkFree (I:Inv X pins σ H s):∀ b∈eR X.stack,H b=none:=fun b hb=>by
 rcases List.mem_cons.mp (I.stkSub b hb) with e | hb
 ·rw [e]; exact I.free
 ·refine se (I.ok.funs.mem hb) fun _ o D _=> ?_
  exact I.base.free b o D (I.ok.frf b hb) fun z=>I.ok.exfs b z hb
theorem Inv.step {g':Array GenState}{t':Nat}{d':Drawn}{ch:List Addr}(I:Inv X pins σ H s)
  (hch:∀ b∈ch,(b∈X.ex∨X.s₀.heap.objs.size≤b)∧b≠X.env.locals∧(∀ x c,X.env.cells.lookup x=some c→c≠b)∧∀ p∈X.pn ++ pins,p.1≠b)
  (keep:∀ b o,b≠X.env.locals→b∉X.fs→b∉ch→s.heap.get? b=some o→H b=none→h'.get? b=some o)
  (slot:∀ b o,b≠X.env.locals→b∈X.fs→b∉ch→s.heap.get? b=some o→H b=none→∃ sl,h'.get? b=some { o with slots:=sl }) (free:∀ b o,b∉ch→s.heap.get? b=some o→H b=none→H' b=none)
  (there:∀ b o,b∉ch→s.heap.get? b=some o→∃ o',h'.get? b=some o')
  (tups:∀ b xs,H b=some (.tup xs)→H' b=some (.tup xs)) (frzs:∀ b o u,H b=some (.frz o u)→H' b=some (.frz o u)) (tbls:∀ b ps,H b=some (.tbl ps)→∃ more,H' b=some (.tbl (ps ++ more)))
  (ns:∀ m,s.heap.Ns X.env.locals m→h'.Ns X.env.locals m) (hok:HOk X.prog X.w H' h') (hg:AllBare g') :
  Inv X pins σ H' { s with heap:=h',gens:=g',drawn:=d',toks:=t' }:=by
 have W:∀ b o,X.s₀.heap.get? b=some o→b≠X.env.locals:=fun b o e=>Nat.ne_of_lt (Nat.lt_of_lt_of_le (Heap.lt_size e) I.ok.above)
 have U:∀ b o,X.s₀.heap.get? b=some o→b∉X.ex→b∉ch:=fun b o e B y=>by
  rcases (hch b y).1 with z | z
  ·exact B z
  ·exact absurd (Nat.lt_of_lt_of_le (Heap.lt_size e) z) (Nat.lt_irrefl _)
 have S:∀ x c,X.env.cells.lookup x=some c→∀ v,s.heap.IsCell c v→h'.IsCell c v:=fun x c e v V=>by
  obtain ⟨o,D,J⟩:=V
  have R:c∉ch:=fun z=>(hch c z).2.2.1 x c e rfl
  by_cases f:c∈X.fs
  ·obtain ⟨sl,q⟩:=slot c o (I.cne x c e) f R D (I.freeC x c e)
   exact ⟨_,q,J⟩
  ·exact ⟨o,keep c o (I.cne x c e) f R D (I.freeC x c e),J⟩
 refine ⟨I.ok,I.os,hg,⟨fun b o e n y B=> ?_,fun b o e n y B=> ?_,fun b o e n B=> ?_,fun b o e B=> ?_,fun b xs e=>tups b xs (I.base.tups b xs e),fun b o xs e=>frzs b o xs (I.base.frzs b o xs e),fun b ps e=> ?_⟩,?_,fun x c e=> ?_,?_,fun x c e=> ?_,fun p a=> ?_,hok,I.len⟩
 ·exact keep b o (W b o e) y (U b o e B) (I.base.keep b o e n y B) (I.base.free b o e n B)
 ·obtain ⟨sl,T⟩:=I.base.slot b o e n y B
  obtain ⟨Y,t⟩:=slot b _ (W b o e) y (U b o e B) T (I.base.free b o e n B)
  exact ⟨Y,t⟩
 ·obtain ⟨o',T⟩:=I.base.there b o e B
  exact free b o' (U b o e B) T (I.base.free b o e n B)
 ·obtain ⟨o',T⟩:=I.base.there b o e B
  exact there b o' (U b o e B) T
 ·obtain ⟨h,T⟩:=I.base.tbls b ps e
  obtain ⟨g,t⟩:=tbls b _ T
  exact ⟨h ++ g,by rw [t,Array.append_assoc]⟩
 ·obtain ⟨m,A,N⟩:=I.loc
  refine ⟨m,ns m A,fun i x v T t j=> ?_⟩
  obtain ⟨u,r,l⟩:=N i x v T t j
  refine ⟨u,r,?_⟩
  rcases l with l | ⟨k,c,e,z⟩
  ·exact .inl l
  ·exact .inr (lS k c e (S x c e _ z))
 ·obtain ⟨v,z⟩:=I.cell x c e
  exact ⟨v,S x c e v z⟩
 ·obtain ⟨m,⟨o,_,_,D,_⟩,_⟩:=I.loc
  exact free _ o (fun z=>(hch _ z).2.1 rfl) D I.free
 ·refine kT (I.cell x c e) fun v o D J=> ?_
  exact free c o (fun z=>(hch c z).2.2.1 x c e rfl) D (I.freeC x c e)
 ·refine mX (I.pin p a) fun e n ne Z d=> ?_
  have R:p.1∉ch:=fun z=>(hch p.1 z).2.2.2 p a rfl
  exact (rh (keep p.1 p.2 ne Z R e n) (free p.1 p.2 R e n) ne Z d)
theorem Inv.un {t':Nat}(I:Inv X pins σ H s)(u:Un X.fs [] H H' s.heap h')(hok:HOk X.prog X.w H' h'):Inv X pins σ H' { s with heap:=h',toks:=t' }:=by
 refine cps fun PP G=> ?_
 obtain ⟨m,⟨o,l,k,D,r⟩,_⟩:=id I.loc
 obtain ⟨Q,J⟩:=u.any D I.free (by simp)
 refine G ?_; clear G PP
 exact I.step (g':=s.gens) (d':=s.drawn) (ch:=[]) (fun _ z=>nomatch z) (fun b o _ v _ e n=>u.keep b o e n v (by simp)) (fun b o _ v _ e n=>u.slot b o e n v (by simp)) (fun b o _ e n=>u.free b o e n (by simp)) (fun b o _ e=>u.there b o e (by simp)) u.tups u.frzs u.tbls (fun i A=>by
  refine wY (A) fun K f g E h=> ?_
  rw [D] at E; cases E
  exact (ug _ f g J h)) hok I.bare
theorem Inv.call {g':Array GenState}{t':Nat}{d':Drawn}{ch:List Addr}(I:Inv X pins σ H s)(u:Un (eR X.stack) ch H H' s.heap h')(hok:HOk X.prog X.w H' h')(hg:AllBare g')
  (hch:∀ b∈ch,(b∈X.ex∨X.s₀.heap.objs.size≤b)∧b≠X.env.locals∧(∀ x c,X.env.cells.lookup x=some c→c≠b)∧∀ p∈X.pn ++ pins,p.1≠b) :
  Inv X pins σ H' { s with heap:=h',gens:=g',drawn:=d',toks:=t' }:=by
 refine cps fun PP G=> ?_
 obtain ⟨m,⟨o,l,k,D,r⟩,_⟩:=id I.loc
 obtain ⟨Q,J⟩:=u.any D I.free fun z=>(hch _ z).2.1 rfl
 refine G ?_; clear G PP
 exact I.step (ch:=ch) hch (fun b o J v a e n=>u.keep b o e n (fun z=>(List.mem_cons.mp (I.stkSub b z)).elim J v) a) (fun b o _ _ a e n=>u.any e n a) (fun b o a e n=>u.free b o e n a) (fun b o a e=>u.there b o e a) u.tups u.frzs u.tbls (fun i A=>by
  refine wY (A) fun K f g E h=> ?_
  rw [D] at E; cases E
  exact (ug _ f g J h)) hok hg
theorem Inv.turned {t':Nat}{it:Addr}(I:Inv X pins σ H s)(k:∀ b o,b≠it→s.heap.get? b=some o→h'.get? b=some o)(hn:H it=none)(hL:it≠X.env.locals)
  (h1:it∈X.ex∨X.s₀.heap.objs.size≤it) (h2:∀ x c,X.env.cells.lookup x=some c→c≠it) (h3:∀ p∈X.pn ++ pins,p.1≠it):Inv X pins σ H { s with heap:=h',toks:=t' }:=by
 have i:∀ b u,H b=some u→b≠it:=fun b u e z=>by rw [z,hn] at e; cases e
 refine I.step (g':=s.gens) (d':=s.drawn) (ch:=[it]) (fun b w=> ?_) (fun b o _ _ a e _=>k b o (fun z=>a (by simp [z])) e) (fun b o _ _ a e _=>⟨o.slots,k b o (fun z=>a (by simp [z])) e⟩) (fun _ _ _ _ n=>n)
  (fun b o a e=>⟨o,k b o (fun z=>a (by simp [z])) e⟩) (fun _ _ e=>e) (fun _ _ _ e=>e) (fun b j e=>⟨#[],by rw [e]; simp⟩) (fun m A=> ?_) (fun b u e=> ?_) I.bare
 ·have e:b=it:=by simpa using w
  subst e
  exact (lT h1 hL h2 h3)
 ·refine wY (A) fun o t l D r=> ?_
  exact (ug o t l (k _ o (Ne.symm hL) D) r)
 ·refine (I.hok b u e).stay (fun c v a q=>k c v ?_ q) (fun _ q=>q) fun _ _ q=>q
  rcases a with z | z
  ·rw [z]; exact i b u e
  ·exact i c _ z
theorem Inv.tok (I:Inv X pins σ H s)(t:Nat):Inv X pins σ H { s with toks:=t }:=I.un (h':=s.heap) (t':=t) Un.refl I.hok
theorem Inv.kept {t':Nat}(I:Inv X pins σ H s)(k:∀ b u,s.heap.get? b=some u→h'.get? b=some u):Inv X pins σ H { s with heap:=h',toks:=t' }:=I.un (Un.kept k) (I.hok.kept k)
theorem Inv.laid {a:Addr}{o:HO}{t':Nat}(I:Inv X pins σ H s)(k:∀ b u,s.heap.get? b=some u→h'.get? b=some u)(hp:s.heap.objs.size≤a)(new:ObjOk X.prog X.w (bu H a o) h' a o) :
  Inv X pins σ (bu H a o) { s with heap:=h',toks:=t' }:=I.un (Un.laid k hp (I.hok.fresh hp)) (I.hok.laid k hp new)
theorem Inv.write {x e:Addr}{o:HO}{t':Nat}(I:Inv X pins σ H s)(mu:Er (H x))(he:e=x∨H e=some (.own x))(k:∀ b u,b≠e→s.heap.get? b=some u→h'.get? b=some u)(heo:∃ u,h'.get? e=some u)
  (new:ObjOk X.prog X.w (bu H x o) h' x o):Inv X pins σ (bu H x o) { s with heap:=h',toks:=t' }:=I.un (Un.write mu he k heo) (I.hok.write mu he k heo new)
theorem Inv.weak {σ':List (Option V)}(I:Inv X pins σ H s)(hl:σ'.length=σ.length)(w:∀ (i:Nat) v,σ'[i]?=some (some v)→σ[i]?=some (some v)):Inv X pins σ' H s:=
 ⟨I.ok,I.os,I.bare,I.base,let ⟨m,hn,hl'⟩:=I.loc; ⟨m,hn,fun i x v T t d=>hl' i x v T (w i v t) d⟩,I.cell,I.free,I.freeC,I.pin,I.hok,hl.trans I.len⟩
theorem Inv.pins_of {pins':List (Addr×Obj)}(I:Inv X pins σ H s)(h:∀ p∈pins',s.heap.get? p.1=some p.2∧H p.1=none∧p.1≠X.env.locals∧p.1∉X.fs∧∀ v,p.2.data≠ .cell v):Inv X pins' σ H s:=
 ⟨I.ok,I.os,I.bare,I.base,I.loc,I.cell,I.free,I.freeC,fun p Z=>(List.mem_append.mp Z).elim (fun z=>I.pin p (List.mem_append_left _ z)) (h p),I.hok,I.len⟩
theorem qh {N:List Str}(hN:N.Nodup){i j:Nat}{x:Str}(a:N[i]?=some x)(b:N[j]?=some x):i=j:=by
 obtain ⟨d,T⟩:=dZ a
 obtain ⟨c,t⟩:=dZ b
 exact (List.getElem_inj hN).mp (T.trans t.symm)
theorem nY {M:Model}{A:Around}{E:Value→Shared→Prop}{i:Nat}{x:Str}{v:V}{u:Value}{Q:Unit→Shared→Prop}(I:Inv X pins σ H s)(hN:X.N.Nodup)(hi:X.N[i]?=some x)(hx:w_ X.env.scope x)(r:RelV v u)
  (h:∀ s',Inv X pins (σ.set i (some v)) H s'→(∃ a,Heap.SameBut a s.heap s'.heap∧(a=X.env.locals∨X.env.cells.lookup x=some a))→Q () s') (hf:X.fn x=true∨X.env.scope.names.lookup x=some .local:=by first | exact .inl rfl | exact .inr rfl | assumption):wpAny M A (storeName X.env x u) Q E s:=by
 obtain ⟨m,hn,hl⟩:=id I.loc
 have O:(X.env.scope.kind == .class || (X.env.scope.kind == .module && X.env.locals != X.env.globals))=false:=by rw [I.ok.kind]; rfl
 have C:i < σ.length:=by rw [I.len]; exact (dZ hi).1
 have cne:=I.cne
 have l:∀ {a:Addr} {J:Heap},(∃ o,s.heap.get? a=some o∧H a=none)→Heap.SameBut a s.heap J→HOk X.prog X.w H J:=fun {a J} ha L b ob e=>by
  obtain ⟨_,_,t⟩:=ha
  refine (I.hok b ob e).stay (fun c U hc q=>(L.2 c ?_).trans q) (fun _ q=>q) fun _ _ q=>q
  rintro rfl
  rcases hc with rfl | hc
  ·rw [t] at e; cases e
  ·rw [t] at hc; cases hc
 rcases hx with hk | hk
 ·refine wpAny_storeName_local hk hn (fun J f L=> ?_) O
  refine wY (id hn) fun oL _ _ hoL _=> ?_
  refine h _ ⟨I.ok,I.os,I.bare,⟨fun b o e n D hx=> ?_,fun b o e n D hx=> ?_,I.base.free,fun b o e hx=> ?_,I.base.tups,I.base.frzs,I.base.tbls⟩,⟨_,f,fun j y v' T B e3=> ?_⟩,fun y c e=> ?_,I.free,I.freeC,fun p hp=> ?_,l ⟨oL,hoL,I.free⟩ L,by simpa using I.len⟩ ⟨_,L,.inl rfl⟩
  ·exact (L.2 b (Nat.ne_of_lt (Nat.lt_of_lt_of_le (Heap.lt_size e) I.ok.above))).trans (I.base.keep b o e n D hx)
  ·obtain ⟨Z,T⟩:=I.base.slot b o e n D hx
   exact ⟨Z,(L.2 b (Nat.ne_of_lt (Nat.lt_of_lt_of_le (Heap.lt_size e) I.ok.above))).trans T⟩
  ·obtain ⟨Y,T⟩:=I.base.there b o e hx
   exact ⟨Y,(L.2 b (Nat.ne_of_lt (Nat.lt_of_lt_of_le (Heap.lt_size e) I.ok.above))).trans T⟩
  ·by_cases G:j=i
   ·subst G
    rw [hi] at T; cases T
    rw [List.getElem?_set_self C] at B
    cases B
    exact ⟨u,r,.inl ⟨hk,by simp⟩⟩
   ·rw [List.getElem?_set_ne (Ne.symm G)] at B
    obtain ⟨u',r',q⟩:=hl j y v' T B e3
    refine ⟨u',r',?_⟩
    rcases q with ⟨k,e⟩ | ⟨k,c,e,z⟩
    ·refine .inl ⟨k,?_⟩
     have:y≠x:=fun e=>G (qh hN T (e ▸ hi))
     simp [this,e]
    ·exact .inr (lS k c e (z.sameBut L (cne y c e)))
  ·obtain ⟨U,z⟩:=I.cell y c e
   exact ⟨U,z.sameBut L (cne y c e)⟩
  ·refine mX (I.pin p hp) fun e n ne g d=> ?_
   exact (rh ((L.2 p.1 ne).trans e) n ne g d)
 ·have F:X.fn x=true:=by
   rcases hf with z | z
   ·exact z
   ·rw [z] at hk; cases hk
  obtain ⟨c,hc⟩:=I.ok.has x (.inl hk)
  obtain ⟨U,z⟩:=I.cell x c hc
  refine wpAny_storeName_cell I.ok.kind hk hc z (fun J P L=> ?_)
  obtain ⟨oc,K,S⟩:=id z
  refine h { s with heap:=J } ⟨I.ok,I.os,I.bare,⟨fun b o e n D hx=> ?_,fun b o e n D hx=> ?_,I.base.free,fun b o e hx=> ?_,I.base.tups,I.base.frzs,I.base.tbls⟩,⟨m,hn.sameBut L (Ne.symm (cne x c hc)),fun j y v' T B e3=> ?_⟩,fun y W e=> ?_,I.free,I.freeC,fun p hp=> ?_,l ⟨oc,K,I.freeC x c hc⟩ L,by simpa using I.len⟩ ⟨c,L,.inr hc⟩
  ·exact (L.2 b (Nat.ne_of_lt (Nat.lt_of_lt_of_le (Heap.lt_size e) (I.ok.cab x c F hc)))).trans (I.base.keep b o e n D hx)
  ·obtain ⟨Z,T⟩:=I.base.slot b o e n D hx
   exact ⟨Z,(L.2 b (Nat.ne_of_lt (Nat.lt_of_lt_of_le (Heap.lt_size e) (I.ok.cab x c F hc)))).trans T⟩
  ·obtain ⟨Y,T⟩:=I.base.there b o e hx
   exact ⟨Y,(L.2 b (Nat.ne_of_lt (Nat.lt_of_lt_of_le (Heap.lt_size e) (I.ok.cab x c F hc)))).trans T⟩
  ·by_cases G:j=i
   ·subst G
    rw [hi] at T; cases T
    rw [List.getElem?_set_self C] at B
    cases B
    exact ⟨u,r,.inr (lS (.inl hk) c hc P)⟩
   ·rw [List.getElem?_set_ne (Ne.symm G)] at B
    obtain ⟨u',r',q⟩:=hl j y v' T B e3
    refine ⟨u',r',?_⟩
    rcases q with q | ⟨k,W,e,z'⟩
    ·exact .inl q
    ·refine .inr (lS k W e (z'.sameBut L ?_))
     rintro rfl
     exact G (qh hN T (I.ok.inj _ _ _ e hc ▸ hi))
  ·by_cases R:W=c
   ·subst R; exact ⟨_,P⟩
   ·obtain ⟨w2,z2⟩:=I.cell y W e
    exact ⟨w2,z2.sameBut L R⟩
  ·refine mX (I.pin p hp) fun e n ne g d=> ?_
   refine (rh ((L.2 p.1 ?_).trans e) n ne g d)
   intro q
   rw [q,K] at e
   have q':oc=p.2:=Option.some.inj e
   exact d U (by rw [← q']; exact S)
theorem jU {M:Model}{A:Around}{E:Value→Shared→Prop}{i:Nat}{x:Str}{v:V}{u:Value}{Q:Unit→Shared→Prop}(I:Inv X pins σ H s)(hN:X.N.Nodup)(hi:X.N[i]?=some x)(hx:w_ X.env.scope x)(r:RelV v u)
  (h:∀ s',Inv X pins (σ.set i (some v)) H s'→Q () s') (hf:X.fn x=true∨X.env.scope.names.lookup x=some .local:=by first | exact .inl rfl | exact .inr rfl | assumption):wpAny M A (storeName X.env x u) Q E s:=
 nY I hN hi hx r (fun s' y _=>h s' y) hf
theorem Inv.call' {s':Shared}{ch:List Addr}(I:Inv X pins σ H s)(ho:s'.os=s.os)(u:Un (eR X.stack) ch H H' s.heap s'.heap)(hok:HOk X.prog X.w H' s'.heap)(hg:AllBare s'.gens)
  (hch:∀ b∈ch,(b∈X.ex∨X.s₀.heap.objs.size≤b)∧b≠X.env.locals∧(∀ x c,X.env.cells.lookup x=some c→c≠b)∧∀ p∈X.pn ++ pins,p.1≠b):Inv X pins σ H' s':=by
 obtain ⟨o,g',d',t',J⟩:=s'
 have e:J=s.os:=ho
 subst e
 exact I.call (g':=g') (t':=t') (d':=d') u hok hg hch
end
noncomputable abbrev XK:=Value→Option Addr→Hp→Prop
noncomputable abbrev St:=List (Option V)
noncomputable abbrev VK:=V→Hp→Prop
noncomputable abbrev TE:=St→Hp→VK→Prop
noncomputable abbrev TT:=St→Hp→(Bool→Hp→Prop)→Prop
noncomputable abbrev TA:=St→Hp→(List V→Hp→Prop)→Prop
structure Ends where
 nx:St→Hp→Prop
 rt:VK
 bk:St→Hp→Prop:=fun _ _=>False
 ct:St→Hp→Prop:=fun _ _=>False
noncomputable abbrev TS:=Ends→St→Hp→Prop
inductive EP (X:Cx)(pins:List (Addr×Obj))(σ:St)(Q:VK)(u:Value)(s':Shared):Prop
 | mk (v:V) (H':Hp) (i:Inv X pins σ H' s') (r:RelV v u) (q:Q v H')
inductive TP (X:Cx)(pins:List (Addr×Obj))(σ:St)(Q:Bool→Hp→Prop)(b:Bool)(s':Shared):Prop
 | mk (H':Hp) (i:Inv X pins σ H' s') (q:Q b H')
inductive AP (X:Cx)(pins:List (Addr×Obj))(σ:St)(Q:List V→Hp→Prop)(us:List Value)(s':Shared):Prop
 | mk (vs:List V) (H':Hp) (i:Inv X pins σ H' s') (r:Vals vs us) (q:Q vs H')
inductive SN (X:Cx)(pins:List (Addr×Obj))(P:St→Hp→Prop)(s':Shared):Prop
 | mk (σ':St) (H':Hp) (i:Inv X pins σ' H' s') (q:P σ' H')
inductive SRt (X:Cx)(pins:List (Addr×Obj))(P:VK)(u:Value)(s':Shared):Prop
 | mk (v:V) (σ':St) (H':Hp) (i:Inv X pins σ' H' s') (r:RelV v u) (q:P v H')
noncomputable def SP (X:Cx)(pins:List (Addr×Obj))(D:Ends)(f:Flow)(s':Shared):Prop:=
 match f with
 | .next=>SN X pins D.nx s'
 | .brk=>SN X pins D.bk s'
 | .cont=>SN X pins D.ct s'
 | .ret u=>SRt X pins D.rt u s'
noncomputable def PE (X:Cx)(e:Expr)(t:TE):Prop:=
 ∀ (pins:List (Addr×Obj)) (s:Shared) (σ:St) (H:Hp) (Q:VK),Inv X pins σ H s→t σ H Q→wpAny (model X.prog X.w) X.A (eval e X.env) (EP X pins σ Q) X.xe s
noncomputable def PA (X:Cx)(es:List Expr)(t:TA):Prop:=
 ∀ (pos:Pos) (pins:List (Addr×Obj)) (s:Shared) (σ:St) (H:Hp) (Q:List V→Hp→Prop),Inv X pins σ H s→t σ H Q→wpAny (model X.prog X.w) X.A (spliced (backTo pos (starEach es X.env))) (AP X pins σ Q) X.xe s
noncomputable def PS (X:Cx)(st:Stmt)(t:TS):Prop:=
 ∀ (pins:List (Addr×Obj)) (s:Shared) (σ:St) (H:Hp) (D:Ends),Inv X pins σ H s→t D σ H→wpAny (model X.prog X.w) X.A (exec st X.env) (SP X pins D) X.xe s
noncomputable def BZ (X:Cx)(st:List Stmt)(t:TS):Prop:=
 ∀ (pins:List (Addr×Obj)) (s:Shared) (σ:St) (H:Hp) (D:Ends),Inv X pins σ H s→t D σ H→wpAny (model X.prog X.w) X.A (execs st X.env) (SP X pins D) X.xe s
theorem aO {α:Type}{t:Sem α}{Q Q':α→Shared→Prop}{M:Model}{A:Around}{E:Value→Shared→Prop}{s:Shared}(h:wpAny M A t Q E s)(hQ:∀ a s,Q a s→Q' a s):wpAny M A t Q' E s:=wpAny_mono h hQ fun _ _ x=>x
section
variable{X:Cx}
noncomputable def Eg (i:Nat):TE:=fun σ H Q=>∃ v,σ[i]?=some (some v)∧Q v H
noncomputable def tC (v:V):TE:=fun _ H Q=>Q v H
theorem cx {i:Nat}{x:Str}{pos:Pos}(hN:X.N[i]?=some x)(hv:oe X.env.scope x)(hd:(x == ("__debug__" :Str))=false:=by decide)(hcd:(x == ("__classdict__" :Str))=false:=by decide):PE X (.Name x pos) (Eg i):=by
 intro A s B H Q I h
 refine cps fun PP G=> ?_
 obtain ⟨v,e,h⟩:=h
 obtain ⟨m,w,O⟩:=I.loc
 obtain ⟨u,r,l⟩:=O i x v hN e hv
 refine G ?_; clear G PP
 have z:EP X A B Q u s:=⟨v,H,I,r,h⟩
 rcases l with ⟨hk,C⟩ | ⟨hk,c,a,y⟩
 ·exact wpAny_Name (wpAny_loadName_local I.ok.kind hk w C z) hd
 ·rcases hk with hk | hk
  ·exact wpAny_Name (wpAny_loadName_cell I.ok.kind hk a y z) hd
  ·exact wpAny_Name (wpAny_loadName_free I.ok.kind hk a y z hcd) hd
theorem we {i j pos}:PE X (.Constant (.int i) j pos) (tC (.int i)):=fun _ _ _ H _ I h=>wpAny_Constant_int ⟨.int i,H,I.tok _,⟨_,rfl⟩,h⟩
theorem DR {b j pos}:PE X (.Constant (.bool b) j pos) (tC (.bl b)):=fun _ _ _ H _ I h=>Constant_bool ⟨.bl b,H,I,rfl,h⟩
theorem Bu {j pos}:PE X (.Constant .none j pos) (tC .non):=fun _ _ _ H _ I h=>Constant_none ⟨.non,H,I,rfl,h⟩
theorem Bw {x j pos}:PE X (.Constant (.str x) j pos) (tC (.str x)):=fun _ _ _ H _ I h=>Calls.Constant_str ⟨.str x,H,I.tok _,⟨_,rfl⟩,h⟩
noncomputable def Gl (X:Cx)(x:Str):Prop:=X.env.kindOf x=some .globalImplicit
theorem iO {E:Value→Shared→Prop}{pins:List (Addr×Obj)}{s:Shared}{σ:St}{H:Hp}{x:Str}{u:Value}{pos:Pos}{Q:Value→Shared→Prop}(I:Inv X pins σ H s)(hg:Gl X x)(hm:X.mg x=some u)(h:Q u s)
  (hd:(x == ("__debug__" :Str))=false:=by decide):wpAny (model X.prog X.w) X.A (eval (.Name x pos) X.env) Q E s:=
 Calls.Name_function_global I.ok.kind hg (Calls.loadGlobal_global (by rw [I.ok.glob]; exact I.mod.glob.keeps I.bk) hm h) hd
theorem io {E:Value→Shared→Prop}{pins:List (Addr×Obj)}{s:Shared}{σ:St}{H:Hp}{x:Str}{u:Value}{pos:Pos}{Q:Value→Shared→Prop}(I:Inv X pins σ H s)(hg:Gl X x)(hm:X.mg x=none)(hv:bootBuiltins x=some u)(h:Q u s)
  (hn:x≠ "__name__" :=by decide) (hd:(x == ("__debug__" :Str))=false:=by decide):wpAny (model X.prog X.w) X.A (eval (.Name x pos) X.env) Q E s:=by
 obtain ⟨C,a,b⟩:=I.mod.blt
 exact Calls.Name_function_global I.ok.kind hg (Calls.loadGlobal_builtin (by rw [I.ok.glob]; exact I.mod.glob.keeps I.bk) hm (by rw [I.ok.blt]; exact a.keeps I.bk) ((b x hn).trans hv) h) hd
theorem s9 {x:Str}{v:V}{u:Value}{pos:Pos}(hg:Gl X x)(hm:X.mg x=some u)(r:RelV v u)(hd:(x == ("__debug__" :Str))=false:=by decide):PE X (.Name x pos) (tC v):=
 fun _ _ _ H _ I h=>iO I hg hm ⟨v,H,I,r,h⟩ hd
theorem oQ {x:Str}{v:V}{u:Value}{pos:Pos}(hg:Gl X x)(hm:X.mg x=none)(hv:bootBuiltins x=some u)(r:RelV v u)(hn:x≠ "__name__" :=by decide)(hd:(x == ("__debug__" :Str))=false:=by decide):PE X (.Name x pos) (tC v):=
 fun _ _ _ H _ I h=>io I hg hm hv ⟨v,H,I,r,h⟩ hn hd
variable{a b:Expr}{ta tb:TE}{pos:Pos}
variable{tA tB':TT}{rest:List Expr}
end
noncomputable def fR (K:W.Frag)(H:Hp)(a:Addr)(xs:List V):Prop:=
 Rd H a (.lst xs)∨
  ∃ (o:Obj) (its:Array Value) (n:Nat),K.lookup a=some o∧o.cls= .type "list" ∧o.dict=none∧o.data= .seq its n∧its.size≤sizeLine∧Vals xs its.toList
noncomputable def lj (K:W.Frag)(H:Hp)(a:Addr)(xs:List V):Prop:=
 Rd H a (.tup xs)∨
  ∃ (o:Obj) (its:Array Value) (n:Nat),K.lookup a=some o∧o.cls= .type "tuple" ∧o.data= .seq its n∧its.size≤sizeLine∧Vals xs its.toList
noncomputable def EH:Value→Option V
 | .none=>some .non
 | .bool b=>some (.bl b)
 | .int i _=>some (.int i)
 | .str x _=>some (.str x)
 | .bytes b _=>some (.byt b)
 | .float b _=>some (.flt b)
 | .ref a=>some (.ref a)
 | .type n=>some (.ty n)
 | _=>none
theorem RelV.abs {x:V}{u:Value}(r:RelV x u):EH u=some x:=by
 cases x with
 | non=>cases r; rfl
 | bl _=>cases r; rfl
 | int _=>obtain ⟨t,rfl⟩:=r; rfl
 | str _=>obtain ⟨t,rfl⟩:=r; rfl
 | byt _=>obtain ⟨t,rfl⟩:=r; rfl
 | flt _=>obtain ⟨t,rfl⟩:=r; rfl
 | ref _=>cases r; rfl
 | ty _=>cases r; rfl
theorem RelV.inj {x y:V}{u:Value}(r:RelV x u)(q:RelV y u):x=y:=Option.some.inj (r.abs.symm.trans q.abs)
theorem Vals.inj:∀ {xs ys:List V} {us:List Value},Vals xs us→Vals ys us→xs=ys
 | _,_,_,.nil,.nil=>rfl
 | _,_,_,.cons r t,.cons r' t'=>by rw [r.inj r',Vals.inj t t']
section
variable{X:Cx}{pins:List (Addr×Obj)}{σ:St}{H:Hp}{s:Shared}{a:Addr}{xs ys:List V}
theorem Inv.list (I:Inv X pins σ H s)(h:fR X.K H a xs):∃ its:List Value,Vals xs its∧PlainL s.heap a its.toArray∧xs.length≤sizeLine:=by
 rcases h with h | ⟨o,its,n,O,b,J,L,D,r⟩
 ·refine uI (h.ok I.hok) fun z its n r e=> ?_
  exact (iZ its r (kZ _ n e rfl rfl rfl) z)
 ·refine (iZ its.toList r (kZ o n (I.kIn a o O) b J (by simpa using L)) ?_)
  have e:=r.length
  simp only [Array.length_toList] at e
  omega
theorem Inv.tuple (I:Inv X pins σ H s)(h:lj X.K H a xs):∃ its:List Value,Vals xs its∧IsTup s.heap a its.toArray∧xs.length≤sizeLine:=by
 rcases h with h | ⟨o,its,n,O,b,L,D,r⟩
 ·refine se (h.ok I.hok) fun z its r p=> ?_
  exact (iZ its r p z)
 ·refine (iZ its.toList r (Da o (I.kIn a o O) b n (by simpa using L)) ?_)
  have e:=r.length
  simp only [Array.length_toList] at e
  omega
theorem Inv.list_inj (I:Inv X pins σ H s)(h:fR X.K H a xs)(h':fR X.K H a ys):xs=ys:=by
 refine cps fun PP L=> ?_
 refine dr (I.list h) fun m r F _=> ?_; obtain ⟨o,n,e,_,_,d⟩:=F
 refine dr (I.list h') fun E g G _=> ?_; obtain ⟨N,O,J,_,_,M⟩:=G
 refine L ?_; clear L PP
 rw [e] at J; cases J
 rw [d] at M
 injection M with d1 _
 have:m=E:=by simpa using congrArg Array.toList d1
 subst this
 exact r.inj g
theorem Inv.tuple_inj (I:Inv X pins σ H s)(h:lj X.K H a xs)(h':lj X.K H a ys):xs=ys:=by
 refine cps fun PP G=> ?_
 refine dr (I.tuple h) fun m r M _=> ?_; obtain ⟨o,e,_,n,d⟩:=M
 refine dr (I.tuple h') fun E g L _=> ?_; obtain ⟨O,J,_,P,N⟩:=L
 refine G ?_; clear G PP
 rw [e] at J; cases J
 rw [d] at N
 injection N with d1 _
 have:m=E:=by simpa using congrArg Array.toList d1
 subst this
 exact r.inj g
end
section
variable{X:Cx}{pins:List (Addr×Obj)}{σ:St}{H:Hp}{s:Shared}{E:Value→Shared→Prop}
end
section
variable{X:Cx}{st:Stmt}{rest:List Stmt}{t u:TS}{e:Expr}{te:TE}{pos:Pos}
noncomputable def Fr (t u:TS):TS:=fun D σ H=>t { D with nx:=u D } σ H
theorem qt (h1:PS X st t)(h2:BZ X rest u):BZ X (st :: rest) (Fr t u):=by
 intro A s B H D I h
 refine wpAny_execs_cons (aO (h1 A s B H { D with nx:=u D } I h) fun f N q=> ?_)
 cases f with
 | next=>
  obtain ⟨M,O,x,q⟩:=q
  exact h2 A N M O D x q
 | ret v=>exact q
 | brk=>exact q
 | cont=>exact q
theorem tz (h1:PS X st t):BZ X [st] t:=by
 intro A s B H D I h
 refine wpAny_execs_cons (aO (h1 A s B H D I h) fun f N q=> ?_)
 cases f with
 | next=>exact wpAny_execs_nil q
 | ret v=>exact q
 | brk=>exact q
 | cont=>exact q
theorem Inv.quiet {pins:List (Addr×Obj)}{σ:St}{H:Hp}{s:Shared}(I:Inv X pins σ H s):interactive X.env=false:=by simp [interactive,I.ok.kind]
noncomputable def Ee (te:TE):TS:=fun D σ H=>te σ H fun _ H1=>D.nx σ H1
theorem dN (he:PE X e te)(hs:swapsWith e none pos.line X.env=pure false:=by rfl):PS X (.Expr e pos) (Ee te):=by
 intro A s B H D I h
 exact wpAny_Expr_any (aO (he A s B H _ I h) fun v N P=>(by obtain ⟨x,S,Q,T,R⟩:=P; exact ⟨B,S,Q,R⟩)) I.quiet hs
noncomputable def Fp (te:TE):TS:=fun D σ H=>te σ H D.rt
theorem mi (he:PE X e te):PS X (.Return (some e) pos) (Fp te):=by
 intro A s B H D I h
 exact wpAny_Return_some (aO (he A s B H _ I h) fun v N U=>(by obtain ⟨x,S,Q,T,R⟩:=U; exact ⟨x,B,S,Q,T,R⟩))
end
noncomputable abbrev TG:=V→St→Hp→(St→Hp→Prop)→Prop
noncomputable abbrev zO:=List V→St→Hp→(St→Hp→Prop)→Prop
noncomputable def PG (X:Cx)(target:Expr)(t:TG):Prop:=
 ∀ (pins:List (Addr×Obj)) (s:Shared) (σ:St) (H:Hp) (v:V) (u:Value) (Q:St→Hp→Prop),Inv X pins σ H s→RelV v u→t v σ H Q→
  wpAny (model X.prog X.w) X.A (assign target X.env u) (fun _ s'=>SN X pins Q s') X.xe s
noncomputable def Eu (X:Cx)(ts:List Expr)(t:zO):Prop:=
 ∀ (pins:List (Addr×Obj)) (s:Shared) (σ:St) (H:Hp) (vs:List V) (us:List Value) (Q:St→Hp→Prop),Inv X pins σ H s→Vals vs us→t vs σ H Q→
  wpAny (model X.prog X.w) X.A (assignInOrder ((assignEach ts X.env).map (·.2)) us) (fun _ s'=>SN X pins Q s') X.xe s
noncomputable abbrev zP:=V→V→V→Hp→(Hp→Prop)→Prop
noncomputable def Cf (X:Cx)(t:zP):Prop:=
 ∀ (pins:List (Addr×Obj)) (s:Shared) (σ:St) (H:Hp) (o i v:V) (ov iv u:Value) (Q:Hp→Prop),Inv X pins σ H s→RelV o ov→RelV i iv→RelV v u→t o i v H Q→
  wpAny (model X.prog X.w) X.A (setItem ov iv u) (fun _ s'=>∃ H',Inv X pins σ H' s'∧Q H') X.xe s
section
variable{X:Cx}{pos:Pos}
noncomputable def cc (i:Nat):TG:=fun v σ H Q=>Q (σ.set i (some v)) H
theorem fA {i:Nat}{x:Str}(hN:X.N.Nodup)(hi:X.N[i]?=some x)(hx:w_ X.env.scope x)(hf:X.fn x=true∨X.env.scope.names.lookup x=some .local:=by first | exact .inl rfl | exact .inr rfl | assumption):PG X (.Name x pos) (cc i):=by
 intro A s B H v u Q I r h
 exact wpAny_assign_Name (jU I hN hi hx r (fun V y=>⟨_,H,y,h⟩) hf)
noncomputable def ua:zO:=fun vs σ H Q=>vs=[]∧Q σ H
noncomputable def il (t:TG)(u:zO):zO:=fun vs σ H Q=>∃ v r,vs=v :: r∧t v σ H fun σ' H'=>u r σ' H' Q
theorem s_:Eu X [] ua:=by
 intro A s B H t W Q I r h
 obtain ⟨e,h⟩:=h
 subst e
 cases r
 exact assignInOrder_nil ⟨B,H,I,h⟩
theorem jP {e:Expr}{es:List Expr}{t:TG}{u:zO}(h1:PG X e t)(h2:Eu X es u)
  (hs:(assignEach (e :: es) X.env).map (·.2)=assign e X.env :: (assignEach es X.env).map (·.2):=by rfl):Eu X (e :: es) (il t u):=by
 intro A s B H w W Q I r h
 obtain ⟨v,b,T,h⟩:=h
 subst T
 cases r with
 | cons r a=>
  rw [hs]
  refine assignInOrder_cons (aO (h1 A s B H _ _ _ I r h) fun _ N Y=> ?_)
  obtain ⟨Z,S,R,U⟩:=Y
  exact h2 A N Z S _ _ Q R a U
noncomputable def ub (K:W.Frag)(n:Nat)(t:zO):TG:=fun v σ H Q=>∃ a xs,v= .ref a∧lj K H a xs∧xs.length=n∧t xs σ H Q
theorem wl {es:List Expr}{k:Nat}{t:zO}{n:Nat}(hc:X.calm=true)(h:Eu X es t)
  (hn:(assignEach es X.env).length=n:=by rfl) (hst:(assignEach es X.env).findIdx? (·.1)=none:=by rfl):PG X (.Tuple es k pos) (ub X.K n t):=by
 intro A s B H v u Q I r c
 obtain ⟨a,f,T,g,N,c⟩:=c
 subst T
 cases r
 obtain ⟨m,d,i,D⟩:=I.tuple g
 refine assign_Tuple_tuple (I.ok.hd hc) i (by simp [hn,← N,d.length]) hst fun p C=> ?_
 have R:Inv X A B H { s with heap:=p }:=I.kept (t':=s.toks) fun b o e=>C b o (Nat.ne_of_lt (Heap.lt_size e)) e
 exact h A _ B H f _ Q R (by simpa using d) c
noncomputable def EL (to ti:TE)(t:zP):TG:=fun v σ H Q=>to σ H fun o H1=>ti σ H1 fun i H2=>t o i v H2 fun H3=>Q σ H3
theorem wj {o i:Expr}{to ti:TE}{t:zP}(ho:PE X o to)(hi:PE X i ti)(hs:Cf X t)
  (ha:∀ v,assign (.Subscript o i pos) X.env v=(do
   let ov ← holding [v] (eval o X.env)
   let iv ← holding [v,ov] (eval i X.env)
   standAt pos
   holding [v,ov,iv] (setItem ov iv v)
   release [v,ov,iv] []):=by intro _; rfl):PG X (.Subscript o i pos) (EL to ti t):=by
 intro A s B H v u Q I r h
 rw [ha]
 refine wpAny_bind (wpAny_holding (aO (ho A s B H _ I h) fun ov N f=> ?_))
 obtain ⟨x,S,R,T,U⟩:=f
 refine wpAny_bind (wpAny_holding (aO (hi A N B S _ R U) fun iv w g=> ?_))
 obtain ⟨y,k,z,m,l⟩:=g
 refine wpAny_bind (wpAny_standAt (wpAny_bind (wpAny_holding (aO (hs A w B k x y v ov iv u _ z T m r l) fun _ C j=> ?_))))
 obtain ⟨q,p,n⟩:=j
 exact wpAny_release ⟨B,q,p,n⟩
noncomputable def qG (te:TE)(g:TG):TS:=fun D σ H=>te σ H fun x H1=>g x σ H1 D.nx
theorem wB {tg e:Expr}{te:TE}{g:TG}(he:PE X e te)(hg:PG X tg g)(hs:swapsWithSole [tg] e pos.line X.env=pure false:=by rfl)(hw:swappedStores [tg] e X.env=pure none:=by rfl)
  (h1:(assignEach [tg] X.env).map (·.2)=[assign tg X.env]:=by rfl):PS X (.Assign [tg] e pos) (qG te g):=by
 intro A s B H D I h
 refine wpAny_Assign_stores (aO (he A s B H _ I h) fun v N r=> ?_) hs hw
 obtain ⟨x,S,Q,T,R⟩:=r
 rw [h1]
 exact aO (hg A N B S x v _ Q T R) fun _ o q=>q
theorem wE {i:Nat}{x:Str}{e:Expr}{te:TE}{pos':Pos}(hN:X.N.Nodup)(hi:X.N[i]?=some x)(hx:w_ X.env.scope x)(he:PE X e te)(hs:swapsWith e (some (.Name x pos')) pos.line X.env=pure false:=by rfl)(hf:X.fn x=true∨X.env.scope.names.lookup x=some .local:=by first | exact .inl rfl | exact .inr rfl | assumption) :
  PS X (.Assign [.Name x pos'] e pos) (qG te (cc i)):=by
 intro A s B H D I h
 refine wpAny_Assign_Name (aO (he A s B H _ I h) fun v O t=> ?_) hs
 obtain ⟨y,S,Q,T,R⟩:=t
 exact jU Q hN hi hx T (fun o p=>⟨_,S,p,R⟩) hf
end
structure It where
 go:Nat→Hp→Prop
 yld:Nat→Hp→V→Hp→Prop
 stop:Nat→Hp→Prop
noncomputable def gX (X:Cx)(pins:List (Addr×Obj))(H:Hp)(b:Addr):Prop:=
 H b=none∧b≠X.env.locals∧b∉X.fs∧(b∈X.ex∨X.s₀.heap.objs.size≤b)∧(∀ x c,X.env.cells.lookup x=some c→c≠b)∧∀ p∈X.pn ++ pins,p.1≠b
theorem Inv.fpOk {X:Cx}{pins:List (Addr×Obj)}{σ:St}{H H':Hp}{s:Shared}{b:Addr}(I:Inv X pins σ H s)(hb:s.heap.objs.size≤b)(hn:H' b=none):gX X pins H' b:=by
 refine (AK hn (Nat.ne_of_gt (Nat.lt_of_lt_of_le I.lt hb)) (I.nofs hb) (.inr (Nat.le_trans I.sz hb)) (fun x c e z=> ?_) (fun p Z z=> ?_))
 ·obtain ⟨v,q⟩:=I.cell x c e
  exact absurd (Nat.lt_of_lt_of_le q.lt (by rw [z]; exact hb)) (Nat.lt_irrefl _)
 ·exact absurd (Nat.lt_of_lt_of_le (Heap.lt_size (I.pin p Z).1) (by rw [z]; exact hb)) (Nat.lt_irrefl _)
structure Turn (P:Program)(w:World)(K:W.Frag)(tg:Expr)(J:It)(fp:List Addr)(it:Addr)(tn:Nat→Heap→Prop):Prop where
 mem:it∈fp
 obj:∀ i h,tn i h→∀ b∈fp,∃ o,h.get? b=some o∧∀ v,o.data≠ .cell v
 keep:∀ i h h',tn i h→(∀ b∈fp,∀ o,h.get? b=some o→h'.get? b=some o)→tn i h'
 item:∀ (X:Cx),X.prog=P→X.w=w→X.K=K→X.calm=true→∀ (i:Nat) (pins:List (Addr×Obj)) (s:Shared) (σ:St) (H:Hp) (E:Value→Shared→Prop),Inv X pins σ H s→(∀ b∈fp,gX X pins H b)→tn i s.heap→J.go i H→
  wpAny (model P w) X.A (pyNext (.ref it)) (fun r s1=>∃ u,r=some u∧
   wpAny (model P w) X.A (letOwnedTupleGo tg (.ref it) u) (fun _ s2=>∃ x H',Inv X pins σ H' s2∧RelV x u∧J.yld i H x H'∧tn (i+1) s2.heap∧∀ b∈fp,H' b=none) E s1) E s
 done:∀ (X:Cx),X.prog=P→X.w=w→X.K=K→X.calm=true→∀ (i:Nat) (pins:List (Addr×Obj)) (s:Shared) (σ:St) (H:Hp) (E:Value→Shared→Prop),Inv X pins σ H s→(∀ b∈fp,gX X pins H b)→tn i s.heap→J.stop i H→
  wpAny (model P w) X.A (pyNext (.ref it)) (fun r s1=>r=none∧Inv X pins σ H s1) E s
 self:∀ (A:Around) (i:Nat) (s:Shared) (Q:Value→Shared→Prop) (E:Value→Shared→Prop),tn i s.heap→Q (.ref it) s→wpAny (model P w) A (pyIter (.ref it)) Q E s
noncomputable abbrev TI:=St→Hp→(It→Hp→Prop)→Prop
inductive PIE (X:Cx)(pins:List (Addr×Obj))(σ:St)(tg:Expr)(R:It→Hp→Prop)(itv:Value)(s2:Shared):Prop
 | mk (it:Addr) (fp:List Addr) (tn:Nat→Heap→Prop) (J:It) (H':Hp) (e:itv= .ref it) (i:Inv X pins σ H' s2) (T:Turn X.prog X.w X.K tg J fp it tn) (st:tn 0 s2.heap) (f:∀ b∈fp,gX X pins H' b) (q:R J H')
noncomputable def PI (X:Cx)(tg iter:Expr)(wi:TI):Prop:=
 ∀ (pins:List (Addr×Obj)) (s:Shared) (σ:St) (H:Hp) (R:It→Hp→Prop),Inv X pins σ H s→wi σ H R→
  wpAny (model X.prog X.w) X.A (eval iter X.env) (fun v s1=>wpAny (model X.prog X.w) X.A (pyIter v) (PIE X pins σ tg R) X.xe s1) X.xe s
theorem vr {M:Model}{A:Around}{E:Value→Shared→Prop}{s:Shared}{tg:Expr}{it:Addr}{u:Value}{o:Obj}{n:String}{vs:Array Value}{Q:Unit→Shared→Prop}(ho:s.heap.get? it=some o)(hc:o.cls= .type n)(hd:o.data= .fields vs)
    (hn:["enumerate","zip","dict_itemiterator","dict_reverseitemiterator","odict_iterator","itertools.zip_longest","itertools.pairwise"].contains n=false) (hQ:Q () s):wpAny M A (letOwnedTupleGo tg (.ref it) u) Q E s:=by
  unfold letOwnedTupleGo
  cases tg <;> first
    | exact wpAny_pure hQ
    | (cases u <;> first
        | exact wpAny_pure hQ
        | (refine wpAny_bind (wpAny_load ho ?_)
           rw [hc,hd]
           show wpAny M A (if (["enumerate","zip","dict_itemiterator","dict_reverseitemiterator","odict_iterator","itertools.zip_longest","itertools.pairwise"].contains n && vs[0]? == some (rawInt _))=true then _ else _) Q E s
           rw [if_neg (by intro h; rw [hn,Bool.false_and] at h; cases h)]
           exact wpAny_pure hQ))
noncomputable def zJ (K:W.Frag)(a:Addr):It:=
 ⟨fun i H=>∃ xs x,fR K H a xs∧xs[i]?=some x,fun i H x H'=>H'=H∧∀ xs,fR K H a xs→xs[i]?=some x,fun i H=>∃ xs,fR K H a xs∧xs.length≤i⟩
noncomputable def Ep (K:W.Frag)(a:Addr):It:=
 ⟨fun i H=>∃ xs x,lj K H a xs∧xs[i]?=some x,fun i H x H'=>H'=H∧∀ xs,lj K H a xs→xs[i]?=some x,fun i H=>∃ xs,lj K H a xs∧xs.length≤i⟩
noncomputable def Cb (lo:Int)(n:Nat):It:=⟨fun i _=>i < n,fun i H x H'=>H'=H∧x= .int (lo+i),fun i _=>n≤i⟩
theorem uF {P:Program}{w:World}{K:W.Frag}{tg:Expr}(a it:Addr):Turn P w K tg (zJ K a) [it] it (fun i h=>h.IsListIter it a i) where
 mem:=by simp
 obj:=fun i h q b y=>by
  have e:b=it:=by simpa using y
  subst e
  refine dr (q) fun o e c d=> ?_
  exact ⟨o,e,fun v z=>by rw [d] at z; cases z⟩
 keep:=fun i h r q k=>q.at fun o e=>k it (by simp) o e
 item:=by
  intro X N j B l i A s Q H E I L q F
  subst N j B
  refine cps fun PP G=> ?_
  refine kT (F) fun n x f O=> ?_
  refine dr (I.list f) fun m g p T=> ?_
  obtain ⟨u,Y,U⟩:=g.get O
  refine qK (L it (by simp)) fun D M f2 f3 J C=> ?_
  refine G ?_; clear G PP
  refine wpAny_pyNext_list_item q p.isList (x:=u) (by simpa using Y) fun r t Z=> ?_
  have V:Inv X A Q H { s with heap:=r }:=I.turned (t':=s.toks) (fun b o y e=>(Z.2 b y).trans e) D M f3 J C
  refine dr (id t) fun o e c d=> ?_
  exact ⟨u,rfl,vr (s:={ s with heap:=r }) e c d (by decide) (vy x H V U ⟨rfl,fun ys R=>by rw [I.list_inj R f]; exact O⟩ t (fun b y=>(L b y).1))⟩
 done:=by
  intro X N j B l i A s Q H E I L q F
  subst N j B
  refine cps fun PP G=> ?_
  obtain ⟨n,f,O⟩:=F
  refine dr (I.list f) fun m g p T=> ?_
  refine qK (L it (by simp)) fun D M f2 f3 J C=> ?_
  refine G ?_; clear G PP
  have hl:=g.length
  exact wpAny_pyNext_list_end (I.ok.hd l) q p.isList (by simp; omega) fun r S=>⟨rfl,I.turned (t':=s.toks) (fun b o y e=>S b o y e) D M f3 J C⟩
 self:=fun _ _ _ _ _ q h=>wpAny_pyIter_listiter q h
theorem sd {P:Program}{w:World}{K:W.Frag}{tg:Expr}(a it:Addr):Turn P w K tg (Ep K a) [it] it (fun i h=>h.IsTupleIter it a i) where
 mem:=by simp
 obj:=fun i h q b y=>by
  have e:b=it:=by simpa using y
  subst e
  refine dr (q) fun o e c d=> ?_
  exact ⟨o,e,fun v z=>by rw [d] at z; cases z⟩
 keep:=fun i h r q k=>q.at fun o e=>k it (by simp) o e
 item:=by
  intro X N j B l i A s Q H E I L q F
  subst N j B
  refine cps fun PP G=> ?_
  refine kT (F) fun n x f O=> ?_
  refine dr (I.tuple f) fun m g p T=> ?_
  obtain ⟨u,Y,U⟩:=g.get O
  refine qK (L it (by simp)) fun D M f2 f3 J C=> ?_
  refine G ?_; clear G PP
  refine wpAny_pyNext_tuple_item q (show s.heap.IsTuple a m.toArray from p) (x:=u) (by simpa using Y) fun r t Z=> ?_
  have V:Inv X A Q H { s with heap:=r }:=I.turned (t':=s.toks) (fun b o y e=>(Z.2 b y).trans e) D M f3 J C
  refine dr (id t) fun o e c d=> ?_
  exact ⟨u,rfl,vr (s:={ s with heap:=r }) e c d (by decide) (vy x H V U ⟨rfl,fun ys R=>by rw [I.tuple_inj R f]; exact O⟩ t (fun b y=>(L b y).1))⟩
 done:=by
  intro X N j B l i A s Q H E I L q F
  subst N j B
  refine cps fun PP G=> ?_
  obtain ⟨n,f,O⟩:=F
  refine dr (I.tuple f) fun m g p T=> ?_
  refine qK (L it (by simp)) fun D M f2 f3 J C=> ?_
  refine G ?_; clear G PP
  have hl:=g.length
  exact wpAny_pyNext_tuple_end (I.ok.hd l) q (show s.heap.IsTuple a m.toArray from p) (by simp; omega) fun r S=>⟨rfl,I.turned (t':=s.toks) (fun b o y e=>S b o y e) D M f3 J C⟩
 self:=fun _ _ _ _ _ q h=>wpAny_pyIter_tupleiter q h
theorem r_ {P:Program}{w:World}{K:W.Frag}{tg:Expr}(it:Addr)(lo:Int)(n:Nat):Turn P w K tg (Cb lo n) [it] it (fun i h=>IsRangeIter h it (lo+(i:Nat) * 1) ((n:Int) - (i:Nat)) 1) where
 mem:=by simp
 obj:=fun i h q b u=>by
  have e:b=it:=by simpa using u
  subst e
  exact ⟨_,q,fun v z=>by
   have z':Data.fields _=Data.cell v:=z
   cases z'⟩
 keep:=fun i h p q k=>k it (by simp) _ q
 item:=by
  intro X J c y a i A s N H E I L q D
  subst J c y
  refine qK (L it (by simp)) fun C G f2 f3 F B=> ?_
  have W:=Walks.range (prog:=X.prog) (w:=X.w) (I.ok.hd a) it lo 1 n
  refine W.item i s _ _ D q fun v p M S x Q=> ?_
  obtain ⟨t,rfl⟩:=S
  have R:Inv X A N H { s with heap:=p,toks:=M }:=I.turned (fun b o u e=>Q b o (by simpa using u) e) C G f3 F B
  refine ⟨_,rfl,vr (s:={ s with heap:=p,toks:=M }) (n:= "range_iterator") x rfl rfl (by decide) (vy (.int (lo+i)) H R ⟨t,?_⟩ ⟨rfl,rfl⟩ x (fun b u=>(L b u).1))⟩
  rw [Int.mul_one]
 done:=by
  intro X J c y a i A s N H E I L q D
  subst J c y
  refine qK (L it (by simp)) fun C G f2 f3 F B=> ?_
  exact wpAny_pyNext_range_end (I.ok.hd a) q (by have:n≤i:=D; omega) fun p O=>⟨rfl,I.turned (t':=s.toks) (fun b o u e=>O b o u e) C G f3 F B⟩
 self:=fun _ _ _ _ _ q h=>wpAny_pyIter_rangeiter q h
section
variable{X:Cx}{tg:Expr}
noncomputable def Cw (K:W.Frag)(tl:TE):TI:=fun σ H R=>tl σ H fun x H1=>∃ a,x= .ref a∧(∃ xs,fR K H1 a xs)∧R (zJ K a) H1
noncomputable def EN (K:W.Frag)(tl:TE):TI:=fun σ H R=>tl σ H fun x H1=>∃ a,x= .ref a∧(∃ xs,lj K H1 a xs)∧R (Ep K a) H1
theorem tf {l:Expr}{tl:TE}(hl:PE X l tl):PI X tg l (Cw X.K tl):=by
 intro A s B H R I h
 refine aO (hl A s B H _ I h) fun v N J=> ?_
 refine cps fun PP G=> ?_
 obtain ⟨x,S,Q,T,U⟩:=J
 refine dr (U) fun a e L q=> ?_; obtain ⟨f,d⟩:=L
 refine G ?_; clear G PP
 subst e
 cases T
 refine dr (Q.list d) fun m c p D=> ?_
 refine wpAny_pyIter_list p.isList ?_
 refine ⟨N.heap.objs.size,[N.heap.objs.size],_,_,S,rfl,Q.kept (t':=N.toks) fun b o e=>Heap.get?_push_of_some _ e,uF a _,⟨_,Heap.get?_push_size _ rfl,rfl,rfl⟩,fun b u=> ?_,q⟩
 have e:b=N.heap.objs.size:=by simpa using u
 subst e
 exact Q.fpOk (Nat.le_refl _) (Q.hok.fresh (Nat.le_refl _))
theorem Bx {l:Expr}{tl:TE}(hl:PE X l tl):PI X tg l (EN X.K tl):=by
 intro A s B H R I h
 refine aO (hl A s B H _ I h) fun v N L=> ?_
 refine cps fun PP G=> ?_
 obtain ⟨x,S,Q,T,U⟩:=L
 refine dr (U) fun a e M q=> ?_; obtain ⟨f,d⟩:=M
 refine G ?_; clear G PP
 subst e
 cases T
 refine dr (Q.tuple d) fun m c p D=> ?_
 refine wpAny_pyIter_tuple (show N.heap.IsTuple a m.toArray from p) ?_
 refine ⟨N.heap.objs.size,[N.heap.objs.size],_,_,S,rfl,Q.kept (t':=N.toks) fun b o e=>Heap.get?_push_of_some _ e,sd a _,⟨_,Heap.get?_push_size _ rfl,rfl,rfl⟩,fun b u=> ?_,q⟩
 have e:b=N.heap.objs.size:=by simpa using u
 subst e
 exact Q.fpOk (Nat.le_refl _) (Q.hok.fresh (Nat.le_refl _))
theorem qv {pins:List (Addr×Obj)}{σ:St}{H:Hp}{s:Shared}{R:It→Hp→Prop}{E:Value→Shared→Prop}{lo hi:Int}{t u v:Tok}{tk:Nat}(I:Inv X pins σ H s)(h1: -(2 ^ 62)≤lo)(h2:lo < 2 ^ 62)(h3: -(2 ^ 62)≤hi)(h4:hi < 2 ^ 62)
  (q:R (Cb lo (hi - lo).toNat) H):wpAny (model X.prog X.w) X.A (pyIter (.ref s.heap.objs.size)) (PIE X pins σ tg R) E { s with heap:=s.heap.push { cls:= .type "range",data:= .fields #[.int lo t,.int hi u,.int 1 v] },toks:=tk }:=by
 refine wpAny_pyIter_range (IsRange.new ..) (small_one h1 h2 h3 h4) ?_
 have Q:Inv X pins σ H { s with heap:=s.heap.push { cls:= .type "range",data:= .fields #[.int lo t,.int hi u,.int 1 v] },toks:=tk }:=I.kept fun b o e=>Heap.get?_push_of_some _ e
 refine ⟨(s.heap.push { cls:= .type "range",data:= .fields #[.int lo t,.int hi u,.int 1 v] }).objs.size,[(s.heap.push { cls:= .type "range",data:= .fields #[.int lo t,.int hi u,.int 1 v] }).objs.size],_,_,H,rfl,
  Q.kept (t':=tk) fun b o e=>Heap.get?_push_of_some _ e,r_ _ lo (hi - lo).toNat,?_,fun b y=> ?_,q⟩
 ·have T:lo+((0:Nat):Int) * 1=lo:=by simp
  have x:(((hi - lo).toNat:Nat):Int) - ((0:Nat):Int)=Builtin.Range.rangeSize lo hi 1:=by rw [rangeSize_one]; split <;> omega
  show IsRangeIter _ _ (lo+((0:Nat):Int) * 1) ((((hi - lo).toNat:Nat):Int) - ((0:Nat):Int)) 1
  rw [T,x]
  exact Heap.get?_push_size _ rfl
 ·have e:b=(s.heap.push { cls:= .type "range",data:= .fields #[.int lo t,.int hi u,.int 1 v] }).objs.size:=by simpa using y
  subst e
  exact Q.fpOk (Nat.le_refl _) (Q.hok.fresh (Nat.le_refl _))
noncomputable def Cy (ta:TA):TI:=fun σ H R=>ta σ H fun vs H1=>∃ j:Int,vs=[.int j]∧ -(2 ^ 62)≤j∧j < 2 ^ 62∧R (Cb 0 j.toNat) H1
noncomputable def Cz (ta:TA):TI:=fun σ H R=>ta σ H fun vs H1=>∃ i j:Int,vs=[.int i,.int j]∧(-(2 ^ 62)≤i∧i < 2 ^ 62∧ -(2 ^ 62)≤j∧j < 2 ^ 62)∧R (Cb i (j - i).toNat) H1
theorem nQ {a:Expr}{ta:TA}{p pos:Pos}(hg:Gl X "range")(hm:X.mg "range" =none)(ha:PA X [a] ta)(hs:starEach [a] X.env=[(false,eval a X.env)]:=by rfl):PI X tg (.Call (.Name "range" p) [a] [] pos) (Cy ta):=by
 intro A s B H R I h
 refine Call_ (io I hg hm boot_range (PyProof.Rows.callWith_type1 (aO (ha pos A s B H _ I h) fun W N M=> ?_) hs rfl))
 refine cps fun PP G=> ?_
 obtain ⟨u,U,Q,T,S⟩:=M
 obtain ⟨j,e,S,k,q⟩:=S
 refine G ?_; clear G PP
 subst e
 cases T with
 | cons r Z=>
  cases Z
  obtain ⟨t,rfl⟩:=r
  exact call_range_1 (qv Q (by omega) (by omega) S k (by simpa using q))
theorem uq {a b:Expr}{ta:TA}{p pos:Pos}(hg:Gl X "range")(hm:X.mg "range" =none)(ha:PA X [a,b] ta)(hs:starEach [a,b] X.env=[(false,eval a X.env),(false,eval b X.env)]:=by rfl)(hs2:starEach [b] X.env=[(false,eval b X.env)]:=by rfl) :
  PI X tg (.Call (.Name "range" p) [a,b] [] pos) (Cz ta):=by
 intro A s B H R I h
 refine Call_ (io I hg hm boot_range (PyProof.Rows.callWith_type1 (aO (ha pos A s B H _ I h) fun W U N=> ?_) (by rw [hs,hs2]) (by rw [hs2]; rfl)))
 refine cps fun PP G=> ?_
 obtain ⟨u,V,Q,T,S⟩:=N
 obtain ⟨i,j,e,⟨S,k,l,O⟩,q⟩:=S
 refine G ?_; clear G PP
 subst e
 cases T with
 | cons r Z=>
  cases Z with
  | cons g Z=>
   cases Z
   obtain ⟨t,rfl⟩:=r
   obtain ⟨P,rfl⟩:=g
   exact call_range_2 (qv Q S k l O q)
noncomputable def Fm (wi:TI)(g:TG)(tb:TS):TS:=fun D σ H=>wi σ H fun J H1=>∃ W:Nat→Nat→St→Hp→Prop,(∃ m,W 0 m σ H1)∧∀ i m σ H,W i m σ H→
 (J.stop i H∧D.nx σ H)∨(J.go i H∧∃ N:St→Hp→Prop,(∀ σ' H',N σ' H'→∃ m',m' < m∧W (i+1) m' σ' H')∧∀ x H',J.yld i H x H'→g x σ H' fun σ2 H2=>tb { D with nx:=N,ct:=N,bk:=D.nx } σ2 H2)
noncomputable def ko (fp:List Addr)(h:Heap):List (Addr×Obj):=fp.filterMap fun b=>(h.get? b).map fun o=>(b,o)
theorem dw {fp:List Addr}{h:Heap}{b:Addr}{o:Obj}(hb:b∈fp)(e:h.get? b=some o):(b,o)∈ko fp h:=List.mem_filterMap.mpr ⟨b,hb,by rw [e]; rfl⟩
theorem uo {fp:List Addr}{h:Heap}{p:Addr×Obj}(hp:p∈ko fp h):p.1∈fp∧h.get? p.1=some p.2:=by
 obtain ⟨b,u,e⟩:=List.mem_filterMap.mp hp
 cases q:h.get? b with
 | none=>rw [q] at e; cases e
 | some o=>
  rw [q] at e
  have e':(b,o)=p:=Option.some.inj e
  subst e'
  exact ⟨u,q⟩
theorem Inv.pinned {pins:List (Addr×Obj)}{σ:St}{H:Hp}{s:Shared}{fp:List Addr}(I:Inv X pins σ H s)(hf:∀ b∈fp,gX X pins H b)(ho:∀ b∈fp,∃ o,s.heap.get? b=some o∧∀ v,o.data≠ .cell v):Inv X (pins ++ ko fp s.heap) σ H s:=
 I.pins_of fun p Z=>(List.mem_append.mp Z).elim (fun z=>I.pin p (List.mem_append_right _ z)) fun z=>by
  refine cps fun PP G=> ?_
  obtain ⟨u,e⟩:=uo z
  refine lf (hf p.1 u) fun w A f2 _=> ?_
  obtain ⟨o,J,d⟩:=ho p.1 u
  refine G ?_; clear G PP
  rw [e] at J; cases J
  exact (rh e w A f2 d)
theorem Inv.unpinned {pins pl:List (Addr×Obj)}{σ:St}{H:Hp}{s:Shared}(I:Inv X (pins ++ pl) σ H s):Inv X pins σ H s:=I.pins_of fun p Z=>I.pin p (List.mem_append_right _ (List.mem_append_left _ Z))
theorem BE {iter:Expr}{body:List Stmt}{wi:TI}{g:TG}{tb:TS}{pos:Pos}(hp:PassesOwn (model X.prog X.w) X.A X.env X.xe)(hc:X.calm=true)(hi:PI X tg iter wi)(hg:PG X tg g)(hb:BZ X body tb)
  (hs:∀ x,foldedSetIterable iter X.env x=pure x:=by intro _; rfl):PS X (.For tg iter body [] pos) (Fm wi g tb):=by
 intro B s σ H D I h
 refine wpAny_For (aO (hi B s σ H _ I h) fun v s1 h1=>aO h1 fun itv s2 h2=> ?_) hs
 obtain ⟨it,p,tn,J,H2,e,I2,T,F,f2,W,⟨m0,w0⟩,t⟩:=h2
 subst e
 -- what stays true of the iterator's objects through the loop
 have U:∀ {H':Hp},(∀ b∈p,H' b=none)→∀ b∈p,gX X B H' b:=fun hn b hb=>⟨hn b hb,(f2 b hb).2⟩
 refine codeAny_forLoop_any (fun n s'=>∃ i σ' H',Inv X B σ' H' s'∧tn i s'.heap∧(∀ b∈p,H' b=none)∧W i n σ' H') ?_ m0 ⟨0,σ,H2,I2,F,fun b hb=>(f2 b hb).1,w0⟩
 intro n s3 M
 obtain ⟨i,Y,E,I3,j,C,w3⟩:=M
 rcases t i n Y E w3 with ⟨z,qn⟩ | ⟨go,N,hN,step⟩
 ·refine wpAny_passesOwn hp (aO (T.done X rfl rfl rfl hc i B s3 Y E X.xe I3 (U C) j z) fun r s4 q=> ?_)
  obtain ⟨P,I4⟩:=q
  subst P
  exact wpAny_execs_nil ⟨Y,E,I4,qn⟩
 ·refine wpAny_passesOwn hp (aO (T.item X rfl rfl rfl hc i B s3 Y E X.xe I3 (U C) j go) fun r s4 k=> ?_)
  obtain ⟨u,P,h4⟩:=k
  subst P
  refine wpAny_passesOwn hp (aO h4 fun _ O c=> ?_)
  obtain ⟨x,H5,I5,r5,y5,a,K⟩:=c
  have I5':=I5.pinned (U K) (T.obj _ _ a)
  refine wpAny_passesOwn hp (aO (hg _ O Y H5 x u _ I5' r5 (step x H5 y5)) fun _ s6 l=> ?_)
  obtain ⟨L,H6,I6,q6⟩:=l
  refine wpAny_passesOwn hp (aO (hb _ s6 L H6 _ I6 q6) fun f G Z=> ?_)
  have V:∀ {Q:St} {R:Hp},Inv X (B ++ ko p O.heap) Q R G→N Q R→∃ m,m < n∧∃ i σ' H',Inv X B σ' H' G∧tn i G.heap∧(∀ b∈p,H' b=none)∧W i m σ' H':=fun {Q R} S y=>by
   obtain ⟨m',hm,w7⟩:=hN Q R y
   refine ⟨m',hm,i+1,Q,R,S.unpinned,T.keep _ _ _ a fun b hb o e=>(S.pin (b,o) (List.mem_append_right _ (List.mem_append_right _ (dw hb e)))).1,fun b hb=> ?_,w7⟩
   obtain ⟨o,e,d⟩:=T.obj _ _ a b hb
   exact (S.pin (b,o) (List.mem_append_right _ (List.mem_append_right _ (dw hb e)))).2.1
  cases f with
  | next=>obtain ⟨Q,R,S,y⟩:=Z; exact V S y
  | cont=>obtain ⟨Q,R,S,y⟩:=Z; exact V S y
  | brk=>obtain ⟨Q,R,S,Z⟩:=Z; exact ⟨Q,R,S.unpinned,Z⟩
  | ret v=>obtain ⟨x7,Q,R,S,r7,Z⟩:=Z; exact ⟨x7,Q,R,S.unpinned,r7,Z⟩
end
theorem vm {K:W.Frag}{a:Addr}{xs:List V}{g:TG}{tb:TS}{D:Ends}{σ:St}{H:Hp}(Pv:Nat→St→Hp→Prop)(h0:Pv 0 σ H)(hl:∀ i σ H,i≤xs.length→Pv i σ H→fR K H a xs)
  (hs:∀ i x σ H,xs[i]?=some x→Pv i σ H→g x σ H fun σ2 H2=>tb { D with nx:=Pv (i+1),ct:=Pv (i+1),bk:=D.nx } σ2 H2) (hd:∀ σ H,Pv xs.length σ H→D.nx σ H) :
  ∃ W:Nat→Nat→St→Hp→Prop,(∃ m,W 0 m σ H)∧∀ i m σ H,W i m σ H→
   ((zJ K a).stop i H∧D.nx σ H)∨((zJ K a).go i H∧∃ N:St→Hp→Prop,(∀ σ' H',N σ' H'→∃ m',m' < m∧W (i+1) m' σ' H')∧∀ x H',(zJ K a).yld i H x H'→g x σ H' fun σ2 H2=>tb { D with nx:=N,ct:=N,bk:=D.nx } σ2 H2):=by
 refine ⟨fun i m σ H=>m=xs.length - i∧i≤xs.length∧Pv i σ H,(iZ xs.length (by simp) (Nat.zero_le _) h0),?_⟩
 intro i m σ H r
 obtain ⟨rfl,h,p⟩:=r
 have q:=hl i σ H h p
 by_cases o:i < xs.length
 ·refine .inr (lS (kY xs (xs[i]) q (by simp [o])) (Pv (i+1)) (fun σ' H' s=>(AL (xs.length - (i+1)) (by omega) rfl o s)) (fun x H' y=> ?_))
  obtain ⟨e,y⟩:=y
  subst e
  exact hs i x σ _ (y xs q) p
 ·have e:i=xs.length:=by omega
  subst e
  exact .inl ⟨⟨xs,q,Nat.le_refl _⟩,hd σ H p⟩
noncomputable abbrev R2:=V→V→Hp→VK→Prop
noncomputable def pz (X:Cx)(f:Value→Value→Sem Value)(r:R2):Prop:=
 ∀ (pins:List (Addr×Obj)) (s:Shared) (σ:St) (H:Hp) (x y:V) (v u:Value) (Q:VK),Inv X pins σ H s→RelV x v→RelV y u→r x y H Q→
  wpAny (model X.prog X.w) X.A (f v u) (EP X pins σ Q) X.xe s
noncomputable def FN (X:Cx)(f:Value→Sem Value)(r:V→Hp→VK→Prop):Prop:=
 ∀ (pins:List (Addr×Obj)) (s:Shared) (σ:St) (H:Hp) (x:V) (v:Value) (Q:VK),Inv X pins σ H s→RelV x v→r x H Q→
  wpAny (model X.prog X.w) X.A (f v) (EP X pins σ Q) X.xe s
noncomputable def d8 (X:Cx)(f:Value)(r:List V→Hp→VK→Prop):Prop:=
 ∀ (pins:List (Addr×Obj)) (s:Shared) (σ:St) (H:Hp) (xs:List V) (us:List Value) (Q:VK),Inv X pins σ H s→Vals xs us→r xs H Q→
  wpAny (model X.prog X.w) X.A (call f us) (EP X pins σ Q) X.xe s
noncomputable def FS (r:R2)(ta tb:TE):TE:=fun σ H Q=>ta σ H fun x H1=>tb σ H1 fun y H2=>r x y H2 Q
noncomputable def rI (C:Int→Int→Prop)(g:Int→Int→V):R2:=fun x y H Q=>∃ i j,x= .int i∧y= .int j∧C i j∧Q (g i j) H
noncomputable def zE (g:Int→Int→V):R2:=fun x y H Q=>∃ i j,x= .int i∧y= .int j∧Q (g i j) H
noncomputable def rU (g:Int→V):V→Hp→VK→Prop:=fun x H Q=>∃ i,x= .int i∧Q (g i) H
section
variable{X:Cx}{a b c:Expr}{ta tb tc:TE}{pos:Pos}
theorem EJ (ha:PE X a ta)(hb:PE X b tb){pins:List (Addr×Obj)}{s:Shared}{σ:St}{H:Hp}{R:V→V→Hp→Prop}(I:Inv X pins σ H s)
  (h:ta σ H fun x H1=>tb σ H1 fun y H2=>R x y H2) {Q:Value→Shared→Prop} {f:Value→Value→Sem Value}
  (hf:∀ v u s2 x y H2,Inv X pins σ H2 s2→RelV x v→RelV y u→R x y H2→wpAny (model X.prog X.w) X.A (f v u) Q X.xe s2) :
  wpAny (model X.prog X.w) X.A (eval a X.env) (fun v s₁=>wpAny (model X.prog X.w) X.A (eval b X.env) (fun u s₂=>wpAny (model X.prog X.w) X.A (f v u) Q X.xe s₂) X.xe s₁) X.xe s:=by
 refine aO (ha pins s σ H _ I h) fun v N r=> ?_
 obtain ⟨x,H1,S,U,T⟩:=r
 refine aO (hb pins N σ H1 _ S T) fun u s2 t=> ?_
 obtain ⟨y,H2,p,k,j⟩:=t
 exact hf v u s2 x y H2 p U k j
theorem Fd {f:Value→Value→Sem Value}{C:Int→Int→Prop}{g:Int→Int→Int}
  (rule:∀ (i j:Int) (t u:Tok) (s:Shared) (Q:Value→Shared→Prop) (E:Value→Shared→Prop),C i j→Q (.int (g i j) s.toks) { s with toks:=s.toks+1 }→wpAny (model X.prog X.w) X.A (f (.int i t) (.int j u)) Q E s) :
  pz X f (rI C fun i j=> .int (g i j)):=by
 intro D s K H x y v u Q I J F h
 refine cps fun PP G=> ?_
 refine mH (h) fun i j B z a q=> ?_; subst B; subst z
 obtain ⟨t,rfl⟩:=J
 obtain ⟨P,rfl⟩:=F
 refine G ?_; clear G PP
 exact rule i j t P s _ _ a ⟨.int (g i j),H,I.tok _,⟨_,rfl⟩,q⟩
theorem DK {f:Value→Value→Sem Value}{g:Int→Int→Int}
  (rule:∀ (i j:Int) (t u:Tok) (s:Shared) (Q:Value→Shared→Prop) (E:Value→Shared→Prop),Q (.int (g i j) s.toks) { s with toks:=s.toks+1 }→wpAny (model X.prog X.w) X.A (f (.int i t) (.int j u)) Q E s) :
  pz X f (zE fun i j=> .int (g i j)):=by
 intro C s J H x y v u Q I F D h
 refine cps fun PP G=> ?_
 refine bL (h) fun i j B z q=> ?_; subst B; subst z
 obtain ⟨t,rfl⟩:=F
 obtain ⟨P,rfl⟩:=D
 refine G ?_; clear G PP
 exact rule i j t P s _ _ ⟨.int (g i j),H,I.tok _,⟨_,rfl⟩,q⟩
theorem Bd {f:Value→Value→Sem Value}{g:Int→Int→Bool}
  (rule:∀ (i j:Int) (t u:Tok) (s:Shared) (Q:Value→Shared→Prop) (E:Value→Shared→Prop),Q (.bool (g i j)) s→wpAny (model X.prog X.w) X.A (f (.int i t) (.int j u)) Q E s) :
  pz X f (zE fun i j=> .bl (g i j)):=by
 intro C s J H x y v u Q I F D h
 refine cps fun PP G=> ?_
 refine bL (h) fun i j z B q=> ?_; subst z; subst B
 obtain ⟨t,rfl⟩:=F
 obtain ⟨P,rfl⟩:=D
 refine G ?_; clear G PP
 exact rule i j t P s _ _ ⟨.bl (g i j),H,I,rfl,q⟩
noncomputable def uO (i j:Int):Prop:=0 < j∧j < 1073741824
noncomputable def CMul (i j:Int):Prop:=(-(2 ^ 64) < i∧i < 2 ^ 64)∨(-(2 ^ 64) < j∧j < 2 ^ 64)
theorem CMul.ok {i j:Int}(h:CMul i j):IntMulOk i j:=by
 rcases h with ⟨a,b⟩ | ⟨a,b⟩
 ·exact .of_left (intBits_le_64 a b)
 ·exact .of_right (intBits_le_64 a b)
theorem Be:pz X (binaryOp .Add) (zE fun i j=> .int (i+j)):=DK fun _ _ _ _ _ _ _ q=>add_int q
theorem Bk:pz X (binaryOp .Sub) (zE fun i j=> .int (i - j)):=DK fun _ _ _ _ _ _ _ q=>sub_int q
theorem Bi:pz X (binaryOp .Mult) (rI CMul fun i j=> .int (i * j)):=Fd fun _ _ _ _ _ _ _ a q=>mul_int q a.ok
theorem yA:pz X (binaryOp .FloorDiv) (rI uO fun i j=> .int (i / j)):=Fd fun i j _ _ _ _ _ a q=>by
 have b:(0:Int) < j:=a.1
 have c:j < 1073741824:=a.2
 exact floordiv_int (by omega) (by rw [Int.fdiv_eq_ediv_of_nonneg i (by omega)]; exact q) (.inl (PyProof.noPylong_small (by omega)))
theorem Bg:pz X (binaryOp .Mod) (rI (fun _ j=>0 < j) fun i j=> .int (i % j)):=Fd fun i j _ _ _ _ _ a q=>by
 have b:(0:Int) < j:=a
 exact mod_int' (by omega) (by rw [Int.fmod_eq_emod_of_nonneg i (by omega)]; exact q)
theorem Ga {f:Value→Sem Value}{g:Int→Int}
  (rule:∀ (i:Int) (t:Tok) (s:Shared) (Q:Value→Shared→Prop) (E:Value→Shared→Prop),Q (.int (g i) s.toks) { s with toks:=s.toks+1 }→wpAny (model X.prog X.w) X.A (f (.int i t)) Q E s) :
  FN X f (rU fun i=> .int (g i)):=by
 intro B s C H x v Q I y h
 obtain ⟨i,rfl,q⟩:=h
 obtain ⟨t,rfl⟩:=y
 exact rule i t s _ _ ⟨.int (g i),H,I.tok _,⟨_,rfl⟩,q⟩
theorem BU:FN X (unaryOp .USub) (rU fun i=> .int (-i)):=Ga fun _ _ _ _ _ q=>neg_int q
theorem DN:pz X (compareOp .Lt) (zE fun i j=> .bl (decide (i < j))):=Bd fun _ _ _ _ _ _ _ q=>lt_int q
theorem DM:pz X (compareOp .LtE) (zE fun i j=> .bl (decide (i≤j))):=Bd fun _ _ _ _ _ _ _ q=>le_int q
theorem DL:pz X (compareOp .Gt) (zE fun i j=> .bl (decide (j < i))):=Bd fun _ _ _ _ _ _ _ q=>gt_int q
theorem aY (b:Expr){op:CmpOp}(h:op≠ .In:=by decide)(h2:op≠ .NotIn:=by decide):behindInMarks op b=false:=by
 have T:(op == CmpOp.In)=false:=by cases op <;> first | rfl | exact absurd rfl h
 have t:(op == CmpOp.NotIn)=false:=by cases op <;> first | rfl | exact absurd rfl h2
 cases b <;> simp [behindInMarks,T,t]
theorem l0:(sizeLine:Nat) < 2 ^ 63:=by rw [sizeLine_eq]; decide
theorem rE:pz X (binaryOp .Add) (fun x y H Q=>∃ i j,x= .str i∧y= .str j∧i.length+j.length≤sizeLine∧Q (.str (i ++ j)) H):=by
 intro A s E H x y v u Q I z w h
 refine cps fun PP G=> ?_
 refine mH (h) fun i j B C D q=> ?_; subst B; subst C
 obtain ⟨t,rfl⟩:=z
 obtain ⟨P,rfl⟩:=w
 refine G ?_; clear G PP
 exact add_str (fun P J=>⟨.str (i ++ j),H,I.tok _,⟨_,rfl⟩,q⟩) D
theorem jW {x:V}{us:List Value}(r:Vals [x] us):∃ u,us=[u]∧RelV x u:=by
 cases r with
 | cons T k=>cases k; exact ⟨_,rfl,T⟩
theorem wV {x y:V}{us:List Value}(r:Vals [x,y] us):∃ u w',us=[u,w']∧RelV x u∧RelV y w':=by
 cases r with
 | cons T k=>
  cases k with
  | cons D E=>cases E; exact (dL _ _ rfl T D)
theorem uY:d8 X (.builtin "abs") (fun xs H Q=>∃ i,xs=[.int i]∧Q (.int (if i < 0 then -i else i)) H):=by
 intro A s B H xs W Q I r h
 refine cps fun PP J=> ?_
 obtain ⟨i,rfl,q⟩:=h
 refine Fw (jW r) fun u F t G=> ?_; subst F; subst G
 refine J ?_; clear J PP
 exact call_abs_int fun u K=>⟨.int (if i < 0 then -i else i),H,I.tok _,⟨_,rfl⟩,q⟩
theorem tP (hc:X.calm=true):d8 X (.builtin "max") (fun xs H Q=>∃ i j,xs=[.int i,.int j]∧Q (.int (if j > i then j else i)) H):=by
 intro A s B H xs W Q I r h
 refine cps fun PP G=> ?_
 refine kT (h) fun i j M q=> ?_; subst M
 refine bL (wV r) fun u v J L K=> ?_; subst J; obtain ⟨t,rfl⟩:=L; obtain ⟨P,rfl⟩:=K
 refine G ?_; clear G PP
 refine max_two_ints (I.ok.hd hc) fun o N k=>⟨_,H,I.kept k,?_,q⟩
 by_cases n:j > i
 ·rw [if_pos n,if_pos n]; exact ⟨_,rfl⟩
 ·rw [if_neg n,if_neg n]; exact ⟨_,rfl⟩
end
structure ObjM (h:Heap)(x dx C:Addr)(mA:Str→Option Value):Prop where
 obj:h.get? x=some (W.instObj C dx)
 ns:h.Ns1 dx mA
 ne:dx≠x
theorem uj {h:Heap}{dx:Addr}{mA:Str→Option Value}(n:h.Ns1 dx mA):∃ od,h.get? dx=some od∧∀ name,W.lookIn name od=some (mA name):=by
 refine ju (n) fun o l k D H O _ A=> ?_
 refine ⟨o,D,fun name=> ?_⟩
 have e:=A name
 unfold nsFind findBy at e
 rw [← Array.find?_toList] at e
 unfold W.lookIn
 rw [H]
 dsimp only
 split
 ·rename_i y q
  rw [q] at e
  exact congrArg some e
 ·rename_i q
  rw [q] at e
  have a:l.toList.any (·.refKey)=false:=by
   rw [List.any_eq_false]
   intro y B
   obtain ⟨z,t,L⟩:=O y (Array.mem_toList_iff.mp B)
   simp [DictEntry.refKey,L]
  have a':¬ l.toList.any (·.refKey)=true:=by rw [a]; exact Bool.false_ne_true
  rw [if_neg a']
  exact congrArg some e
theorem ObjM.look {h:Heap}{x dx C:Addr}{mA:Str→Option Value}(I:ObjM h x dx C mA):∃ od,W.InstAt h x (W.instObj C dx) C (some od)∧∀ name,W.lookIn name od=some (mA name):=
 let ⟨od,ho,hl⟩:=uj I.ns
 ⟨od,⟨I.obj,rfl,rfl,ho⟩,hl⟩
section
variable{prog:Program}{w:World}{A:Around}{E:Value→Shared→Prop}{s:Shared}{K:W.Frag}{x dx C f:Addr}{mA:Str→Option Value}{name:Str}{v:Value}
theorem yh {expr:Bool}{Q:Value→Shared→Prop}(X:K.In s.heap)(I:ObjM s.heap x dx C mA)(hg:W.plainGet K C name=true)(hh:W.hasDictIn K C=true)
  (ha:W.findIn K (.ref C) name=some none) (hv:mA name=some v) (hv':W.handedIn v=true) (h:Q v { s with toks:=s.toks+1 }) :
  wpAny (model prog w) A (getAttr (.ref x) name expr) Q E s:=by
 obtain ⟨n,J,N⟩:=I.look
 exact W.get_value X J (W.plainGet_of hg).1 (W.findObj_own hh ha rfl (by rw [N,hv])) hv' h
theorem vq {pl:Sem Bool}{Q:Value×List Value→Shared→Prop}(X:K.In s.heap)(I:ObjM s.heap x dx C mA)(hg:W.plainGet K C name=true)
  (hf:W.findIn K (.ref C) name=some (some (.ref f))) (ht:W.isFn K (.ref f)=true) (hv:mA name=none) (h:Q (.ref f,[.ref x]) s) :
  wpAny (model prog w) A (getMethod (.ref x) name pl) Q E s:=by
 obtain ⟨n,J,N⟩:=I.look
 exact W.method_fn X J (W.plainGet_of hg).1 (W.plainGet_of hg).2 hf (beq_iff_eq.mp ht) (by show (W.lookIn name n).map (·.isSome)=some false; rw [N,hv]; rfl) h
theorem y6 {ns:List Str}{Q:Unit→Shared→Prop}(X:K.In s.heap)(I:ObjM s.heap x dx C mA)
  (hs:W.findIn K (.ref C) "__setattr__" =some (some (.builtin "object.__setattr__"))) (hp:W.plainOver K C=true) (ht:W.takerIn K C name=some none) (hh:W.hasDictIn K C=true)
  (hw:PySem.Within mA ns) (hsz:ns.length≤sizeLine)
  (h:∀ h',ObjM h' x dx C (fun y=>if y=name then some v else mA y)→Heap.SameBut dx s.heap h'→Q () { s with heap:=h',toks:=s.toks+2 }) :
  wpAny (model prog w) A (setAttr (.ref x) name v) Q E s:=by
 obtain ⟨n,J,V⟩:=I.look
 refine W.set_plain X J hs (W.osa_open (s:={ s with toks:=s.toks+1 }) (r:=none) X J hp ht fun b=> ?_)
 obtain ⟨Y,c,F⟩:=W.any_some hh
 have B:s.heap.get? x=some ⟨.ref C,some dx,.plain,#[]⟩:=I.obj
 refine wpAny_bind (wpAny_pure (wpAny_bind (wpAny_bind (wpAny_loadPart B (wpAny_bind (W.Looks.here (s:={ s with toks:=s.toks+1 }) (W.looks_clsIn X c) ?_))))))
 rw [F]
 refine wpAny_pure (a:=some dx) (wpAny_bind (wpAny_pure (wpAny_bind ?_)))
 refine wpAny_nsSet1 (s:={ s with toks:=s.toks+1 }) I.ns fun h' N M=> ?_
 refine lg (N.count (PySem.Within.cons name v hw)) fun U T S O R P=> ?_
 refine wpAny_bind (wpAny_lookBehind O (by rw [R]; exact pastItsLine_dict (Nat.le_trans P (by rw [List.length_cons]; omega))) ?_)
 exact wpAny_pure (h _ ⟨(M.2 _ (Ne.symm I.ne)).trans I.obj,N,I.ne⟩ M)
theorem vM {R:Result→Shared→Prop}{vs:List Value}{kw:List (Str×Value)}(X:K.In s.heap)(hm:W.makesIn K C=true)
  (hi:W.findIn K (.ref C) "__init__" =some (some (.ref f))) (hf:W.typeIn K (.ref f)=some (.type "function"))
  (h:codeAny (model prog w) (A.under (.builtin "type.__call__" ⟨.ref C :: vs,kw⟩)) (.call (.ref f) ⟨.ref (s.heap.objs.size+1) :: vs,kw⟩) (W.InitBack (s.heap.objs.size+1) R)
   { s with heap:=(s.heap.push W.emptyDict).push (W.instObj C s.heap.objs.size) }) :
  codeAny (model prog w) A (.call (.ref C) ⟨vs,kw⟩) R s:=by
 obtain ⟨Y,g,d,t,Z⟩:=s
 exact W.make_core (W.makes_of X hm) (W.looks_findIn X hi) (fun V=>W.bind_fn X V hf) (.inl rfl) h
end
noncomputable def gJ (f:Str)(v:V):List (Str×V)→List (Str×V)
 | []=>[(f,v)]
 | (g,x) :: r=>if g=f then (g,v) :: r else (g,x) :: gJ f v r
theorem kL (f g:Str)(v:V):∀ fs:List (Str×V),(gJ f v fs).lookup g=if g=f then some v else fs.lookup g
 | []=>by
  show List.lookup g [(f,v)]=_
  by_cases h:g=f
  ·have u:(g == f)=true:=beq_iff_eq.mpr h
   simp only [List.lookup,u,if_pos h]
  ·have u:(g == f)=false:=beq_eq_false_iff_ne.mpr h
   simp only [List.lookup,u,if_neg h]
 | (k,x) :: r=>by
  have s:=kL f g v r
  rw [show gJ f v ((k,x) :: r)=(if k=f then (k,v) :: r else (k,x) :: gJ f v r) from rfl]
  by_cases O:k=f
  ·rw [if_pos O]
   by_cases h:g=k
   ·have u:(g == k)=true:=beq_iff_eq.mpr h
    simp only [List.lookup,u,if_pos (h.trans O)]
   ·have u:(g == k)=false:=beq_eq_false_iff_ne.mpr h
    simp only [List.lookup,u,if_neg (fun e:g=f=>h (e.trans O.symm))]
  ·rw [if_neg O]
   by_cases h:g=k
   ·have u:(g == k)=true:=beq_iff_eq.mpr h
    simp only [List.lookup,u,if_neg (fun e:g=f=>O (h.symm.trans e))]
   ·have u:(g == k)=false:=beq_eq_false_iff_ne.mpr h
    simp only [List.lookup,u]
    exact s
theorem j9 (f:Str)(v:V):∀ fs:List (Str×V),f∈(gJ f v fs).map (·.1)∧∀ g,g∈fs.map (·.1)→g∈(gJ f v fs).map (·.1)
 | []=>⟨by simp [gJ],fun g h=>by simp at h⟩
 | (k,x) :: r=>by
  obtain ⟨Y,Z⟩:=j9 f v r
  rw [show gJ f v ((k,x) :: r)=(if k=f then (k,v) :: r else (k,x) :: gJ f v r) from rfl]
  by_cases O:k=f
  ·rw [if_pos O]
   subst O
   exact ⟨by simp,fun g h=>by simpa using h⟩
  ·rw [if_neg O]
   refine ⟨?_,fun g h=> ?_⟩
   ·rw [List.map_cons]
    exact dt Y
   ·rw [List.map_cons] at h ⊢
    rcases List.mem_cons.mp h with e | e
    ·exact List.mem_cons.mpr (.inl e)
    ·exact dt (Z g e)
theorem kH (f:Str)(v:V):∀ fs:List (Str×V),(gJ f v fs).length≤fs.length+1
 | []=>by simp [gJ]
 | (k,x) :: r=>by
  have s:=kH f v r
  rw [show gJ f v ((k,x) :: r)=(if k=f then (k,v) :: r else (k,x) :: gJ f v r) from rfl]
  by_cases O:k=f
  ·rw [if_pos O,List.length_cons,List.length_cons]; omega
  ·rw [if_neg O,List.length_cons,List.length_cons]; omega
theorem RelO.some_of {v:V}{o:Option Value}(r:RelO (some v) o):∃ u,o=some u∧RelV v u:=by
 cases o with
 | none=>exact (show False from r).elim
 | some u=>exact ⟨u,rfl,r⟩
theorem RelO.none_of {o:Option Value}(r:RelO none o):o=none:=by
 cases o with
 | none=>rfl
 | some u=>exact (show False from r).elim
theorem ud {v:V}{u:Value}(r:RelV v u):W.handedIn u=true:=by
 cases v with
 | non=>cases (show u=Value.none from r); rfl
 | bl b=>cases (show u=Value.bool b from r); rfl
 | int i=>obtain ⟨t,e⟩:=(show ∃ t,u=Value.int i t from r); cases e; rfl
 | str x=>obtain ⟨t,e⟩:=(show ∃ t,u=Value.str x t from r); cases e; rfl
 | byt b=>obtain ⟨t,e⟩:=(show ∃ t,u=Value.bytes b t from r); cases e; rfl
 | flt b=>obtain ⟨t,e⟩:=(show ∃ t,u=Value.float b t from r); cases e; rfl
 | ref a=>cases (show u=Value.ref a from r); rfl
 | ty n=>cases (show u=Value.type n from r); rfl
section
variable{P:Program}{w:World}{H H':Hp}{h h':Heap}{a C dx:Addr}{fs fs':List (Str×V)}
theorem oE (hok:HOk P w H h)(e:H a=some (.ins C dx fs)):∃ mA,ObjM h a dx C mA∧(∀ f,RelO (fs.lookup f) (mA f))∧PySem.Within mA (fs.map (·.1))∧fs.length≤1000∧H dx=some (.own a):=by
 refine Fx ((show ObjOk P w H h a (.ins C dx fs) from hok a _ e)) fun d z ne i mA n r q=> ?_
 exact (yk mA ⟨i,n,ne⟩ r q z d)
end
structure Cls (K:W.Frag)(C:Addr):Prop where
 pg:W.plainGet K C Str.empty=true
 hd:W.hasDictIn K C=true
 po:W.plainOver K C=true
 sa:W.findIn K (.ref C) "__setattr__" =some (some (.builtin "object.__setattr__"))
theorem Cls.get {K:W.Frag}{C:Addr}(c:Cls K C)(f:Str):W.plainGet K C f=true:=c.pg
noncomputable def NoAttr (K:W.Frag)(C:Addr)(f:Str):Prop:=W.findIn K (.ref C) f=some none
theorem NoAttr.taker {K:W.Frag}{C:Addr}{f:Str}(n:NoAttr K C f):W.takerIn K C f=some none:=by
 unfold W.takerIn
 rw [show W.findIn K (.ref C) f=some none from n]
 rfl
structure Meth (K:W.Frag)(C:Addr)(m:Str)(f:Addr):Prop where
 at_:W.findIn K (.ref C) m=some (some (.ref f))
 fn:W.isFn K (.ref f)=true
 kp:W.keepIn K (.ref f)=true
section
variable{X:Cx}{pins:List (Addr×Obj)}{σ:St}{H:Hp}{s:Shared}{a C dx:Addr}{fs:List (Str×V)}{f:Str}{v:V}{A:Around}{E:Value→Shared→Prop}
theorem rf {b:Bool}{Q:Value→Shared→Prop}(I:Inv X pins σ H s)(e:H a=some (.ins C dx fs))(c:Cls X.K C)(n:NoAttr X.K C f)(l:fs.lookup f=some v)
  (h:∀ u s',Inv X pins σ H s'→RelV v u→Q u s'):wpAny (model X.prog X.w) A (getAttr (.ref a) f b) Q E s:=by
 refine qL (oE I.hok e) fun p O r _ _ _=> ?_
 obtain ⟨u,F,D⟩:=RelO.some_of (v:=v) (o:=p f) (by rw [← l]; exact r f)
 exact yh I.kIn O (c.get f) c.hd n F (ud D) (h u _ (I.tok _) D)
theorem rg {m:Str}{g:Addr}{pl:Sem Bool}{Q:Value×List Value→Shared→Prop}(I:Inv X pins σ H s)(e:H a=some (.ins C dx fs))(c:Cls X.K C)(k:Meth X.K C m g)(l:fs.lookup m=none)
  (h:Q (.ref g,[.ref a]) s):wpAny (model X.prog X.w) A (getMethod (.ref a) m pl) Q E s:=by
 refine qL (oE I.hok e) fun o O r _ _ _=> ?_
 have v:o m=none:=RelO.none_of (by rw [← l]; exact r m)
 exact vq I.kIn O (c.get m) k.at_ k.fn v h
theorem rY {y:V}{u:Value}{Q:Unit→Shared→Prop}(I:Inv X pins σ H s)(e:H a=some (.ins C dx fs))(c:Cls X.K C)(n:NoAttr X.K C f)(hl:fs.length < 1000)(ry:RelV y u)
  (h:∀ s',Inv X pins σ (bu H a (.ins C dx (gJ f y fs))) s'→Q () s'):wpAny (model X.prog X.w) A (setAttr (.ref a) f u) Q E s:=by
 refine qL (oE I.hok e) fun p O r i _ D=> ?_
 have F:(fs.map (·.1)).length≤sizeLine:=by rw [List.length_map,sizeLine_eq]; omega
 refine y6 I.kIn O c.sa c.po n.taker c.hd i F fun t d G=>h _ ?_
 have hd:∃ o,t.get? dx=some o:=let ⟨o,_,_,e',_⟩:=d.ns; ⟨o,e'⟩
 refine I.write (x:=a) (e:=dx) (by rw [e]; exact True.intro) (.inr D) (fun b q v z=>(G.2 b v).trans z) hd ?_
 refine (Db (by rw [am O.ne]; exact D) ?_ O.ne d.obj _ d.ns (fun g=> ?_) (fun g B=> ?_))
 ·have:=kH f y fs; omega
 ·show RelO ((gJ f y fs).lookup g) (if g=f then some u else p g)
  rw [kL]
  by_cases q:g=f
  ·rw [if_pos q,if_pos q]; exact ry
  ·rw [if_neg q,if_neg q]; exact r g
 ·by_cases q:g=f
  ·rw [q]; exact (j9 f y fs).1
  ·refine (j9 f y fs).2 g (i g fun z=>B ?_)
   show (if g=f then some u else p g)=none
   rw [if_neg q]; exact z
theorem Inv.made (I:Inv X pins σ H s):Inv X pins σ (bu (bu H s.heap.objs.size (.own (s.heap.objs.size+1))) (s.heap.objs.size+1) (.ins C s.heap.objs.size []))
  { s with heap:=(s.heap.push W.emptyDict).push (W.instObj C s.heap.objs.size) }:=by
 have T:(s.heap.push W.emptyDict).get? s.heap.objs.size=some W.emptyDict:=Heap.get?_push_size s.heap rfl
 have t:((s.heap.push W.emptyDict).push (W.instObj C s.heap.objs.size)).get? (s.heap.objs.size+1)=some (W.instObj C s.heap.objs.size):=by
  have:=Heap.get?_push_size (s.heap.push W.emptyDict) (o:=W.instObj C s.heap.objs.size) rfl
  rwa [Heap.size_push] at this
 have d:(s.heap.push W.emptyDict).Ns s.heap.objs.size (fun _=>none):=(iM W.emptyDict (#[]) _ T rfl ((fun e c=>absurd c (by simp))) (fun _=>rfl))
 have Q:=I.laid (a:=s.heap.objs.size) (o:= .own (s.heap.objs.size+1)) (h':=s.heap.push W.emptyDict) (t':=s.toks) (fun b u q=>Heap.get?_push_of_some _ q) (Nat.le_refl _) ⟨_,T⟩
 refine Q.laid (a:=s.heap.objs.size+1) (o:= .ins C s.heap.objs.size []) (t':=s.toks) (fun b u q=>Heap.get?_push_of_some _ q) (Nat.le_of_eq (Heap.size_push _ _)) ?_
 have ne:s.heap.objs.size≠s.heap.objs.size+1:=Nat.ne_of_lt (Nat.lt_succ_self _)
 refine (Db (by rw [am ne,az]) (Nat.zero_le _) ne t (fun _=>none) ((Heap.Ns1.of_empty d).at fun o q=>Heap.get?_push_of_some _ q) (fun _=>True.intro) (fun y B=>absurd rfl B))
theorem xq {prog:Program}{w:World}{env:Env}{e:Expr}{f:Str}{pos:Pos}{s:Shared}{Q:Value→Shared→Prop}(hb:attributeBase e f env (eval e env)=eval e env)
  (h:wpAny (model prog w) A (eval e env) (fun o s₁=>wpAny (model prog w) A (getAttr o f true) Q E s₁) E s):wpAny (model prog w) A (eval (.Attribute e f pos) env) Q E s:=
 Attribute_any_ h (by rw [arm_eval_Attribute,hb])
end
noncomputable def Fl (K:W.Frag)(ta:TE)(f:Str):TE:=fun σ H Q=>ta σ H fun x H1=>∃ a C dx fs v,x= .ref a∧H1 a=some (.ins C dx fs)∧Cls K C∧NoAttr K C f∧fs.lookup f=some v∧Q v H1
noncomputable def Fj (K:W.Frag)(ta tv:TE)(f:Str):TS:=fun D σ H=>tv σ H fun y H1=>ta σ H1 fun x H2=>∃ a C dx fs,x= .ref a∧H2 a=some (.ins C dx fs)∧Cls K C∧NoAttr K C f∧fs.length < 1000∧
 D.nx σ (bu H2 a (.ins C dx (gJ f y fs)))
section
variable{X:Cx}{o e value:Expr}{f:Str}{pos pos' tpos:Pos}{ta tv:TE}
theorem Bt (he:PE X e ta)(hb:attributeBase e f X.env (eval e X.env)=eval e X.env):PE X (.Attribute e f pos) (Fl X.K ta f):=by
 intro A s B H Q I h
 refine xq hb (aO (he A s B H _ I h) fun u N d=> ?_)
 obtain ⟨x,S,R,w,a,C,j,fs,v,i,g,c,n,l,q⟩:=d
 subst i
 obtain rfl:u=Value.ref a:=w
 exact rf R g c n l fun k o p D=>⟨v,S,p,D,q⟩
theorem wC (ha:PE X o ta)(hv:PE X value tv)(hs:swapsWith value (some (.Attribute o f pos')) pos.line X.env=pure false):PS X (.Assign [.Attribute o f pos'] value pos) (Fj X.K ta tv f):=by
 intro A s B H D I h
 refine plainObj_wpAny_Assign_Attribute (aO (hv A s B H _ I h) fun u s1 ⟨y,S,Q,v,q⟩=>aO (ha A s1 B S _ Q q) fun k E i=> ?_) hs
 obtain ⟨x,r,p,w,a,C,z,fs,g,e,c,n,l,j⟩:=i
 subst g
 obtain rfl:k=Value.ref a:=w
 exact rY p e c n l v fun t m=>⟨B,_,m,j⟩
end
section
variable{X:Cx}{pins:List (Addr×Obj)}{σ:St}{H:Hp}{s:Shared}{A:Around}{E:Value→Shared→Prop}{Q:Value→Shared→Prop}{c:Value}{b:Bool}
end
structure Room (k:Nat)(A:Around):Prop where
 hd:A.handled=none
 dp:A.depth+3 * k+5 < recursionLimit
 un:A.units+16 * k+200 < cLine
theorem Room.mono {j k:Nat}{A:Around}(r:Room k A)(h:j≤k):Room j A:=⟨r.hd,by have:=r.dp; omega,by have:=r.un; omega⟩
theorem Room.deeper {k:Nat}{A:Around}(r:Room (k+1) A)(env:Env):Room k (A.deeper env):=
 ⟨r.hd,by have:=r.dp; show A.depth+1+3 * k+5 < _; omega,by have:=r.un; show A.units+3+16 * k+200 < _; omega⟩
theorem rB {A:Around}{C:Addr}{us:List Value}{kw:List (Str×Value)}:(A.under (.builtin "type.__call__" ⟨.ref C :: us,kw⟩)).depth=A.depth+1:=by
 first | rfl | simp [Around.under,Code.weight,Code.isCreation,Code.isGuard,Code.isCaller,Code.frames,Code.isFrame,guardIds]
theorem rC {A:Around}{C:Addr}{us:List Value}{kw:List (Str×Value)}:(A.under (.builtin "type.__call__" ⟨.ref C :: us,kw⟩)).units=A.units+1:=by
 first | rfl | simp [Around.under,Code.cUnits,Code.frames,Code.isFrame]
theorem Room.make {k:Nat}{A:Around}(r:Room (k+1) A)(C:Addr)(us:List Value)(kw:List (Str×Value)):Room k (A.under (.builtin "type.__call__" ⟨.ref C :: us,kw⟩)):=
 ⟨r.hd,by have:=r.dp; rw [rB]; omega,by have:=r.un; rw [rC]; omega⟩
theorem Room.depth {k:Nat}{A:Around}(r:Room k A):A.depth < recursionLimit:=by have:=r.dp; omega
theorem Room.units {k:Nat}{A:Around}(r:Room k A):A.units+64 < cLine:=by have:=r.un; omega
noncomputable def zb:TA:=fun _ H Q=>Q [] H
noncomputable def tI (ta:TE)(tr:TA):TA:=fun σ H Q=>ta σ H fun x H1=>tr σ H1 fun xs H2=>Q (x :: xs) H2
section
variable{X:Cx}{e:Expr}{es:List Expr}{te:TE}{t:TA}{pos:Pos}
theorem dh:PA X [] zb:=fun _ _ _ _ H Q I h=>Calls.spliced_nil ⟨[],H,I,.nil,h⟩
theorem bq (ha:PE X e te)(hr:PA X es t)(hs:starEach (e :: es) X.env=(false,eval e X.env) :: starEach es X.env:=by rfl):PA X (e :: es) (tI te t):=by
 intro l A s B H Q I h
 rw [hs]
 show wpAny _ _ (spliced ((false,eval e X.env) :: backTo l (starEach es X.env))) _ _ s
 refine Calls.spliced_cons (aO (ha A s B H _ I h) fun u N k=> ?_)
 obtain ⟨x,S,R,T,U⟩:=k
 exact aO (hr l A N B S _ R U) fun W o j=>(by obtain ⟨d,i,p,n,m⟩:=j; exact ⟨x :: d,i,p,.cons T n,m⟩)
noncomputable def Fs (t:TA):TE:=fun σ H Q=>t σ H fun xs H1=>xs.length≤sizeLine∧∀ p,H1 p=none→Q (.ref p) (bu H1 p (.tup xs))
noncomputable def Fo (t:TA):TE:=fun σ H Q=>t σ H fun xs H1=>xs.length≤sizeLine∧∀ p,H1 p=none→Q (.ref p) (bu H1 p (.lst xs))
theorem rN {x1}(h:PA X es t):PE X (.Tuple es x1 pos) (Fs t):=by
 intro A s B H Q I d
 refine wpAny_Tuple_spliced (aO (h pos A s B H _ I d) fun us s1 ⟨f,S,R,r,z,q⟩=>⟨by rw [← r.length]; exact z,?_⟩)
 have K:S s1.heap.objs.size=none:=R.hok.fresh (Nat.le_refl _)
 refine ⟨.ref s1.heap.objs.size,bu S s1.heap.objs.size (.tup f),R.laid (t':=s1.toks) (fun b u e=>Heap.get?_push_of_some _ e) (Nat.le_refl _) ?_,rfl,q _ K⟩
 exact (lS z us r (Da _ (Heap.get?_push_size _ rfl) rfl _ rfl))
theorem rM (h:PA X es t):PE X (.List es pos) (Fo t):=by
 intro A s B H Q I d
 refine wpAny_List_spliced (aO (h pos A s B H _ I d) fun us s1 ⟨f,S,R,r,z,q⟩=>⟨by rw [← r.length]; exact z,?_⟩)
 have K:S s1.heap.objs.size=none:=R.hok.fresh (Nat.le_refl _)
 refine ⟨.ref s1.heap.objs.size,bu S s1.heap.objs.size (.lst f),R.laid (t':=s1.toks) (fun b u e=>Heap.get?_push_of_some _ e) (Nat.le_refl _) ?_,rfl,q _ K⟩
 exact (lQ z us 0 r (Heap.get?_push_size _ rfl))
end
noncomputable abbrev Sp:=List V→Hp→VK→XK→Prop
noncomputable abbrev pw:=List Env→Hp→Shared→XK→Value→Shared→Prop
structure Env0 (P:Program)(w:World)(K:W.Frag)(mg:Str→Option Value)(base:Heap)(A:Around)(outer:List Env)(s:Shared)(H:Hp):Prop where
 frames:A.frames=some outer
 mod:Mod K mg base
 bs:∀ b o,base.get? b=some o→s.heap.get? b=some o∧H b=none
 bsz:base.objs.size≤s.heap.objs.size
 funs:s.heap.FunFrames base outer
 frf:∀ b∈eR outer,H b=none
 hok:HOk P w H s.heap
 bare:AllBare s.gens
inductive CE (outer:List Env)(P:Program)(w:World)(H:Hp)(s:Shared)(Q:VK)(u:Value)(s':Shared):Prop
 | mk (v:V) (H':Hp) (o:s'.os=s.os) (g:AllBare s'.gens) (n:Un (eR outer) [] H H' s.heap s'.heap) (h:HOk P w H' s'.heap) (r:RelV v u) (q:Q v H')
noncomputable def CR (CX:pw)(outer:List Env)(P:Program)(w:World)(H:Hp)(s:Shared)(Q:VK)(E:XK)(r:Result)(s':Shared):Prop:=
 match r with
 | .ok (.ret u)=>CE outer P w H s Q u s'
 | .ok _=>False
 | .error e=>CX outer H s E e s'
structure FnOk (P:Program)(w:World)(K:W.Frag)(mg:Str→Option Value)(base:Heap)(CX:pw)(k:Nat)(f:Addr)(fd:FuncData)(ps:List Str)(sp:Sp):Prop where
 len:∀ vs H Q E,sp vs H Q E→vs.length=ps.length
 run:∀ (A:Around) (outer:List Env) (s:Shared) (H:Hp) (args:Args) (us:List Value) (vs:List V) (Q:VK) (E:XK),Room k A→Env0 P w K mg base A outer s H→BindsTo s fd args (ps.zip us)→Vals vs us→sp vs H Q E→
  codeAny (model P w) A (.call (.ref f) args) (CR CX outer P w H s Q E) s
theorem FnOk.imp {P:Program}{w:World}{K:W.Frag}{mg:Str→Option Value}{base:Heap}{CX:pw}{k:Nat}{f:Addr}{fd:FuncData}{ps:List Str}{sp sp':Sp}(F:FnOk P w K mg base CX k f fd ps sp)
  (h:∀ vs H Q E,sp' vs H Q E→sp vs H Q E):FnOk P w K mg base CX k f fd ps sp':=
 ⟨fun vs H Q E q=>F.len vs H Q E (h _ _ _ _ q),fun A m s H n X vs Q E R c u z L=>F.run A m s H n X vs Q E R c u z (h _ _ _ _ L)⟩
theorem Env0.make {P:Program}{w:World}{K:W.Frag}{mg:Str→Option Value}{base:Heap}{A:Around}{outer:List Env}{s:Shared}{H:Hp}(e:Env0 P w K mg base A outer s H)(C:Addr)(us:List Value)(kw:List (Str×Value)) :
  Env0 P w K mg base (A.under (.builtin "type.__call__" ⟨.ref C :: us,kw⟩)) outer s H:=⟨by first | exact e.frames | (simpa [Around.under,Code.envs,Code.isFrame,pushEnvs] using e.frames),e.mod,e.bs,e.bsz,e.funs,e.frf,e.hok,e.bare⟩
section
variable{X:Cx}{pins:List (Addr×Obj)}{σ:St}{H:Hp}{s s':Shared}
theorem Inv.env0 (I:Inv X pins σ H s):Env0 X.prog X.w X.K X.mg X.base X.A X.stack s H:=
 ⟨I.ok.frames,I.ok.mod,I.bs,Nat.le_trans I.ok.bsz I.sz,I.stack,I.stkFree,I.hok,I.bare⟩
theorem Inv.after {Q:VK}{u:Value}(I:Inv X pins σ H s)(h:CE X.stack X.prog X.w H s Q u s'):EP X pins σ Q u s':=by
 refine cps fun PP G=> ?_
 obtain ⟨v,O,os,o,un,p,r,q⟩:=h
 obtain ⟨W,g,d,t,x⟩:=s'
 refine G ?_; clear G PP
 obtain rfl:x=s.os:=os
 exact ⟨v,O,I.call (h':=W) (g':=g) (d':=d) (t':=t) (ch:=[]) un p o (fun b z=>absurd z (by simp)),r,q⟩
end
noncomputable def Ed (sp:Sp)(dvs:List V)(E:XK)(t:TA):TE:=fun σ H Q=>t σ H fun vs H1=>sp (vs ++ dvs) H1 Q E
noncomputable def zH (C:Addr)(m:Str)(sp:Sp)(dvs:List V)(E:XK)(ta:TE)(t:TA):TE:=fun σ H Q=>ta σ H fun x H1=>∃ a dx fs,x= .ref a∧H1 a=some (.ins C dx fs)∧fs.lookup m=none∧
 t σ H1 fun vs H2=>sp (x :: (vs ++ dvs)) H2 Q E
noncomputable def zG (C:Addr)(sp:Sp)(dvs:List V)(E:XK)(t:TA):TE:=fun σ H Q=>t σ H fun vs H1=>∀ x dx,H1 x=none→H1 dx=none→dx≠x→
 sp (.ref x :: (vs ++ dvs)) (bu (bu H1 dx (.own x)) x (.ins C dx [])) (fun v H2=>v= .non∧Q (.ref x) H2) E
noncomputable def Binds (K:W.Frag)(fd:FuncData)(ps:List Str)(ds:List Value):Prop:=
 ∀ (s:Shared) (us:List Value),K.In s.heap→(us ++ ds).length=ps.length→BindsTo s fd ⟨us,[]⟩ (ps.zip (us ++ ds))
theorem Binds.all {K:W.Frag}{fd:FuncData}{ps:List Str}(h:∀ us:List Value,us.length=ps.length→bindArgs fd ⟨us,[]⟩=pure (ps.zip us)):Binds K fd ps []:=fun s us _ N=>by
 rw [List.append_nil] at N ⊢
 exact .of_eq (h us N)
noncomputable def cv (CX:pw)(X:Cx)(E:XK):Prop:=∀ (pins:List (Addr×Obj)) (σ:St) (H:Hp) (s:Shared) (e:Value) (s':Shared),Inv X pins σ H s→CX X.stack H s E e s'→X.xe e s'
section
variable{X:Cx}{CX:pw}{k:Nat}{f C:Addr}{fd:FuncData}{ps:List Str}{sp:Sp}{dvs:List V}{ds:List Value}{E:XK}{x m:Str}{p pos apos:Pos}{e o:Expr}{es:List Expr}{ta:TE}{t:TA}
theorem wI {pins:List (Addr×Obj)}{σ:St}{H:Hp}{s:Shared}{Q:VK}{us:List Value}{vs:List V}(F:FnOk X.prog X.w X.K X.mg X.base CX k f fd ps sp)(hr:Room k X.A)(hb:Binds X.K fd ps ds)(hd:Vals dvs ds)(hx:cv CX X E)
  (I:Inv X pins σ H s) (r:Vals vs us) (h:sp (vs ++ dvs) H Q E):wpAny (model X.prog X.w) X.A (call (.ref f) us) (EP X pins σ Q) X.xe s:=by
 have l:Vals (vs ++ dvs) (us ++ ds):=r.append hd
 have N:(us ++ ds).length=ps.length:=by rw [← l.length]; exact F.len _ _ _ _ h
 refine wpAny_call (codeAny_mono (F.run X.A X.stack s H ⟨us,[]⟩ (us ++ ds) (vs ++ dvs) Q E hr I.env0 (hb s us I.kIn N) l h) fun r W d=> ?_)
 cases r with
 | error e=>exact hx pins σ H s e W I d
 | ok t=>
  cases t with
  | ret u=>exact I.after d
  | next=>exact False.elim d
  | brk=>exact False.elim d
  | cont=>exact False.elim d
theorem sY (F:FnOk X.prog X.w X.K X.mg X.base CX k f fd ps sp)(hr:Room k X.A)(hg:Gl X x)(hm:X.mg x=some (.ref f))(hk:W.keepIn X.K (.ref f)=true)(hb:Binds X.K fd ps ds)(hd:Vals dvs ds)(hx:cv CX X E)
  (ha:PA X (e :: es) t) (hdb:(x == ("__debug__" :Str))=false:=by decide) (he:starEach (e :: es) X.env=(false,eval e X.env) :: starEach es X.env:=by rfl) (hpl:(backTo pos (starEach es X.env)).any (·.1)=false:=by rfl) :
  PE X (.Call (.Name x p) (e :: es) [] pos) (Ed sp dvs E t):=by
 intro B s C H Q I h
 refine wpAny_Call_Name_kw (iO I hg hm ?_ hdb)
 refine W.callWith_K (h₀:=X.base) I.ok.mod.kin hk (aO (ha pos B s C H _ I h) fun us s1 ⟨u,S,R,r,q⟩=>⟨R.kIn,?_⟩) he hpl
 exact wI F hr hb hd hx R r q
theorem wf {pl:Sem Bool}(he:PE X o ta)(c:Cls X.K C)(hm:Meth X.K C m f)(F:FnOk X.prog X.w X.K X.mg X.base CX k f fd ps sp)(hr:Room k X.A)(hb:Binds X.K fd ps ds)(hd:Vals dvs ds)(hx:cv CX X E)
  (ht:eval (.Call (.Attribute o m apos) [] [] pos) X.env=(do
   let ov ← eval o X.env
   standAt apos.atName
   let (f,first) ← holding [ov] (getMethod ov m pl)
   callWith pos f first (backTo pos (starEach [] X.env)) (backToKw pos (keywordEach [] X.env))):=by rfl) :
  PE X (.Call (.Attribute o m apos) [] [] pos) (zH C m sp dvs E ta zb):=by
 intro B s D H Q I h
 refine W.methodCall_KW (pl:=pl) (aO (he B s D H _ I h) fun u N t=> ?_) ht
 obtain ⟨x,S,R,y,a,i,fs,g,e,l,q⟩:=t
 subst g
 obtain rfl:u=Value.ref a:=y
 refine rg R e c hm l ?_
 exact W.callWith_K0 (first:=[.ref a]) R.kIn hm.kp (wI (us:=[.ref a]) (vs:=[.ref a]) F hr hb hd hx R (.cons rfl .nil) q)
structure Mk (K:W.Frag)(C f:Addr):Prop where
 makes:W.makesIn K C=true
 init:W.findIn K (.ref C) "__init__" =some (some (.ref f))
 fn:W.isFn K (.ref f)=true
 kp:W.keepIn K (.ref C)=true
theorem wK {pins:List (Addr×Obj)}{σ:St}{H:Hp}{s:Shared}{Q:VK}{us:List Value}{vs:List V}(M:Mk X.K C f)(F:FnOk X.prog X.w X.K X.mg X.base CX k f fd ps sp)(hr:Room (k+1) X.A)(hb:Binds X.K fd ps ds)(hd:Vals dvs ds)
  (hx:cv CX X E) (I:Inv X pins σ H s) (r:Vals vs us)
  (h:∀ x dx,H x=none→H dx=none→dx≠x→sp (.ref x :: (vs ++ dvs)) (bu (bu H dx (.own x)) x (.ins C dx [])) (fun v H2=>v= .non∧Q (.ref x) H2) E) :
  wpAny (model X.prog X.w) X.A (call (.ref C) us) (EP X pins σ Q) X.xe s:=by
 have d:=h (s.heap.objs.size+1) s.heap.objs.size (I.hok.fresh (Nat.le_succ _)) (I.hok.fresh (Nat.le_refl _)) (Nat.ne_of_lt (Nat.lt_succ_self _))
 have p:=Inv.made (C:=C) I
 have l:Vals (V.ref (s.heap.objs.size+1) :: (vs ++ dvs)) (Value.ref (s.heap.objs.size+1) :: (us ++ ds)):= .cons rfl (r.append hd)
 have N:(Value.ref (s.heap.objs.size+1) :: us ++ ds).length=ps.length:=by
  have e:=l.length
  rw [F.len _ _ _ _ d] at e
  exact e.symm
 refine wpAny_call (vM (f:=f) I.kIn M.makes M.init (beq_iff_eq.mp M.fn) (codeAny_mono (F.run _ X.stack _ _ ⟨Value.ref (s.heap.objs.size+1) :: us,[]⟩ (Value.ref (s.heap.objs.size+1) :: (us ++ ds)) _ _ E (hr.make C us [])
  (p.env0.make C us []) (hb _ (Value.ref (s.heap.objs.size+1) :: us) p.kIn N) l d) fun r W t=> ?_))
 cases r with
 | error e=>exact hx pins σ _ _ e W p t
 | ok z=>
  cases z with
  | ret u=>
   obtain ⟨v,O,n,c,y,m⟩:=p.after t
   subst y
   exact ⟨c,⟨V.ref (s.heap.objs.size+1),O,n,rfl,m⟩⟩
  | next=>exact False.elim t
  | brk=>exact False.elim t
  | cont=>exact False.elim t
theorem yG (M:Mk X.K C f)(F:FnOk X.prog X.w X.K X.mg X.base CX k f fd ps sp)(hr:Room (k+1) X.A)(hg:Gl X x)(hm:X.mg x=some (.ref C))(hb:Binds X.K fd ps ds)(hd:Vals dvs ds)(hx:cv CX X E)
  (ha:PA X (e :: es) t) (hdb:(x == ("__debug__" :Str))=false:=by decide) (he:starEach (e :: es) X.env=(false,eval e X.env) :: starEach es X.env:=by rfl) (hpl:(backTo pos (starEach es X.env)).any (·.1)=false:=by rfl) :
  PE X (.Call (.Name x p) (e :: es) [] pos) (zG C sp dvs E t):=by
 intro B s D H Q I h
 refine wpAny_Call_Name_kw (iO I hg hm ?_ hdb)
 refine W.callWith_K (h₀:=X.base) I.ok.mod.kin M.kp (aO (ha pos B s D H _ I h) fun us s1 ⟨u,S,R,r,q⟩=>⟨R.kIn,?_⟩) he hpl
 exact wK M F hr hb hd hx R r q
end
section
variable{X:Cx}{CX:pw}{k:Nat}{f C:Addr}{fd:FuncData}{ps ks:List Str}{sp:Sp}{E:XK}{x m:Str}{p pos apos kpos:Pos}{e o:Expr}{es:List Expr}{kws:List Keyword}{te ta:TE}{t tk:TA}{nm:Option Str}
variable{g:List Value→List Value→List Value}{gV:List V→List V→List V}
end
structure FnScope (N P:List Str)(sc:Scope):Prop where
 kind:sc.kind= .function
 co:sc.isCoroutine=false
 gen:sc.isGenerator=false
 nd:N.Nodup
 pre:N.take P.length=P
 par:∀ x∈P,sc.names.lookup x=some .local∨sc.names.lookup x=some .cell
 nofree:∀ y∈sc.names,y.2≠ .free
theorem na {kindOf:Str→Option NameKind}{x:Str}:∀ {binds:List (Str×Value)} {m:Str→Option Value},(∀ v,(x,v)∉binds)→bindL kindOf binds m x=m x
 | [],_,_=>rfl
 | (n,v) :: r,m,h=>by
  unfold bindL
  rw [na fun w b=>h w (dt b)]
  split
  ·have:x≠n:=by rintro rfl; exact h v List.mem_cons_self
   simp [this]
  ·rfl
theorem m7 {kindOf:Str→Option NameKind}{x:Str}:∀ {binds:List (Str×Value)} {m:Str→Option Value},(∀ v,(x,v)∉binds)→bindC kindOf binds m x=m x
 | [],_,_=>rfl
 | (n,v) :: r,m,h=>by
  unfold bindC
  rw [m7 fun w b=>h w (dt b)]
  split
  ·rfl
  ·have:x≠n:=by rintro rfl; exact h v List.mem_cons_self
   simp [this]
theorem m_ {kindOf:Str→Option NameKind}{x:Str}{v:Value}:∀ {P:List Str} {vs:List Value} {i:Nat} {m:Str→Option Value},P.Nodup→P[i]?=some x→vs[i]?=some v→kindOf x=some .local→
  bindL kindOf (P.zip vs) m x=some v
 | [],_,_,_,_,h,_,_=>by simp at h
 | _ :: _,[],_,_,_,_,h,_=>by simp at h
 | p :: P,w :: vs,0,m,nd,h1,h2,hk=>by
  simp at h1 h2; subst h1; subst h2
  show bindL kindOf ((p,w) :: P.zip vs) m p=_
  unfold bindL
  rw [na fun v z=>(List.nodup_cons.mp nd).1 (List.of_mem_zip z).1,if_pos hk]
  simp
 | p :: P,w :: vs,i+1,m,nd,h1,h2,hk=>by
  show bindL kindOf ((p,w) :: P.zip vs) m x=_
  unfold bindL
  exact m_ (i:=i) (List.nodup_cons.mp nd).2 (by simpa using h1) (by simpa using h2) hk
theorem m6 {kindOf:Str→Option NameKind}{x:Str}{v:Value}:∀ {P:List Str} {vs:List Value} {i:Nat} {m:Str→Option Value},P.Nodup→P[i]?=some x→vs[i]?=some v→kindOf x≠some .local→
  bindC kindOf (P.zip vs) m x=some v
 | [],_,_,_,_,h,_,_=>by simp at h
 | _ :: _,[],_,_,_,_,h,_=>by simp at h
 | p :: P,w :: vs,0,m,nd,h1,h2,hk=>by
  simp at h1 h2; subst h1; subst h2
  show bindC kindOf ((p,w) :: P.zip vs) m p=_
  unfold bindC
  rw [m7 fun v z=>(List.nodup_cons.mp nd).1 (List.of_mem_zip z).1,if_neg hk]
  simp
 | p :: P,w :: vs,i+1,m,nd,h1,h2,hk=>by
  show bindC kindOf ((p,w) :: P.zip vs) m x=_
  unfold bindC
  exact m6 (i:=i) (List.nodup_cons.mp nd).2 (by simpa using h1) (by simpa using h2) hk
noncomputable def cP (N:List Str)(vs:List V):St:=vs.map some ++ List.replicate (N.length - vs.length) none
noncomputable def mK (CX:pw)(P:Program)(w:World)(K:W.Frag)(mg:Str→Option Value)(base:Heap)(N:List Str)(qual:Str)(scope:Scope)(f:Addr)(cd:Value)(A:Around)(outer:List Env)(s:Shared)(H:Hp)(E:XK):Cx where
 prog:=P
 w:=w
 K:=K
 mg:=mg
 base:=base
 A:=A.deeper (envOfC qual scope s.heap.objs.size f cd)
 N:=N
 s₀:=s
 H₀:=H
 env:=envOfC qual scope s.heap.objs.size f cd
 outer:=outer
 stack:=envOfC qual scope s.heap.objs.size f cd :: outer
 ex:=[]
 calm:=true
 fn:=fun _=>true
 pn:=[]
 xe:=fun e s'=>wpAny (model P w) (A.deeper (envOfC qual scope s.heap.objs.size f cd)) (leaving (envOfC qual scope s.heap.objs.size f cd) e) (fun _ s''=>CX outer H s E e s'') (fun e' s''=>CX outer H s E e' s'') s'
theorem pH {sc:Scope}{n:Nat}{x:Str}(h:sc.names.lookup x=some .cell):∃ c,(cellsFrom n sc.names []).lookup x=some c:=by
 have q:=W.cellsFrom_some sc.names n [] (.inl h)
 exact Option.isSome_iff_exists.mp q
theorem uf {CX:pw}{P:Program}{w:World}{K:W.Frag}{mg:Str→Option Value}{base:Heap}{N ps:List Str}{qual:Str}{scope:Scope}{f:Addr}{cd:Value}{A:Around}{outer:List Env}{s s1:Shared}{H:Hp}{E:XK}{us:List Value}{vs:List V}
  (S:FnScope N ps scope) (hd:A.handled=none) (e0:Env0 P w K mg base A outer s H) (hl:vs.length=ps.length) (r:Vals vs us)
  (x:InCallC s s.heap.objs.size (bindL (envOfC qual scope s.heap.objs.size f cd).kindOf (ps.zip us) fun _=>none) (cellsFrom (s.heap.objs.size+1) scope.names []) (bindC (envOfC qual scope s.heap.objs.size f cd).kindOf (ps.zip us) fun _=>none) s1) :
  Inv (mK CX P w K mg base N qual scope f cd A outer s H E) [] (cP N vs) H s1:=by
 have G:ps.length≤N.length:=by have:=congrArg List.length S.pre; rw [List.length_take] at this; omega
 refine kT (x.done) fun j J C O=> ?_; subst C
 have B:∀ b:Addr,b∉(mK CX P w K mg base N qual scope f cd A outer s H E).ex:=fun b z=>absurd (show b∈([]:List Addr) from z) (by simp)
 refine ⟨⟨e0.mod,S.kind,rfl,rfl,Nat.le_refl _,fun y z c j d=> ?_,fun y hy=> ?_,fun y c _ h=> ?_,fun _=>hd,Around.frames_deeper e0.frames,.inr ⟨rfl,rfl⟩,fun b z=>absurd z (B b),e0.bs,e0.bsz,fun b _ _=>B b,fun b z=>absurd z (B b),e0.funs,e0.frf⟩,
  rfl,e0.bare,Un.kept O,⟨_,x.toInCall.ns,fun i y v j d L=> ?_⟩,fun y c h=>⟨_,x.cell y c h⟩,e0.hok.fresh (Nat.le_refl _),fun y c h=> ?_,fun p Z=>absurd (show p∈([]:List (Addr×Obj)) from Z) (by simp),e0.hok.kept O,?_⟩
 ·exact name_of_addr x.apart (PySem.mem_of_lookup j) (PySem.mem_of_lookup d)
 ·have hy:scope.names.lookup y=some .cell∨scope.names.lookup y=some .free:=hy
  rcases hy with hy | hy
  ·exact pH hy
  ·exact absurd rfl (S.nofree _ (PySem.mem_of_lookup hy))
 ·exact Nat.le_of_lt (x.above y c (PySem.mem_of_lookup h))
 ·have g:i < vs.length:=by
   unfold cP at d
   by_cases g:i < vs.length
   ·exact g
   ·rw [List.getElem?_append_right (by simpa using g)] at d
    rw [List.getElem?_replicate] at d
    split at d <;> cases d
  have I:vs[i]?=some v:=by
   unfold cP at d
   rw [List.getElem?_append_left (by simpa using g),List.getElem?_map] at d
   cases e:vs[i]? with
   | none=>rw [e] at d; cases d
   | some a=>rw [e] at d; cases d; rfl
  obtain ⟨u,F,l⟩:=r.get I
  have Z:ps[i]?=some y:=by
   rw [← S.pre,List.getElem?_take_of_lt (by omega)]; exact j
  have D:ps.Nodup:=by rw [← S.pre]; exact S.nd.sublist (List.take_sublist _ _)
  refine ⟨u,l,?_⟩
  rcases S.par y (List.mem_of_getElem? Z) with k | k
  ·exact .inl ⟨k,m_ D Z F k⟩
  ·obtain ⟨c,e⟩:=pH (n:=s.heap.objs.size+1) k
   refine .inr (lS (.inl k) c e ?_)
   have q:=x.cell y c e
   rw [m6 D Z F (by show scope.names.lookup y≠_; rw [k]; decide)] at q
   exact q
 ·exact e0.hok.fresh (Nat.le_of_lt (x.above y c (PySem.mem_of_lookup h)))
 ·unfold cP
  show _=N.length
  rw [List.length_append,List.length_map,List.length_replicate]
  omega
theorem sM {CX:pw}{P:Program}{w:World}{K:W.Frag}{mg:Str→Option Value}{base:Heap}{k:Nat}{f:Addr}{name qual:Str}{params:Arguments}{body:List Stmt}{scope:Scope}{dV kV doc pm cdv ct oc:Value}{an od:Option Addr}
  {osl:Array (Option Value)} {N ps:List Str} {sp:Sp} (lk:K.lookup f=some ⟨oc,od,.func (W.fnOf name qual params body scope dV kV doc pm an cdv ct),osl⟩) (hcd:W.codeIn K cdv qual=true) (S:FnScope N ps scope)
  (len:∀ vs H Q E,sp vs H Q E→vs.length=ps.length)
  (hbody:∀ (A:Around) (outer:List Env) (s:Shared) (H:Hp) (vs:List V) (Q:VK) (E:XK),Room k (A.deeper (envOfC qual scope s.heap.objs.size f cdv))→sp vs H Q E→
   ∃ t,BZ (mK CX P w K mg base N qual scope f cdv A outer s H E) body t∧t { nx:=fun _ H'=>Q .non H',rt:=Q } (cP N vs) H) :
  FnOk P w K mg base CX (k+1) f (W.fnOf name qual params body scope dV kV doc pm an cdv ct) ps sp:=by
 refine ⟨len,fun A outer s H p Y vs Q E R D G r C=> ?_⟩
 have U:=len _ _ _ _ C
 have KX:K.In s.heap:=D.mod.kin.keeps fun b o e=>(D.bs b o e).1
 have F:s.heap.NoLimit:=D.mod.nolimit.keeps fun b o e=>(D.bs b o e).1
 have B:∀ y∈ps.zip Y,scope.names.lookup y.1=some .local∨(scope.names.lookup y.1=some .cell∧((cellsFrom (s.heap.objs.size+1) scope.names []).lookup y.1).isSome=true):=fun ⟨n,v⟩ hy=>by
  rcases S.par n (List.of_mem_zip hy).1 with q | q
  ·exact .inl q
  ·exact .inr ⟨q,W.cellsFrom_some _ _ _ (.inl q)⟩
 refine codeAny_call_function R.depth (KX _ _ lk) rfl S.co S.gen rfl (W.codeRec_of KX hcd) (G _ _ _ _ ?_)
 refine wpAny_newFunctionEnv_cells S.kind B fun T h O x=> ?_
 subst h
 refine ⟨F.keeps x.toInCall.keep,codeAny_func ?_⟩
 obtain ⟨t,g,d⟩:=hbody A outer s H vs Q E (R.deeper _) C
 have I:Inv (mK CX P w K mg base N qual scope f cdv A outer s H E) [] (cP N vs) H O:=uf S R.hd D U r x
 refine wpAny_mono (g [] O (cP N vs) H _ I d) (fun Z X L=> ?_) fun e X L=>L
 have z:∀ {M:St} {H':Hp} {v:V} {u:Value},Inv (mK CX P w K mg base N qual scope f cdv A outer s H E) [] M H' X→RelV v u→Q v H'→CE outer P w H s Q u X:=
  fun {M H' v u} J c q=>⟨v,H',J.os,J.bare,J.base,J.hok,c,q⟩
 cases Z with
 | ret u=>
  obtain ⟨v,M,H',J,c,q⟩:=L
  exact z J c q
 | next=>
  obtain ⟨M,H',J,q⟩:=L
  exact z (v:=V.non) (u:=Value.none) J rfl q
 | brk=>
  obtain ⟨_,_,_,q⟩:=L
  exact False.elim q
 | cont=>
  obtain ⟨_,_,_,q⟩:=L
  exact False.elim q
section
variable{X:Cx}{x:Str}{p pos:Pos}{e:Expr}{es:List Expr}{t:TA}{id T:String}{r:List V→Hp→VK→Prop}
noncomputable def Fk (r:List V→Hp→VK→Prop)(t:TA):TE:=fun σ H Q=>t σ H fun vs H1=>r vs H1 Q
theorem qp (hc:d8 X (.builtin id) r)(hg:Gl X x)(hm:X.mg x=none)(hv:bootBuiltins x=some (.builtin id))(ha:PA X (e :: es) t)(hn:x≠ "__name__" :=by decide)(hdb:(x == ("__debug__" :Str))=false:=by decide)
  (he:starEach (e :: es) X.env=(false,eval e X.env) :: starEach es X.env:=by rfl) (hpl:(backTo pos (starEach es X.env)).any (·.1)=false:=by rfl):PE X (.Call (.Name x p) (e :: es) [] pos) (Fk r t):=by
 intro A s B H Q I h
 refine wpAny_Call_Name_kw (io I hg hm hv ?_ hn hdb)
 exact PyProof.Rows.callWith_builtin1 (aO (ha pos A s B H _ I h) fun W N F=>(by obtain ⟨u,U,R,T,S⟩:=F; exact hc A N B U u W Q R T S)) he hpl
theorem eH (hc:d8 X (.type T) r)(hg:Gl X x)(hm:X.mg x=none)(hv:bootBuiltins x=some (.type T))(ha:PA X (e :: es) t)(hn:x≠ "__name__" :=by decide)(hdb:(x == ("__debug__" :Str))=false:=by decide)
  (he:starEach (e :: es) X.env=(false,eval e X.env) :: starEach es X.env:=by rfl) (hpl:(backTo pos (starEach es X.env)).any (·.1)=false:=by rfl):PE X (.Call (.Name x p) (e :: es) [] pos) (Fk r t):=by
 intro A s B H Q I h
 refine wpAny_Call_Name_kw (io I hg hm hv ?_ hn hdb)
 exact PyProof.Rows.callWith_type1 (aO (ha pos A s B H _ I h) fun W N G=>(by obtain ⟨u,V,R,U,S⟩:=G; exact hc A N B V u W Q R U S)) he hpl
end
end L2
namespace HT
open PySem PyProof.Rows
noncomputable def aI:List Int→List Int→Bool
 | [],[]=>false
 | [],_ :: _=>true
 | _ :: _,[]=>false
 | x :: xs,y :: ys=>if x=y then aI xs ys else decide (x < y)
theorem lZ (x y:Int)(xs ys:List Int):aI (x :: xs) (y :: ys)=if x=y then aI xs ys else decide (x < y):=rfl
theorem i4:aI [] []=false:=rfl
theorem iu (y:Int)(ys:List Int):aI [] (y :: ys)=true:=rfl
theorem ir (x:Int)(xs:List Int):aI (x :: xs) []=false:=rfl
theorem u3 (A:Around)(s:Shared)(a:Int)(t:Tok)(c:Int)(u:Tok):∃ e,SeqAt.EqAt A s (.int a t) (.int c u) e∧(e=true↔a=c):=
 ⟨(a == c),SeqAt.EqAt.int_int a t c u,by simp⟩
theorem wG (A:Around)(s:Shared)(a:Int)(t:Tok)(c:Int)(u:Tok)(prog:Program)(w:World)(E:Value→Shared→Prop)(Q:Value→Shared→Prop)(h:Q (.bool (decide (a < c))) s) :
  wpAny (model prog w) A (richCompare .Lt (.int a t) (.int c u)) Q E s:=
 (PyProof.Rows.lt_int h:wpAny (model prog w) A (compareOp .Lt (.int a t) (.int c u)) Q E s)
section
open PySem.SeqAt
open PySem.AutoSeq1 (wpAny_loadPart')
open PySem.MeetsSeq PySem.MeetsSeq2 PySem.MeetsSeq3
theorem mW (l b:Addr)(items items2:Array Value)(n n2:Nat)(dd dd2:Option Addr)(sl sl2:Array (Option Value))(ns ms:List Int)(hi:IntsAre items.toList ns)(hj:IntsAre items2.toList ms) :
  Meets (Builtin.«tuple.__lt__» ⟨[.ref l,.ref b],[]⟩)
   (fun _ R s=>s.heap.get? l=some { cls:= .type "tuple",dict:=dd,data:= .seq items n,slots:=sl }∧s.heap.get? b=some { cls:= .type "tuple",dict:=dd2,data:= .seq items2 n2,slots:=sl2 }∧
    R (.ok (.ret (.bool (aI ns ms)))) s):=
 .of_wp fun N w A R s h=>by
  obtain ⟨Z,g,d,G,X⟩:=s; obtain ⟨Y,v,h⟩:=h
  have f2:=AutoSeq1.sub_tuple_tuple
  have m:items.size=ns.length:=by rw [← hi.length]; simp
  have j:items2.size=ms.length:=by rw [← hj.length]; simp
  wp_walk using wpAny_loadPart' Y,wpAny_loadPart' v,wpAny_forIn_list _ (fun L b V=>b.1=none∧V=⟨Z,g,d,G,X⟩∧∃ (r U:List Value) (I J:List Int),L=r.zip U∧
   IntsAre r I∧IntsAre U J∧I.length+items2.size=J.length+items.size∧R (.ok (.ret (.bool (aI I J)))) ⟨Z,g,d,G,X⟩) _
  case turn=>
   rintro ⟨y,x⟩ L b V ⟨Q,rfl,r,U,I,J,D,P,K,H,M⟩
   cases P with
   | nil=>rw [List.zip_nil_left] at D; cases D
   | cons a t S=>
    cases K with
    | nil=>rw [List.zip_nil_right] at D; cases D
    | cons c u T=>
     rw [List.zip_cons_cons] at D
     injection D with hyx hrest
     injection hyx with hy hx
     subst hy hx
     rw [lZ] at M
     simp only [List.length_cons] at H
     obtain ⟨e,i,O⟩:=u3 A.in1 ⟨Z,g,d,G,X⟩ a t c u
     refine wpAny_bind (i N w _ _ ?_)
     cases e with
     | true=>
      rw [if_pos (O.mp rfl)] at M
      wp_walk
      exact (Dc rfl rfl _ _ _ _ hrest S T (by omega) M)
     | false=>
      rw [if_neg (fun q=>absurd (O.mpr q) Bool.false_ne_true)] at M
      have W:=wG A.in1 ⟨Z,g,d,G,X⟩ a t c u N w
      wp_walk using W
      exact ⟨_,rfl,by simpa using M⟩
  case fin=>
   rintro ⟨o,k⟩ V ⟨Q,rfl,r,U,I,J,D,P,K,H,M⟩
   simp only at Q
   subst Q
   have z:aI I J=decide (items.size < items2.size):=by
    cases P with
    | nil=>
     cases K with
     | nil=>
      simp only [List.length_nil] at H
      rw [i4]
      exact (decide_eq_false (by omega)).symm
     | cons c u f=>
      simp only [List.length_nil,List.length_cons] at H
      rw [iu]
      exact (decide_eq_true (by omega)).symm
    | cons a t z=>
     cases K with
     | nil=>
      simp only [List.length_nil,List.length_cons] at H
      rw [ir]
      exact (decide_eq_false (by omega)).symm
     | cons c u f=>
      rw [List.zip_cons_cons] at D
      cases D
   rw [z] at M
   wp_walk
   exact ⟨_,rfl,by simpa [Builtin.Tuple.tupleCompareSizes] using M⟩
  case h=>
   exact (Dc rfl rfl items.toList items2.toList ns ms rfl hi hj (by omega) h)
end
section
variable{prog:Program}{w:World}{A:Around}{E:Value→Shared→Prop}{s:Shared}
theorem rr {l b:Addr}{items items2:Array Value}{ns ms:List Int}{Q:Value→Shared→Prop}(hl:IsTup s.heap l items)(hb:IsTup s.heap b items2)(hi:IntsAre items.toList ns)(hj:IntsAre items2.toList ms)
  (hu:A.units < cLine) (h:Q (.bool (aI ns ms)) s):wpAny (model prog w) A (compareOp .Lt (.ref l) (.ref b)) Q E s:=by
 refine cps fun PP G=> ?_
 refine uK (id hl) fun a D k n H=> ?_; obtain ⟨q,o,j,R⟩:=a
 refine uK (id hb) fun d c e p Z=> ?_; obtain ⟨m,i,f,g⟩:=d
 refine G ?_; clear G PP
 simp only at k H e Z
 subst k H e Z
 exact richCompare_meets_room (op:= .Lt) ⟨_,D,rfl⟩ ⟨_,c,rfl⟩ PySem.F.slot_tuple_lt PySem.F.entry_tuple_lt (PySem.F.args_tuple_lt_2 _ _) (mW l b items items2 n p o i R g ns ms hi hj)
  ⟨D,c,show Value.bool (aI ns ms)≠Value.notImplemented∧Q (.bool (aI ns ms)) s from ⟨(fun x=>nomatch x),h⟩⟩ hu
noncomputable def cH (n d:Nat):Option Int→Nat
 | none=>d
 | some v=>if v < 0 then (v+(n:Int)).toNat else min v.toNat n
theorem yW (n d k:Nat):cH n d (some (k:Int))=min k n:=by
 show (if (k:Int) < 0 then ((k:Int)+(n:Int)).toNat else min (k:Int).toNat n)=min k n
 rw [if_neg (by omega),Int.toNat_natCast]
theorem BJ (n d:Nat)(hd:d≤n)(o:Option Int):cH n d o≤n:=by
 cases o with
 | none=>exact hd
 | some v=>
  show (if v < 0 then (v+(n:Int)).toNat else min v.toNat n)≤n
  by_cases z:v < 0
  ·rw [if_pos z]; omega
  ·rw [if_neg z]; exact Nat.min_le_right _ _
theorem sr (v:Int)(n d:Nat):(if v < 0 then max (v+(n:Int)) 0 else min v (n:Int))=((cH n d (some v):Nat):Int):=by
 show (if v < 0 then max (v+(n:Int)) 0 else min v (n:Int))=(((if v < 0 then (v+(n:Int)).toNat else min v.toNat n):Nat):Int)
 by_cases z:v < 0
 ·simp only [if_pos z]; omega
 ·simp only [if_neg z]; omega
theorem qW (lo hi:Option Int)(n:Nat):Builtin.Slice.sliceAdjust lo hi 1 (n:Int)=(((cH n 0 lo:Nat):Int),((cH n n hi:Nat):Int)):=by
 have a:¬ ((1:Int) < 0):=by omega
 unfold Builtin.Slice.sliceAdjust
 simp only [a,if_false]
 refine Prod.ext ?_ ?_
 ·cases lo with
  | none=>rfl
  | some v=>exact sr v n 0
 ·cases hi with
  | none=>rfl
  | some v=>exact sr v n n
theorem rP (i j:Nat):Builtin.Slice.slicePlaces (i:Int) (j:Int) 1=j - i:=by
 unfold Builtin.Slice.slicePlaces
 have a:(1:Int) > 0:=by omega
 simp only [a,if_true,Int.ediv_one]
 split <;> omega
theorem mz {v:Value}{o:Option Int}{Q:Option Int→Shared→Prop}(p:IsPart v o)(h:Q o s):wpAny (model prog w) A (Builtin.Slice.slicePartIndex v) Q E s:=by
 cases p with
 | none=>exact slicePart_none h
 | int i t=>exact slicePart_int h
theorem kx {sl:Addr}{vl vu:Value}{lo hi:Option Int}{n:Nat}{Q:Int×Int×Nat→Shared→Prop}(hs:s.heap.IsSliceOf sl vl vu .none)(pl:IsPart vl lo)(pu:IsPart vu hi)
  (h:Q (((cH n 0 lo:Nat):Int),1,cH n n hi - cH n 0 lo) s):wpAny (model prog w) A (Builtin.Slice.sliceApplied (.ref sl) (pure (n:Int))) Q E s:=by
 refine dr (id hs) fun X m p o=> ?_
 unfold Builtin.Slice.sliceApplied Builtin.Slice.sliceFields
 refine wpAny_bind (wpAny_bind (wpAny_field m o (x:=vl) rfl (wpAny_bind (wpAny_field m o (x:=vu) rfl (wpAny_bind (wpAny_field m o (x:= .none) rfl (wpAny_pure ?_)))))))
 refine wpAny_bind (slicePart_none ?_)
 show wpAny _ _ (if ((1:Int) == 0)=true then _ else _) _ _ s
 rw [if_neg (by decide)]
 refine wpAny_bind (mz pl (wpAny_bind (mz pu (wpAny_bind (wpAny_pure ?_)))))
 show wpAny _ _ (match Builtin.Slice.sliceAdjust lo hi 1 (n:Int) with | (lo,hi)=>pure (lo,(1:Int),Builtin.Slice.slicePlaces lo hi 1)) _ _ s
 rw [qW lo hi n]
 show wpAny _ _ (pure (((cH n 0 lo:Nat):Int),(1:Int),Builtin.Slice.slicePlaces ((cH n 0 lo:Nat):Int) ((cH n n hi:Nat):Int) 1)) _ _ s
 rw [rP]
 exact wpAny_pure h
theorem wm (xs:Array Value)(i k:Nat):((List.range k).filterMap fun (m:Nat)=>xs[((i:Int)+(m:Int) * 1).toNat]?).toArray=((xs.toList.drop i).take k).toArray:=by
 have e:(fun (m:Nat)=>xs[((i:Int)+(m:Int) * 1).toNat]?)=fun m=>xs[i+m]?:=by
  funext m
  have:((i:Int)+(m:Int) * 1).toNat=i+m:=by omega
  rw [this]
 rw [e]
 have:=pick_run xs i k
 rw [List.filterMap_map] at this
 have t:((fun x=>xs[x]?) ∘ fun x=>i+x)=fun m=>xs[i+m]?:=rfl
 rw [t] at this
 rw [this]
theorem jH {t sl:Addr}{items:Array Value}{vl vu:Value}{lo hi:Option Int}{Q:Value→Shared→Prop}(ht:IsTup s.heap t items)(hs:s.heap.IsSliceOf sl vl vu .none)(pl:IsPart vl lo)(pu:IsPart vu hi)
  (hw:¬ (cH items.size 0 lo=0∧cH items.size items.size hi=items.size))
  (h:Q (.ref s.heap.objs.size) { s with heap:=s.heap.push { cls:= .type "tuple",data:= .seq ((items.toList.drop (cH items.size 0 lo)).take (cH items.size items.size hi - cH items.size 0 lo)).toArray } })
  (hsz:items.size≤sizeLine):wpAny (model prog w) A (getItem (.ref t) (.ref sl)) Q E s:=by
 have p:sizeOk (.seq ((items.toList.drop (cH items.size 0 lo)).take (cH items.size items.size hi - cH items.size 0 lo)).toArray):=by
  show ((items.toList.drop (cH items.size 0 lo)).take (cH items.size items.size hi - cH items.size 0 lo)).toArray.size≤sizeLine
  rw [List.size_toArray,List.length_take,List.length_drop,Array.length_toList]
  omega
 have x:cH items.size items.size hi≤items.size:=BJ _ _ (Nat.le_refl _) hi
 refine dr (id hs) fun X n o v=> ?_
 have r:s.TypeIs (.ref sl) "slice" :=⟨X,n,o⟩
 unfold getItem
 try with_reducible refine wpAny_holding ?_
 first | refine wpAny_bind (wpAny_pure ?_) | skip
 refine wpAny_bind (wpAny_sequenceKey ht.typeIs (by decide) ?_)
 refine wpAny_bind (wpAny_callSpecial?_slot (name:=Str.ofString "__getitem__") ht.typeIs PyProof.Rows.slot_tuple_getitem
  (wpAny_call_entry PyProof.Rows.slot_tuple_getitem ht.typeIs entry_tuple_getitem ?_ (args_tuple_getitem _ _)))
 show wpAny _ _ (Builtin.Tuple.tupleItemsOf (.ref t) >>= _) _ _ s
 refine wpAny_bind (tupleItemsOf_ ht ?_)
 refine wpAny_bind (wpAny_typeOf r ?_)
 rw [if_pos (by decide)]
 refine wpAny_bind (kx hs pl pu ?_)
 have u:¬ ((((cH items.size 0 lo:Nat):Int) == 0 && (1:Int) == 1 && (cH items.size items.size hi - cH items.size 0 lo) == items.size)=true):=by
  intro q
  rw [Bool.and_eq_true,Bool.and_eq_true] at q
  have R:((cH items.size 0 lo:Nat):Int)=0:=eq_of_beq q.1.1
  have j:cH items.size items.size hi - cH items.size 0 lo=items.size:=eq_of_beq q.2
  exact hw ⟨by omega,by omega⟩
 show wpAny _ _ (if (((cH items.size 0 lo:Nat):Int) == 0 && (1:Int) == 1 && (cH items.size items.size hi - cH items.size 0 lo) == items.size)=true then _ else _) _ _ s
 rw [if_neg u,wm]
 first
  | exact wpAny_bind (m:=Builtin.Tuple.tupleExact _) (wpAny_newObj_type (wpAny_pure ⟨_,rfl,wpAny_pure h⟩) p)
  | exact wpAny_bind (m:=Builtin.Tuple.tupleExact _) (wpAny_newObj_type (wpAny_bind (wpAny_pure (wpAny_pure ⟨_,rfl,wpAny_pure h⟩))) p)
  | exact wpAny_bind (wpAny_bind (m:=Builtin.Tuple.tupleExact _) (wpAny_newObj_type (wpAny_pure (wpAny_pure ⟨_,rfl,wpAny_pure h⟩)) p))
  | exact wpAny_bind (wpAny_bind (m:=Builtin.Tuple.tupleExact _) (wpAny_newObj_type (wpAny_pure ⟨_,rfl,wpAny_pure h⟩) p))
end
end HT
namespace L2
open PySem PySem.Spec PyProof.Rows
noncomputable abbrev TO:=St→Hp→(Option Int→Hp→Prop)→Prop
noncomputable def PO (X:Cx)(e:Option Expr)(t:TO):Prop:=
 ∀ (pins:List (Addr×Obj)) (s:Shared) (σ:St) (H:Hp) (Q:Option Int→Hp→Prop),Inv X pins σ H s→t σ H Q→
  wpAny (model X.prog X.w) X.A (evalPart e X.env) (fun u s'=>∃ o H',Inv X pins σ H' s'∧IsPart u o∧Q o H') X.xe s
noncomputable def zc:TO:=fun _ H Q=>Q none H
noncomputable def Ef (t:TE):TO:=fun σ H Q=>t σ H fun x H1=>∃ i,x= .int i∧Q (some i) H1
theorem gF {ns:List Int}:∀ {us:List Value},Vals (ns.map V.int) us→IntsAre us ns:=by
 induction ns with
 | nil=>intro us r; rw [List.map_nil] at r; cases r; exact .nil
 | cons n ns s=>
  intro us r
  rw [List.map_cons] at r
  cases r with
  | cons T k=>
   obtain ⟨t,e⟩:=T
   subst e
   exact .cons n t (s k)
section
variable{X:Cx}{e:Expr}{te:TE}{lo hi:Option Expr}{tl th:TO}{pos p2:Pos}
theorem yM:PO X none zc:=by
 intro A s B H Q I h
 rw [evalPart_none]
 exact wpAny_pure (dL none H I .none h)
theorem yN (h:PE X e te):PO X (some e) (Ef te):=by
 intro A s B H Q I b
 rw [evalPart_some]
 refine aO (h A s B H _ I b) fun u N v=> ?_
 refine cps fun PP G=> ?_
 obtain ⟨x,S,R,T,U⟩:=v
 obtain ⟨i,rfl,q⟩:=U
 obtain ⟨t,rfl⟩:=T
 refine G ?_; clear G PP
 exact (dL (some i) S R (.int i t) q)
noncomputable def SlR (X:Cx)(r:V→Option Int→Option Int→Hp→VK→Prop):Prop:=
 ∀ (pins:List (Addr×Obj)) (s:Shared) (σ:St) (H:Hp) (x:V) (v vl vu:Value) (lo hi:Option Int) (sl:Addr) (Q:VK),Inv X pins σ H s→RelV x v→s.heap.IsSliceOf sl vl vu .none→IsPart vl lo→IsPart vu hi→r x lo hi H Q→
  ∃ T id,typeLookup (.type T) "__getitem__" =pure (some (.builtin id))∧s.TypeIs v T∧wpAny (model X.prog X.w) X.A (getItem v (.ref sl)) (EP X pins σ Q) X.xe s
theorem SlR.or {r r':V→Option Int→Option Int→Hp→VK→Prop}(h:SlR X r)(h':SlR X r'):SlR X (fun x lo hi H Q=>r x lo hi H Q∨r' x lo hi H Q):=by
 intro A s B H x v z u lo hi R Q I w L t y q
 rcases q with q | q
 ·exact h A s B H x v z u lo hi R Q I w L t y q
 ·exact h' A s B H x v z u lo hi R Q I w L t y q
noncomputable def F_ (r:V→Option Int→Option Int→Hp→VK→Prop)(te:TE)(tl th:TO):TE:=fun σ H Q=>te σ H fun x H1=>tl σ H1 fun l H2=>th σ H2 fun u H3=>r x l u H3 Q
theorem wg {r:V→Option Int→Option Int→Hp→VK→Prop}(hr:SlR X r)(he:PE X e te)(hl:PO X lo tl)(hu:PO X hi th):PE X (.Subscript e (.Slice lo hi none p2) pos) (F_ r te tl th):=by
 intro B s C H Q I h
 refine Subscript_ (aO (he B s C H _ I h) fun v N y=> ?_)
 obtain ⟨x,S,R,U,W⟩:=y
 refine wpAny_Slice (aO (hl B N C S _ R W) fun vl s2 ⟨l,i,p,E,j⟩=>aO (hu B s2 C i _ p j) fun D t z=> ?_)
 obtain ⟨u,n,o,G,m⟩:=z
 rw [evalPart_none]
 refine wpAny_pure ?_
 have K:Inv X B C n { t with heap:=t.heap.push { cls:= .type "slice",data:= .fields #[vl,D,.none] } }:=o.kept (t':=t.toks) fun b k q=>Heap.get?_push_of_some _ q
 refine bL (hr B { t with heap:=t.heap.push { cls:= .type "slice",data:= .fields #[vl,D,.none] } } C n x v vl D l u t.heap.objs.size Q K U (Heap.IsSliceOf.new ..) E G m) fun T L J f F=> ?_
 show wpAny (model X.prog X.w) X.A (subscriptTail e (.Slice lo hi none p2) v (.ref t.heap.objs.size)) (EP X B C Q) X.xe { t with heap:=t.heap.push { cls:= .type "slice",data:= .fields #[vl,D,.none] } }
 exact tail_any (ops:=[.ref t.heap.objs.size,v]) f J F (by with_unfolding_all rfl)
noncomputable def pI (xs:List V)(lo hi:Option Int):List V:=(xs.drop (HT.cH xs.length 0 lo)).take (HT.cH xs.length xs.length hi - HT.cH xs.length 0 lo)
theorem kE (xs:List V)(lo hi:Option Int):(pI xs lo hi).length≤xs.length:=by
 unfold pI
 rw [List.length_take,List.length_drop]
 omega
noncomputable def Fi (K:W.Frag):V→Option Int→Option Int→Hp→VK→Prop:=fun x lo hi H Q=>∃ a xs,x= .ref a∧lj K H a xs∧
 ¬ (HT.cH xs.length 0 lo=0∧HT.cH xs.length xs.length hi=xs.length)∧∀ p,H p=none→Q (.ref p) (bu H p (.tup (pI xs lo hi)))
theorem BL:SlR X (Fi X.K):=by
 intro A s E H x v z u e g R Q I y L t w h
 refine mH (h) fun a d C B c q=> ?_; subst C
 cases y
 refine dr (I.tuple B) fun m r f D=> ?_
 have J:m.toArray.size=d.length:=by rw [List.size_toArray]; exact r.length.symm
 refine (dL "tuple" _ PyProof.Rows.slot_tuple_getitem.lookup f.typeIs ?_)
 refine HT.jH f L t w (by rw [J]; exact c) ?_ (by rw [J]; exact D)
 rw [J]
 refine ⟨.ref s.heap.objs.size,_,I.laid (t':=s.toks) (o:= .tup (pI d e g)) (fun b i q=>Heap.get?_push_of_some _ q) (Nat.le_refl _) ?_,rfl,q _ (I.hok.fresh (Nat.le_refl _))⟩
 exact (lS (Nat.le_trans (kE d e g) D) _ ((r.drop (HT.cH d.length 0 e)).take (HT.cH d.length d.length g - HT.cH d.length 0 e)) (IsTup.new _ _))
end
noncomputable def iT (n:Nat)(i:Int):Option Nat:=if 0≤i then (if i < n then some i.toNat else none) else if -(n:Int)≤i then some (i+n).toNat else none
noncomputable def atI {α:Type}(xs:List α)(i:Int):Option α:=(iT xs.length i).bind fun j=>xs[j]?
theorem dM {n:Nat}{i:Int}{j:Nat}(h:iT n i=some j):seqIndex? i n=some j∧j < n∧ -(n:Int)≤i∧i < n:=by
 unfold iT at h
 by_cases D:0≤i
 ·rw [if_pos D] at h
  by_cases a:i < n
  ·rw [if_pos a] at h
   have e:i.toNat=j:=Option.some.inj h
   exact (lT (by rw [seqIndex_of D a,e]) (by omega) (by omega) a)
  ·rw [if_neg a] at h; cases h
 ·rw [if_neg D] at h
  by_cases a: -(n:Int)≤i
  ·rw [if_pos a] at h
   have e:(i+n).toNat=j:=Option.some.inj h
   exact (lT (by rw [seqIndex_neg (by omega) a,e]) (by omega) a (by omega))
  ·rw [if_neg a] at h; cases h
theorem oh {α:Type}{xs:List α}{i:Int}{v:α}(h:atI xs i=some v):∃ j,seqIndex? i xs.length=some j∧xs[j]?=some v∧j < xs.length∧ -(xs.length:Int)≤i∧i < xs.length:=by
 unfold atI at h
 cases e:iT xs.length i with
 | none=>rw [e] at h; cases h
 | some j=>
  rw [e] at h
  refine lf (dM e) fun a b A E=> ?_
  exact (yk j a h b A E)
theorem sk {α:Type}{xs:List α}{j:Nat}{v:α}(h:xs[j]?=some v):atI xs (j:Int)=some v:=by
 have n:j < xs.length:=(dZ h).1
 have e:iT xs.length (j:Int)=some j:=by
  unfold iT
  rw [if_pos (by omega),if_pos (by omega)]; simp
 unfold atI; rw [e]; exact h
theorem pD {α:Type}(xs:List α)(v:α):atI (xs ++ [v]) (-1)=some v:=by
 have N:(xs ++ [v]).length=xs.length+1:=by simp
 have e:iT (xs ++ [v]).length (-1)=some xs.length:=by
  unfold iT
  rw [N,if_neg (by decide),if_pos (by omega)]
  congr 1
  omega
 unfold atI
 rw [e]
 show (xs ++ [v])[xs.length]?=some v
 simp
noncomputable def gr (b:Expr):Prop:=∀ o i,subscripted b false o i=operate [o,i] (getItem o i)
noncomputable def IxR (X:Cx)(r:R2):Prop:=
 ∀ (value slice:Expr) (pins:List (Addr×Obj)) (s:Shared) (σ:St) (H:Hp) (x y:V) (v u:Value) (Q:VK),Inv X pins σ H s→RelV x v→RelV y u→r x y H Q→
  subscripted slice false v u=operate [v,u] (getItem v u)→wpAny (model X.prog X.w) X.A (subscriptTail value slice v u) (EP X pins σ Q) X.xe s
noncomputable def xf (X:Cx)(id:String)(r:V→List V→Hp→VK→Prop):Prop:=
 ∀ (pins:List (Addr×Obj)) (s:Shared) (σ:St) (H:Hp) (x:V) (xs:List V) (v:Value) (us:List Value) (Q:VK),Inv X pins σ H s→RelV x v→Vals xs us→r x xs H Q→
  wpAny (model X.prog X.w) X.A (call (.builtin id) (v :: us)) (EP X pins σ Q) X.xe s
section
variable{X:Cx}{a b:Expr}{ta tb:TE}{pos:Pos}
theorem IxR.or {r r':R2}(h:IxR X r)(h':IxR X r'):IxR X (fun x y H Q=>r x y H Q∨r' x y H Q):=by
 intro G F A s B H x y v u Q I w z q L
 rcases q with q | q
 ·exact h G F A s B H x y v u Q I w z q L
 ·exact h' G F A s B H x y v u Q I w z q L
theorem nP {r:R2}(hr:IxR X r)(ha:PE X a ta)(hb:PE X b tb)(hs:gr b):PE X (.Subscript a b pos) (FS r ta tb):=by
 intro A s B H Q I h
 exact Subscript_ (EJ ha hb I h fun v u o x y i p w z q=>hr a b A o B i x y v u Q p w z q (hs _ _))
noncomputable def DX (K:W.Frag):R2:=fun x y H Q=>∃ p xs i v,x= .ref p∧y= .int i∧fR K H p xs∧atI xs i=some v∧Q v H
noncomputable def DZ (K:W.Frag):R2:=fun x y H Q=>∃ p xs i v,x= .ref p∧y= .int i∧lj K H p xs∧atI xs i=some v∧Q v H
noncomputable def DY:R2:=fun x y H Q=>∃ z i c,x= .str z∧y= .int i∧z.length≤sizeLine∧atI z.cps.toList i=some c∧Q (.str ⟨#[c]⟩) H
theorem ix_list:IxR X (DX X.K):=by
 intro G F A s D H x y v u Q I U S h O
 refine BX (h) fun p e i z L J d c q=> ?_; subst L; subst J
 cases U
 refine cps fun PP N=> ?_
 obtain ⟨t,rfl⟩:=S
 refine dr (I.list d) fun m r C Y=> ?_
 refine qL (oh c) fun j a b f T W=> ?_
 obtain ⟨w,P,M⟩:=r.get b
 refine N ?_; clear N PP
 have R:=r.length
 have Z:=l0
 have B:EP X A D Q w s:=⟨z,H,I,M,q⟩
 by_cases E:0≤i
 ·have n:i.toNat=j:=by
   rw [seqIndex_of E W] at a
   exact Option.some.inj a
  exact item_listR C.isList E (by omega) (by rw [n]; simpa using P) B O
 ·have n:(i+(m.toArray.size:Int)).toNat=j:=by
   rw [seqIndex_neg (by omega) T] at a
   rw [List.size_toArray,← R]
   exact Option.some.inj a
  exact subscriptTail_builtinR (x:=w) C.isList.typeIs slot_list_getitem.lookup
   (wpAny_getItem_list_neg (Q:=fun r V=>r=w∧EP X A D Q r V) C.isList (by omega) (by rw [List.size_toArray] <;> omega) (by omega) (by rw [n]; simpa using P) ⟨rfl,B⟩) O
theorem ix_tup:IxR X (DZ X.K):=by
 intro G F A s D H x y v u Q I R E h O
 refine BX (h) fun p e i z M N d c q=> ?_; subst M; subst N
 cases R
 refine cps fun PP L=> ?_
 obtain ⟨t,rfl⟩:=E
 refine dr (I.tuple d) fun m r C T=> ?_
 refine qL (oh c) fun j a b W Y Z=> ?_
 obtain ⟨w,S,J⟩:=r.get b
 refine L ?_; clear L PP
 have P:=r.length
 have U:=l0
 have B:EP X A D Q w s:=⟨z,H,I,J,q⟩
 exact subscriptTail_builtinR (x:=w) C.typeIs slot_tuple_getitem.lookup
  (getItem_tuple (j:=j) (Q:=fun r V=>r=w∧EP X A D Q r V) C (by omega) (by omega) (by rw [List.size_toArray,← P]; exact a) (by simpa using S) ⟨rfl,B⟩) O
theorem AO:IxR X DY:=by
 intro G F A s U H x y v u Q I C B h L
 refine cps fun PP J=> ?_
 refine ju (h) fun z i c P O D d q=> ?_; subst P; subst O
 obtain ⟨t,rfl⟩:=C
 obtain ⟨R,rfl⟩:=B
 refine qL (oh d) fun j a b S E M=> ?_
 refine J ?_; clear J PP
 have N:z.cps.toList.length=z.length:=by simp [Str.length]
 rw [N] at a E M
 have K:=l0
 exact tail_any (typeIs_str s z t) slot_str_getitem.lookup (getItem_str (c:=c) (by
  have T:decide (i < -(2 ^ 63:Int))=false:=decide_eq_false (by omega)
  have w:decide (i ≥ 2 ^ 63)=false:=decide_eq_false (by omega)
  rw [T,w,Bool.or_false]) (by rw [a]; simpa using b) ⟨.str ⟨#[c]⟩,H,I.tok _,⟨_,rfl⟩,q⟩) L
noncomputable def FY (K:W.Frag):R2:=fun x y H Q=>DX K x y H Q∨DZ K x y H Q∨DY x y H Q
theorem AN:IxR X (FY X.K):=ix_list.or (ix_tup.or AO)
theorem rD (its:List Value)(n j:Nat)(u:Value):Obj.mapSeq (·.setIfInBounds j u) { cls:= .type "list",data:= .seq its.toArray n }={ cls:= .type "list",data:= .seq (its.set j u).toArray n }:=by
 simp [Obj.mapSeq]
theorem Inv.lst {pins:List (Addr×Obj)}{σ:St}{H:Hp}{s:Shared}{p:Addr}{xs:List V}(I:Inv X pins σ H s)(h:H p=some (.lst xs)) :
  ∃ (its:List Value) (n:Nat),Vals xs its∧s.heap.get? p=some { cls:= .type "list",data:= .seq its.toArray n }∧xs.length≤sizeLine:=by
 refine uI (I.hok p _ h) fun z its n r e=> ?_
 exact (dL its n r e z)
theorem Inv.lstUpd {pins:List (Addr×Obj)}{σ:St}{H:Hp}{s:Shared}{p:Addr}{xs ys:List V}{its its':List Value}{n n':Nat}{f:Obj→Obj}(I:Inv X pins σ H s)(h:H p=some (.lst xs))
  (ho:s.heap.get? p=some { cls:= .type "list",data:= .seq its.toArray n }) (hf:f { cls:= .type "list",data:= .seq its.toArray n }={ cls:= .type "list",data:= .seq its'.toArray n' }) (r:Vals ys its') (hz:ys.length≤sizeLine) (t:Nat) :
  Inv X pins σ (bu H p (.lst ys)) { s with heap:=s.heap.update p f,toks:=t }:=by
 have e:(s.heap.update p f).get? p=some { cls:= .type "list",data:= .seq its'.toArray n' }:=by
  rw [Heap.get?_update_self f ho (by rw [hf] <;> rfl),hf]
 refine I.write (x:=p) (e:=p) (by rw [h]; trivial) (.inl rfl) (fun b u v q=>(Heap.get?_update_other _ _ (Ne.symm v)).trans q) ⟨_,e⟩ ?_
 exact (lQ hz its' n' r e)
noncomputable def D_:V→V→V→Hp→(Hp→Prop)→Prop:=fun o i v H Q=>∃ p xs k j,o= .ref p∧i= .int k∧H p=some (.lst xs)∧iT xs.length k=some j∧Q (bu H p (.lst (xs.set j v)))
theorem qF:Cf X D_:=by
 intro A s C H o i v l U u Q I ro T c h
 refine BX (h) fun p d k j R S Z w q=> ?_; subst R; subst S
 cases ro
 obtain ⟨t,rfl⟩:=T
 refine bL (I.lst Z) fun m n r D G=> ?_
 refine lf (dM w) fun a b B E=> ?_
 have N:=r.length
 have x:=l0
 have I':Inv X A C (bu H p (.lst (d.set j v))) { s with heap:=s.heap.update p (Obj.mapSeq (·.setIfInBounds j u)) }:=
  I.lstUpd Z D (rD m n j u) (r.set c j) (by rw [List.length_set]; exact G) s.toks
 by_cases F:0≤k
 ·have O:k.toNat=j:=by
   rw [seqIndex_of F E] at a
   exact Option.some.inj a
  exact W.ki_setAt D F (by omega) (by rw [List.size_toArray,← N]; exact E) (by rw [O]; exact ⟨_,I',q⟩)
 ·have O:(k+(m.toArray.size:Int)).toNat=j:=by
   rw [seqIndex_neg (by omega) B] at a
   rw [List.size_toArray,← N]
   exact Option.some.inj a
  exact W.ki_setBack D (by omega) (by rw [List.size_toArray,← N]; exact B) (by omega) (by rw [O]; exact ⟨_,I',q⟩)
theorem pb (lo hi:Option Int)(n:Nat):(sliceBounds lo hi none n).1=((HT.cH n 0 lo:Nat):Int)∧(sliceBounds lo hi none n).2.1=((HT.cH n n hi:Nat):Int)∧(sliceBounds lo hi none n).2.2=1:=by
 refine ⟨?_,?_,rfl⟩
 ·cases lo with
  | none=>simp [sliceBounds,HT.cH]
  | some i=>
   simp only [sliceBounds,HT.cH,Option.getD_none,show (1:Int) > 0 by decide,if_true]
   by_cases h:i < 0
   ·simp only [h,if_true] <;> omega
   ·simp only [h,if_false] <;> omega
 ·cases hi with
  | none=>simp [sliceBounds,HT.cH]
  | some i=>
   simp only [sliceBounds,HT.cH,Option.getD_none,show (1:Int) > 0 by decide,if_true]
   by_cases h:i < 0
   ·simp only [h,if_true] <;> omega
   ·simp only [h,if_false] <;> omega
theorem mV (its:List Value)(lo hi:Option Int):slicePick its.toArray lo hi none=((its.drop (HT.cH its.length 0 lo)).take (HT.cH its.length its.length hi - HT.cH its.length 0 lo)).toArray:=by
 obtain ⟨a,b,A⟩:=pb lo hi its.toArray.size
 unfold slicePick
 rw [a,b,A]
 simp only [sliceRange_one,pick_run,List.size_toArray] <;> rfl
noncomputable def Fg (K:W.Frag):V→Option Int→Option Int→Hp→VK→Prop:=fun x lo hi H Q=>∃ a xs,x= .ref a∧fR K H a xs∧∀ p,H p=none→Q (.ref p) (bu H p (.lst (pI xs lo hi)))
theorem sl_list:SlR X (Fg X.K):=by
 intro A s C H x v z u e g R Q I y L t w h
 refine bL (h) fun a d U B q=> ?_; subst U
 cases y
 refine dr (I.list B) fun m r f D=> ?_
 have J:=r.length
 refine (dL "list" _ slot_list_getitem.lookup f.isList.typeIs ?_)
 refine wpAny_getItem_list_slice f.isList L t w .none (by simp) ?_ (by rw [List.size_toArray] <;> omega)
 rw [mV,← J]
 refine ⟨.ref s.heap.objs.size,_,I.laid (t':=s.toks) (o:= .lst (pI d e g)) (fun b i q=>Heap.get?_push_of_some _ q) (Nat.le_refl _) ?_,rfl,q _ (I.hok.fresh (Nat.le_refl _))⟩
 exact (lQ (Nat.le_trans (kE d e g) D) _ 0 ((r.drop (HT.cH d.length 0 e)).take (HT.cH d.length d.length g - HT.cH d.length 0 e)) (Heap.get?_push_size _ rfl))
theorem ol:d8 X (.builtin "len") (fun xs H Q=>∃ p ys,xs=[.ref p]∧(fR X.K H p ys∨lj X.K H p ys)∧Q (.int ys.length) H):=by
 intro A s B H xs W Q I r h
 refine cps fun PP G=> ?_
 refine bL (h) fun p ys V hq q=> ?_; subst V
 obtain ⟨u,rfl,w⟩:=jW r
 refine G ?_; clear G PP
 cases w
 have v:=l0
 rcases hq with hq | hq
 ·refine dr (I.list hq) fun m g t D=> ?_
  have J:=g.length
  exact Calls.call_len_list t.isList (by simp only [List.size_toArray] <;> omega) ⟨.int ys.length,H,I.tok _,⟨s.toks+1,by rw [List.size_toArray,J]⟩,q⟩
 ·refine dr (I.tuple hq) fun m g t D=> ?_
  have J:=g.length
  exact len_tuple t (by simp only [List.size_toArray] <;> omega) ⟨.int ys.length,H,I.tok _,⟨s.toks+1,by rw [List.size_toArray,J]⟩,q⟩
theorem jx:d8 X (.type "list") (fun xs H Q=>∃ p ys,xs=[.ref p]∧(fR X.K H p ys∨lj X.K H p ys)∧∀ l,H l=none→Q (.ref l) (bu H l (.lst ys))):=by
 intro A s B H xs Y Q I r h
 refine cps fun PP G=> ?_
 refine bL (h) fun p ys W hq q=> ?_; subst W
 obtain ⟨u,rfl,y⟩:=jW r
 refine G ?_; clear G PP
 cases y
 have z:∀ (m:List Value),Vals ys m→ys.length≤sizeLine→∀ (t:Heap) (v:Nat),(∀ b o',s.heap.get? b=some o'→t.get? b=some o')→
   t.get? s.heap.objs.size=some { cls:= .type "list",dict:=none,data:= .seq m.toArray v,slots:= #[] }→EP X A B Q (.ref s.heap.objs.size) { s with heap:=t }:=fun m g D t v kp e=>
  ⟨.ref s.heap.objs.size,_,I.laid (t':=s.toks) kp (Nat.le_refl _) (show ObjOk X.prog X.w _ t _ (.lst ys) from (lQ D m v g e)),rfl,q _ (I.hok.fresh (Nat.le_refl _))⟩
 rcases hq with hq | hq
 ·refine dr (I.list hq) fun m g x D=> ?_
  have J:=g.length
  refine uK (x.isList) fun o E a n L=> ?_
  exact call_list_seq p (.inl rfl) E a L (fun t v kp e=>z m g D t v kp e) (by simp only [List.size_toArray] <;> omega)
 ·refine dr (I.tuple hq) fun m g x D=> ?_
  have J:=g.length
  refine uK (x) fun o E a n L=> ?_
  exact call_list_seq p (.inr rfl) E a L (fun t v kp e=>z m g D t v kp e) (by simp only [List.size_toArray] <;> omega)
theorem mI:d8 X (.type "tuple") (fun xs H Q=>∃ p ys,xs=[.ref p]∧((fR X.K H p ys∧∀ l,H l=none→Q (.ref l) (bu H l (.tup ys)))∨(lj X.K H p ys∧Q (.ref p) H))):=by
 intro A s B H xs W Q I r h
 refine cps fun PP G=> ?_
 obtain ⟨p,ys,rfl,h⟩:=h
 obtain ⟨u,rfl,x⟩:=jW r
 refine G ?_; clear G PP
 cases x
 rcases h with ⟨d,q⟩ | ⟨d,q⟩
 ·obtain ⟨m,g,v,D⟩:=I.list d
  have J:=g.length
  refine call_tuple_list v.isList (fun t kp=> ?_) (by simp only [List.size_toArray] <;> omega)
  have R:Inv X A B H { s with heap:=t }:=I.kept (t':=s.toks) kp
  have y:Inv X A B (bu H t.objs.size (.tup ys)) { s with heap:=t.push { cls:= .type "tuple",data:= .seq m.toArray } }:=
   R.laid (t':=s.toks) (fun b o e=>Heap.get?_push_of_some _ e) (Nat.le_refl _) (show ObjOk X.prog X.w _ _ _ (.tup ys) from ⟨D,m,g,IsTup.new _ _⟩)
  exact ⟨.ref t.objs.size,_,y,rfl,q _ (R.hok.fresh (Nat.le_refl _))⟩
 ·obtain ⟨m,g,v,D⟩:=I.tuple d
  exact call_tuple_same v ⟨.ref p,H,I,rfl,q⟩
noncomputable def FU (K:W.Frag)(T:String)(x:V)(H:Hp):Prop:=match x with
 | .str _=>T= "str"
 | .int _=>T= "int"
 | .ref p=>(T= "list" ∧∃ xs,fR K H p xs)∨(T= "tuple" ∧∃ o,K.lookup p=some o∧o.cls= .type "tuple" ∧o.dict=none)∨
   (T= "dict" ∧((∃ kvs,H p=some (.dK kvs))∨∃ kvs,H p=some (.dT kvs)))∨(T= "set" ∧∃ S n,H p=some (.set S n))
 | _=>False
theorem BS {pins:List (Addr×Obj)}{σ:St}{H:Hp}{s:Shared}{T:String}{x:V}{v:Value}(I:Inv X pins σ H s)(r:RelV x v)(ty:FU X.K T x H) :
  s.TypeIs v T∧∀ a,v= .ref a→∃ ob,s.heap.get? a=some ob∧ob.dict=none:=by
 cases x with
 | str z=>
  obtain ⟨t,rfl⟩:=r
  cases (show T= "str" from ty)
  exact ⟨typeIs_str s z t,fun _ e=>nomatch e⟩
 | int i=>
  obtain ⟨t,rfl⟩:=r
  cases (show T= "int" from ty)
  exact ⟨typeIs_int s i t,fun _ e=>nomatch e⟩
 | ref p=>
  cases r
  rcases ty with ⟨rfl,h,g⟩ | ⟨rfl,o,O,b,J⟩ | ⟨rfl,O⟩ | ⟨rfl,S,n,O⟩
  ·refine dr (I.list g) fun m _ w _=> ?_
   refine ⟨w.isList.typeIs,fun a e=> ?_⟩
   cases e
   refine mH (w) fun o n e c J _=> ?_
   exact ⟨o,e,J⟩
  ·refine ⟨⟨o,I.kIn p o O,b⟩,fun a e=> ?_⟩
   cases e
   exact ⟨o,I.kIn _ o O,J⟩
  ·have z:∃ o,s.heap.get? p=some o∧o.ExactDict:=by
    rcases O with ⟨d,O⟩ | ⟨d,O⟩
    ·refine Ei (I.hok p _ O) fun _ _ _ _ o _ _ e f _=> ?_
     exact ⟨o,e,f⟩
    ·refine Ei (I.hok p _ O) fun _ _ _ _ o _ _ e f _=> ?_
     exact ⟨o,e,f⟩
   obtain ⟨o,e,f⟩:=z
   refine ⟨⟨o,e,f.1⟩,fun a u=> ?_⟩
   cases u
   exact ⟨o,e,f.2.1⟩
  ·refine Fy (I.hok p _ O) fun o _ _ _ e f _=> ?_
   refine ⟨⟨o,e,f.1⟩,fun a u=> ?_⟩
   cases u
   exact ⟨o,e,f.2.1⟩
 | _=>exact False.elim ty
noncomputable def FZ (K:W.Frag)(T:String)(r:V→List V→Hp→VK→Prop)(to:TE)(t:TA):TE:=fun σ H Q=>to σ H fun x H1=>FU K T x H1∧t σ H1 fun xs H2=>r x xs H2 Q
variable{o e:Expr}{es:List Expr}{to:TE}{t:TA}{name:Str}{apos cpos:Pos}{T id:String}{r:V→List V→Hp→VK→Prop}
theorem kO (pa:PlainAttrs T)(slot:Slot T name id)(hty:typeOf (.builtin id)=pure (.type "method_descriptor"))(hm:xf X id r)(ho:PE X o to)(ha:PA X (e :: es) t)
  (hbase:attributeBase o name X.env (eval o X.env)=eval o X.env:=by rfl)
  (hfew:((backTo cpos (starEach (e :: es) X.env)).all (fun x=> !x.1) && (backToKw cpos (keywordEach [] X.env)).all (fun x=>x.1.isSome)
   && decide ((e :: es).length+([]:List Keyword).length+(if ([]:List Keyword).isEmpty then 0 else 1) < 30))=true:=by rfl)
  (hline:(apos.endLine == cpos.line)=true:=by rfl) (hs:starEach (e :: es) X.env=(false,eval e X.env) :: starEach es X.env:=by rfl) (hplain:(backTo cpos (starEach es X.env)).any (·.1)=false:=by rfl) :
  PE X (.Call (.Attribute o name apos) (e :: es) [] cpos) (FZ X.K T r to t):=by
 intro A s B H Q I h
 refine wpAny_Call_method_late hbase hfew hline rfl (aO (ho A s B H _ I h) fun v N Y=> ?_)
 refine cps fun PP G=> ?_
 obtain ⟨x,S,R,U,b,V⟩:=Y
 obtain ⟨c,d⟩:=BS R U b
 refine G ?_; clear G PP
 refine (ET T id pa slot hty c d ?_)
 have a:=ha cpos A N B S _ R V
 rw [hs] at a ⊢
 refine Calls.callWith_builtin (by show (false || (backTo cpos (starEach es X.env)).any (·.1))=false; rw [hplain] <;> rfl) (Calls.evalArgs_plain ?_)
 exact aO a fun W p Z=>(by obtain ⟨u,i,q,k,j⟩:=Z; exact hm A p B i x u v W Q q U k j)
end
noncomputable def FL (X:Cx)(id:String)(r:V→List V→Hp→VK→Prop):Prop:=
 ∀ (pins:List (Addr×Obj)) (s:Shared) (σ:St) (H:Hp) (x:V) (xs:List V) (v:Value) (us:List Value) (Q:VK),Inv X pins σ H s→RelV x v→Vals xs us→r x xs H Q→
  wpAny (model X.prog X.w) X.A (call (.builtin id) (v :: us)) (EP X pins σ Q) X.xe s
theorem Vals.one:∀ {x:V} {us:List Value},Vals [x] us→∃ u,us=[u]∧RelV x u
 | _,_,.cons r .nil=>⟨_,rfl,r⟩
theorem Vals.eraseIdx:∀ {xs:List V} {us:List Value} (i:Nat),Vals xs us→Vals (xs.eraseIdx i) (us.eraseIdx i)
 | _,_,_,.nil=> .nil
 | _,_,0,.cons _ t=>t
 | _,_,i+1,.cons r t=> .cons r (Vals.eraseIdx i t)
theorem Vals.rep {xs:List V}{us:List Value}(h:Vals xs us):∀ k:Nat,Vals (List.replicate k xs).flatten (List.replicate k us).flatten
 | 0=> .nil
 | k+1=>by
  rw [List.replicate_succ,List.replicate_succ,List.flatten_cons,List.flatten_cons]
  exact Vals.append h (Vals.rep h k)
theorem nz {α:Type}:∀ (l:List α) (i:Nat),(l.eraseIdx i).length≤l.length
 | [],_=>Nat.le_refl _
 | _ :: _,0=>Nat.le_succ _
 | _ :: r,i+1=>Nat.succ_le_succ (nz r i)
theorem nq (its:List Value):∀ (k:Nat) (acc:List Value),
  List.foldl (fun x1 x2=>x1 ++ x2) acc.toArray (List.replicate k its.toArray)=(acc ++ (List.replicate k its).flatten).toArray
 | 0,acc=>by simp
 | k+1,acc=>by
  have e:acc.toArray ++ its.toArray=(acc ++ its).toArray:=by simp
  have t:(acc ++ its) ++ (List.replicate k its).flatten=acc ++ (List.replicate (k+1) its).flatten:=by
   rw [List.replicate_succ,List.flatten_cons,List.append_assoc]
  rw [← t,← nq its k (acc ++ its),← e,List.replicate_succ,List.foldl_cons]
section
variable{X:Cx}{pins:List (Addr×Obj)}{σ:St}{H:Hp}{s:Shared}{l b:Addr}{xs ys zs:List V}
theorem Inv.lset {its its':List Value}{n:Nat}{f:Array Value→Array Value}{t':Nat}(I:Inv X pins σ H s)(hH:H l=some (.lst xs))
  (e:s.heap.get? l=some { cls:= .type "list",data:= .seq its.toArray n }) (hf:f its.toArray=its'.toArray) (hv:Vals ys its') (hz:ys.length≤sizeLine) :
  Inv X pins σ (bu H l (.lst ys)) { s with heap:=s.heap.update l (Obj.mapSeq f),toks:=t' }:=by
 have q:=PySem.IsL.update e f
 rw [hf] at q
 refine I.write (x:=l) (e:=l) (by rw [hH]; exact trivial) (.inl rfl) (fun b u v E=>(Heap.get?_update_other s.heap (Obj.mapSeq f) (Ne.symm v)).trans E) ⟨_,q⟩ ?_
 exact (lQ hz its' _ hv q)
theorem Inv.lnew {its:List Value}{t':Nat}(I:Inv X pins σ H s)(hv:Vals ys its)(hz:ys.length≤sizeLine) :
  Inv X pins σ (bu H s.heap.objs.size (.lst ys)) { s with heap:=s.heap.push { cls:= .type "list",data:= .seq its.toArray },toks:=t' }:=
 I.laid (fun _ _ q=>Heap.get?_push_of_some _ q) (Nat.le_refl _) (lQ hz its 0 hv (Heap.get?_push_size _ rfl))
theorem Inv.fresh (I:Inv X pins σ H s):H s.heap.objs.size=none:=I.hok.fresh (Nat.le_refl _)
theorem Inv.lstM (I:Inv X pins σ H s)(hH:H l=some (.lst xs)):xs.length≤sizeLine∧∃ (its:List Value) (n:Nat),Vals xs its∧xs.length=its.length∧s.heap.get? l=some { cls:= .type "list",data:= .seq its.toArray n }:=by
 refine uI (I.hok l _ hH) fun z its n r e=> ?_
 exact (De z its n r r.length e)
theorem vT {n:Nat}(h:n≤sizeLine):Builtin.List.listTooLong n=false:=by
 unfold Builtin.List.listTooLong
 exact decide_eq_false (by omega)
end
section
variable{X:Cx}
noncomputable def dk:V→List V→Hp→VK→Prop:=fun x vs H Q=>∃ l xs y,x= .ref l∧vs=[y]∧H l=some (.lst xs)∧xs.length < sizeLine∧Q .non (bu H l (.lst (xs ++ [y])))
theorem fX:FL X "list.append" dk:=by
 intro A s B H x t v W Q I w g h
 refine ju (h) fun l i y d c f E q=> ?_; subst d; subst c
 cases w
 obtain ⟨u,rfl,D⟩:=g.one
 refine uL (I.lstM f) fun z m n r N e=> ?_
 refine call_meets F.slot_list_append ⟨_,e,rfl⟩ F.entry_list_append (F.args_list_append_2 _ _) (PySem.list_append l m.toArray n u (by rw [List.size_toArray]; omega)) ⟨e,?_⟩
 refine ⟨.non,_,I.lset (its':=m ++ [u]) f e (by simp) (r.append (.cons D .nil)) ?_,rfl,q⟩
 rw [List.length_append,List.length_singleton]
 omega
noncomputable def mj:V→List V→Hp→VK→Prop:=fun x vs H Q=>∃ l xs i k y,x= .ref l∧vs=[.int i]∧H l=some (.lst xs)∧ -(2 ^ 63)≤i∧i < 2 ^ 63∧seqIndex? i xs.length=some k∧xs[k]?=some y∧Q y (bu H l (.lst (xs.eraseIdx k)))
theorem qg:FL X "list.pop" mj:=by
 intro A s K H x E v W Q I C c h
 refine Fz (h) fun l d i k y f g j a b O B q=> ?_; subst f; subst g
 cases C
 refine cps fun PP G=> ?_
 obtain ⟨u,rfl,D⟩:=c.one
 obtain ⟨t,rfl⟩:=D
 refine uL (I.lstM j) fun z m n r N e=> ?_
 obtain ⟨w,o,J⟩:=r.get B
 refine G ?_; clear G PP
 refine call_meets F.slot_list_pop ⟨_,e,rfl⟩ F.entry_list_pop (F.args_list_pop_2 _ _)
  (MeetsSeq.list_pop_at l m.toArray n i t k w (fitsIndex_both a b) (by rw [List.size_toArray,← N]; exact O) (by rw [← Array.getElem?_toList]; exact o) (by rw [List.size_toArray]; omega)) ⟨e,?_⟩
 refine ⟨y,_,I.lset (its':=m.eraseIdx k) j e ?_ (r.eraseIdx k) ?_,J,q⟩
 ·show m.toArray.eraseIdxIfInBounds k=(m.eraseIdx k).toArray
  rw [List.eraseIdxIfInBounds_toArray]
 ·have:=nz d k
  omega
noncomputable def Fe:R2:=fun x y H Q=>∃ l b xs zs,x= .ref l∧y= .ref b∧H l=some (.lst xs)∧H b=some (.lst zs)∧xs.length+zs.length≤sizeLine∧∀ p,H p=none→Q (.ref p) (bu H p (.lst (xs ++ zs)))
theorem Bf:pz X (binaryOp .Add) Fe:=by
 intro A s F H x y v u Q I B w h
 refine FA (h) fun l b d D j k g C E q=> ?_; subst j; subst k
 cases B
 cases w
 refine uL (I.lstM g) fun z m n r N e=> ?_
 refine uL (I.lstM C) fun V i G p o t=> ?_
 refine PySem.P.add_list e t ?_ (by rw [List.size_toArray,List.size_toArray]; omega)
 have f:m.toArray ++ i.toArray=(m ++ i).toArray:=by simp
 rw [f]
 exact ⟨.ref _,_,I.lnew (t':=s.toks) (r.append p) (by rw [List.length_append]; omega),rfl,q _ I.fresh⟩
noncomputable def Ff:R2:=fun x y H Q=>∃ l k xs,x= .ref l∧y= .int k∧H l=some (.lst xs)∧ -(2 ^ 63)≤k∧k < 2 ^ 63∧xs.length * k.toNat≤sizeLine∧
 ∀ p,H p=none→Q (.ref p) (bu H p (.lst (List.replicate k.toNat xs).flatten))
theorem yq {α:Type}(xs:List α)(k:Nat):(List.replicate k xs).flatten.length=k * xs.length:=by
 induction k with
 | zero=>simp
 | succ k s=>rw [List.replicate_succ,List.flatten_cons,List.length_append,s,Nat.succ_mul,Nat.add_comm]
theorem Bj:pz X (binaryOp .Mult) Ff:=by
 intro G s P H x y v u Q I O M h
 refine FB (h) fun l k d w A f b c K q=> ?_; subst w; subst A
 cases O
 obtain ⟨t,rfl⟩:=M
 refine uL (I.lstM f) fun z o n r N e=> ?_
 have J:o.toArray.size * k.toNat≤sizeLine:=by rw [List.size_toArray,← N]; exact K
 have C:¬ o.toArray.size * k.toNat > (2 ^ 63 - 1) / 8:=by
  have:(sizeLine:Nat)≤(2 ^ 63 - 1) / 8:=by decide
  omega
 have B:¬ (!Builtin.List.listFitsIndex k)=true:=by
  rw [fitsIndex_both b c]
  exact Bool.false_ne_true
 have p:¬ Builtin.List.listTooLong (o.toArray.size * k.toNat)=true:=by
  rw [vT J]
  exact Bool.false_ne_true
 have hnew:List.foldl (fun D E=>D ++ E) #[] (List.replicate (if o.toArray.isEmpty=true then 0 else k.toNat) o.toArray)=(List.replicate k.toNat o).flatten.toArray:=by
  have L:∀ m:Nat,List.foldl (fun D E=>D ++ E) #[] (List.replicate m o.toArray)=(List.replicate m o).flatten.toArray:=fun m=>by
   have:=nq o m []
   rw [List.nil_append] at this
   exact this
  rw [L]
  cases o with
  | nil=>simp
  | cons a g=>rw [if_neg (by simp)]
 refine wpAny_binaryOp_repeat_ref (T:= "list") (U:= "int") (by decide) ⟨_,e,rfl⟩ (fun V=>typeIs_int V k t) noFill_list_mul F.fills_int_mul F.slot_int_rmul repeat_list F.slot_int_index.lookup
  (call_meets F.slot_int_rmul (typeIs_int s k t) F.entry_int_rmul (F.args_int_rmul_2 _ _) (int___rmul___int_list k t l o.toArray n)
   (lT e rfl ⟨_,e,rfl⟩ (call_meets F.slot_list_mul ⟨_,e,rfl⟩ F.entry_list_mul (F.args_list_mul_2 _ _) (AutoListH.list___mul___list_int_3 l o.toArray n k t B C p) ⟨e,?_⟩)))
 rw [hnew]
 exact ⟨.ref _,_,I.lnew (t':=s.toks) (r.rep k.toNat) (by rw [yq,Nat.mul_comm]; exact K),rfl,q _ I.fresh⟩
end
section
variable{prog:Program}{w:World}{A:Around}{E:Value→Shared→Prop}{s:Shared}
end
section
variable{X:Cx}
end
end L2
namespace Att
open PySem PySem.W PySem.Calls PyProof.Rows
theorem kX {P:Params}{h:Heap}:∀ (ns:List Int) (vs:List Value),WellAll P h vs (ns.map WData.int)→IntsAre vs ns:=by
 intro ns
 induction ns with
 | nil=>
  intro vs w
  rw [List.map_nil] at w
  cases w
  exact .nil
 | cons n ns s=>
  intro vs w
  rw [List.map_cons] at w
  cases w with
  | cons a b=>
   cases a
   exact .cons _ _ (s _ b)
theorem uA {l:OpenLaw}{n:Nat}(hn:l.most=some n){P:Params}{h:Heap}{args:List WData}{vals:List Value}
  (hpre:l.row.toRowW.claim.pre args=true) (hwl:WellAll P h vals args) :
  ∃ a vs ns,vals=[Value.ref a]∧args=[WData.list (ns.map WData.int)]∧h.get? a=some { cls:= .type "list",data:= .seq vs.toArray }∧IntsAre vs ns∧ns.length≤n:=by
 have w:WShape.hasAll [] args [.list .int]=true:=(pre_splitW hpre).1
 have b:l.pre.holds [] { args:=args }=true:=(pre_splitW hpre).2
 refine bL (hasAllW_cons w) fun d r u c e=> ?_; subst u
 obtain rfl:=hasAllW_nil e
 obtain ⟨f,rfl,A⟩:=hasW_list c
 obtain ⟨ns,rfl⟩:=items_int A
 have H:ns.length≤n:=by
  unfold OpenLaw.pre at b
  have E:(WTm.not (.lt (.lit (.int (n:Int))) (.len (.arg 0)))).holds [] { args:=[.list (ns.map .int)] }=true:=by
   have E:=(holds_andW b).1
   rw [hn] at E
   exact E
  have L:=condW_of E (w_not (w_lt w_lit (w_len_list (w_arg rfl))))
  rw [List.length_map] at L
  refine Nat.le_of_not_lt fun q=> ?_
  have q':(n:Int) < ((ns.length:Nat):Int):=by omega
  first
   | (rw [decide_eq_true q'] at L; exact absurd L (by decide))
   | (simp at L; omega)
 cases hwl with
 | cons y x=>
  cases x
  cases y with
  | list D v=>exact (pY _ _ ns rfl rfl D (kX ns _ v) H)
theorem uv (l:OpenLaw)(args:List WData):l.row.toRowW.claim.post args (.bool true) args=true:=
 postW_of (r:=l.row.toRowW) (X:=(true == true))
  (show WShape.has [] (.bool true) .bool=true by first | rfl | decide | simp [WShape.has,WShape.arms,WShape.armsAll])
  (show (WTm.eq .res (.lit (.bool true))).value [] { args:=args,res:=some (.bool true),after:=args }=some (.bool (true == true)) from w_eq_bool (w_res rfl) w_lit) rfl
theorem pE {l:OpenLaw}{n:Nat}{q:Program}{loose:List Str}{XP:(Str→Option Value)→Heap→Prop}{YP:World→Heap→Prop}{d:DefRec}
  (hn:l.most=some n) (hdf:d.params.defaults=[])
  (call:∀ (w:World) (s₀ s₁:Shared) (mg mb:Str→Option Value) (fa:Addr) (o:Obj) (pm cd doc:Value) (a:Addr) (vs:List Value) (ns:List Int),
   Ground q loose [] XP w s₀ mg mb s₁.heap→YP w s₁.heap→
   s₁.heap.get? fa=some o→o.data= .func (docDef d.name d.params d.body d.scope pm cd doc)→s₁.heap.CodeRec cd d.name→mg d.name=some (.ref fa)→
   s₁.heap.get? a=some { cls:= .type "list",data:= .seq vs.toArray }→IntsAre vs ns→ns.length≤n→s₁.gens= #[]→
   codeAny (model l.prog w) callerA (.call (.ref fa) ⟨[.ref a],[]⟩) (fun r s'=>r= .ok (.ret (.bool true))∧OldK s₁.heap s'.heap∧s'.os=s₁.os∧AllBare s'.gens) s₁) :
  WalkO q loose XP YP l.row.toRowW d [] (fun f vs=>PySem.call f vs):=by
 intro w s₀ s₁ mg mb G Y fa o pm cd doc O kV N U I K F x p M V C L T J S
 obtain rfl:O= .none:=Dflts.none K hdf
 obtain rfl:kV= .none:=Dflts.noKw K
 refine ju (uA hn C J) fun a vs ns B D A z H=> ?_; subst B; subst D
 refine enter_call (codeAny_mono (call w s₀ s₁ mg mb fa o pm cd doc a vs ns G Y N (fd_plain U) I F A z H x) fun r s' e=> ?_)
 refine lf (e) fun E b P R=> ?_; subst E
 exact (lT (.inl (pY (.bool true) (.bool true) ([]) rfl (fun _=>rfl) (.bool true) (uv l _) (fun _=>⟨List.Pairwise.nil,fun _ Q=>(nomatch Q)⟩))) b P R)
section
variable{prog:Program}{w:World}{A:Around}{E:Value→Shared→Prop}{s:Shared}{K:Frag}
end
end Att
namespace L2
open PySem PySem.Spec PyProof.Rows
theorem n5:∀ {vs:List Value} {ns:List Int},IntsAre vs ns→Vals (ns.map V.int) vs
 | _,_,.nil=> .nil
 | _,_,.cons n t h=> .cons ⟨t,rfl⟩ (n5 h)
noncomputable def zL (H:Hp):Prop:=∀ b,H b=none∨∃ o xs,H b=some (.frz o (.lst xs))
theorem vG {P:Program}{w:World}{K:W.Frag}{mg mb:Str→Option Value}{CX:pw}{k:Nat}{fa a:Addr}{fd:FuncData}{x:Str}{sp:Sp}{s₁:Shared}{vs:List Value}{ns:List Int}
  (KX:K.In s₁.heap) (hns:s₁.heap.Ns mainGlobals mg) (hb:s₁.heap.Ns builtinsNs mb) (hbb:∀ x:Str,x≠ "__name__" →mb x=bootBuiltins x) (hlim:s₁.heap.NoLimit) (hg:s₁.gens= #[])
  (ha:s₁.heap.get? a=some { cls:= .type "list",data:= .seq vs.toArray }) (hi:IntsAre vs ns) (hl:ns.length≤sizeLine) (hr:Room k callerA)
  (F:∀ base:Heap,K.In base→base.Ns mainGlobals mg→FnOk P w K mg base CX k fa fd [x] sp) (hbind:∀ (s:Shared) (u:Value),BindsTo s fd ⟨[u],[]⟩ [(x,u)])
  (hsp:∀ H:Hp,zL H→fR K H a (ns.map V.int)→sp [.ref a] H (fun v _=>v= .bl true) fun _ _ _=>False)
  (hCX:∀ H e s',CX [] H s₁ (fun _ _ _=>False) e s'→False) :
  codeAny (model P w) callerA (.call (.ref fa) ⟨[.ref a],[]⟩) (fun r s'=>r= .ok (.ret (.bool true))∧OldK s₁.heap s'.heap∧s'.os=s₁.os∧AllBare s'.gens) s₁:=by
 have g:=n5 hi
 have Y:=hi.length
 -- from an abstract heap in which nothing but the script may be tracked
 have S:∀ H:Hp,zL H→fR K H a (ns.map V.int)→HOk P w H s₁.heap→(∀ b,H b≠none→b=a)→(H a≠none→K.lookup a=none)→
   codeAny (model P w) callerA (.call (.ref fa) ⟨[.ref a],[]⟩) (fun r s'=>r= .ok (.ret (.bool true))∧OldK s₁.heap s'.heap∧s'.os=s₁.os∧AllBare s'.gens) s₁:=by
  intro H f D y Z B
  have Q:∀ {b:Addr} {o:Obj},s₁.heap.get? b=some o→H b=none→(oC s₁.heap H).get? b=some o:=fun e n=>vt e n
  have A:∀ {b:Addr} {o:Obj} {t:Array DictEntry} {l:Nat},s₁.heap.get? b=some o→o.data= .dict t l→H b=none:=fun {b o t l} e d=>by
   cases q:H b with
   | none=>rfl
   | some u=>
    have e':b=a:=Z b (by rw [q]; simp)
    subst e'
    rw [ha] at e; cases e
    have d':Data.seq vs.toArray _=Data.dict t l:=d
    cases d'
  have R:∀ {b:Addr} {m:Str→Option Value},s₁.heap.Ns b m→(oC s₁.heap H).Ns b m:=fun {b m} U=>(by refine lg (U) fun o t l e d r=> ?_; exact (Df o t l (Q e (A e d)) d r))
  have X:K.In (oC s₁.heap H):=fun b o e=>Q (KX b o e) (by
   cases q:H b with
   | none=>rfl
   | some u=>
    have e':b=a:=Z b (by rw [q]; simp)
    subst e'
    rw [B (by rw [q]; simp)] at e; cases e)
  have E:Mod K mg (oC s₁.heap H):=⟨X,R hns,⟨mb,R hb,hbb⟩,let ⟨mc,h1,h2⟩:=hlim; ⟨mc,R h1,h2⟩⟩
  have I:Env0 P w K mg (oC s₁.heap H) callerA [] s₁ H:=⟨rfl,E,fun b o e=>yu e,Nat.le_of_eq (ue _ _),trivial,fun b hb=>absurd (show b∈([]:List Addr) from hb) (by simp),y,.of_eq hg⟩
  refine codeAny_mono ((F _ X (R hns)).run callerA [] s₁ H ⟨[.ref a],[]⟩ [.ref a] [.ref a] _ _ hr I (hbind s₁ (.ref a)) (.cons rfl .nil) (hsp H f D)) fun r s' h=> ?_
  cases r with
  | error e=>exact (hCX H e s' h).elim
  | ok J=>
   cases J with
   | next=>exact False.elim h
   | brk=>exact False.elim h
   | cont=>exact False.elim h
   | ret u=>
    obtain ⟨v,M,os,p,un,T,j,q⟩:=h
    have q':v= .bl true:=q
    subst q'
    obtain rfl:u=Value.bool true:=j
    refine (lT rfl (OldK.of_keep fun b o e=> ?_) os p)
    cases q:H b with
    | none=>exact un.keep b o e q (by intro z; exact absurd (show b∈([]:List Addr) from z) (by simp)) (by simp)
    | some u=>
     rcases f b with z | ⟨G,L,z⟩
     ·rw [q] at z; cases z
     ·have i:=un.frzs b G _ z
      obtain ⟨c,_⟩:=y b _ z
      obtain ⟨C,_⟩:=T b _ i
      rw [e] at c; cases c
      exact C
 cases O:K.lookup a with
 | some o=>
  -- the script is one of the module's own objects
  have e:=KX a o O
  rw [ha] at e
  cases e
  refine S (fun _=>none) (fun _=> .inl rfl) (.inr (EU _ vs.toArray _ O rfl rfl rfl (by rw [List.size_toArray,Y]; exact hl) (by simpa using g))) (fun b u z=>by have z':(none:Option HO)=some u:=z; cases z') (fun b z=>absurd rfl z) fun z=>absurd rfl z
 | none=>
  refine S (fun b=>if b=a then some (.frz { cls:= .type "list",data:= .seq vs.toArray } (.lst (ns.map V.int))) else none) (fun b=> ?_) (.inl (.inr ⟨{ cls:= .type "list",data:= .seq vs.toArray },if_pos rfl⟩)) (fun b u z=> ?_) (fun b z=> ?_) fun _=>O
  ·by_cases hb:b=a
   ·exact .inr ⟨_,_,if_pos hb⟩
   ·exact .inl (if_neg hb)
  ·by_cases hb:b=a
   ·have z':=(if_pos hb).symm.trans z
    cases z'
    subst hb
    exact (EV ha (by rw [List.length_map]; exact hl) vs _ g ha)
   ·have z':=(if_neg hb).symm.trans z
    cases z'
  ·by_cases hb:b=a
   ·exact hb
   ·exact absurd (if_neg hb) z
theorem zg {l:W.OpenLaw}{n k:Nat}{q:Program}{loose:List Str}{XP:(Str→Option Value)→Heap→Prop}{YP:World→Heap→Prop}{d:DefRec}{K:Params→W.Frag}{CX:World→pw}{sp:World→Sp}{x:Str}
  (hn:l.most=some n) (hn2:n≤sizeLine) (hdf:d.params.defaults=[]) (hr:Room k callerA)
  (hY:∀ (w:World) (h:Heap),YP w h→(K w.params).In h)
  (F:∀ (w:World) (mg:Str→Option Value) (fa:Addr) (h:Heap),(K w.params).In h→h.Ns mainGlobals mg→mg d.name=some (.ref fa)→
   ∃ fd:FuncData,(∀ (s:Shared) (u:Value),BindsTo s fd ⟨[u],[]⟩ [(x,u)])∧
    ∀ base:Heap,(K w.params).In base→base.Ns mainGlobals mg→FnOk l.prog w (K w.params) mg base (CX w) k fa fd [x] (sp w))
  (hsp:∀ (w:World) (H:Hp) (a:Addr) (ns:List Int),ns.length≤n→zL H→fR (K w.params) H a (ns.map V.int)→sp w [.ref a] H (fun v _=>v= .bl true) fun _ _ _=>False)
  (hCX:∀ (w:World) (H:Hp) (s:Shared) (e:Value) (s':Shared),CX w [] H s (fun _ _ _=>False) e s'→False) :
  W.WalkO q loose XP YP l.row.toRowW d [] (fun f vs=>PySem.call f vs):=by
 refine Att.pE hn hdf fun w c Z mg C fa o pm U m a vs ns G Y D M L J A z I y=> ?_
 have KX:=hY w _ Y
 obtain ⟨fd,B,j⟩:=F w mg fa _ KX G.T.g J
 exact vG KX G.T.g G.T.b G.T.builtins G.T.nolimit y A z (Nat.le_trans I hn2) hr j B (fun H X i=>hsp w H a ns I X i) fun H e s'=>hCX w H Z e s'
noncomputable def iL (s:Stmt)(j:Nat):Stmt:=match s with
 | .ClassDef _ _ _ body _ _ _ _ _ _ _=>body.getD j (.Pass ⟨0,0,0,0⟩)
 | _=> .Pass ⟨0,0,0,0⟩
noncomputable def gA (s:Stmt):Arguments:=match s with
 | .FunctionDef _ a _ _ _ _ _ _ _ _=>a
 | _=>{ posonlyargs:=[],args:=[],vararg:=none,kwonlyargs:=[],kw_defaults:=[],kwarg:=none,defaults:=[] }
noncomputable def b_ (s:Stmt):List Stmt:=match s with
 | .FunctionDef _ _ b _ _ _ _ _ _ _=>b
 | _=>[]
noncomputable def ah (s:Stmt):Scope:=match s with
 | .FunctionDef _ _ _ _ _ _ sc _ _ _=>sc
 | _=>{ kind:= .function,names:=[],isGenerator:=false,isCoroutine:=false }
structure Fun (K:W.Frag)(x qual:Str)(st:Stmt)(f:Addr)(fd:FuncData):Prop where
 ex:∃ (oc:Value) (od:Option Addr) (kV doc pm:Value) (an:Option Addr) (cdv ct:Value) (osl:Array (Option Value)),
  fd=W.fnOf x qual (gA st) (b_ st) (ah st) .none kV doc pm an cdv ct∧K.lookup f=some ⟨oc,od,.func fd,osl⟩∧W.codeIn K cdv qual=true
 kp:W.keepIn K (.ref f)=true
section
variable{P:Program}{w:World}{K:W.Frag}{mg:Str→Option Value}{base:Heap}
theorem Fun.binds {x qual:Str}{st:Stmt}{f:Addr}{fd:FuncData}{ps:List Str}(F:Fun K x qual st f fd)
  (h:∀ (kV doc pm:Value) (an:Option Addr) (cdv ct:Value) (us:List Value),us.length=ps.length→bindArgs (W.fnOf x qual (gA st) (b_ st) (ah st) .none kV doc pm an cdv ct) ⟨us,[]⟩=pure (ps.zip us)):Binds K fd ps []:=by
 refine wZ (F.ex) fun i n kV doc pm an cdv ct e d g G=> ?_; subst d
 exact .all (h kV doc pm an cdv ct)
theorem vp {x qual:Str}{st:Stmt}{f:Addr}{oc:Value}{od an:Option Addr}{osl:Array (Option Value)}{kV doc pm cdv ct:Value}(l:K.lookup f=some ⟨oc,od,.func (W.fnOf x qual (gA st) (b_ st) (ah st) .none kV doc pm an cdv ct),osl⟩)
  (c:W.codeIn K cdv qual=true) (k:W.keepIn K (.ref f)=true):Fun K x qual st f (W.fnOf x qual (gA st) (b_ st) (ah st) .none kV doc pm an cdv ct):=⟨(CB oc od kV doc pm an cdv ct osl rfl l c),k⟩
end
section
variable{X:Cx}
theorem pv (i:Nat){x:Str}{pos:Pos}(hN:X.N[i]?=some x:=by rfl)(hv:oe X.env.scope x:=by first | exact Or.inl rfl | exact Or.inr (Or.inl rfl) | exact Or.inr (Or.inr rfl))(hd:(x == ("__debug__" :Str))=false:=by decide)
  (hcd:(x == ("__classdict__" :Str))=false:=by decide):PE X (.Name x pos) (Eg i):=cx hN hv hd hcd
end
noncomputable def Same (H H':Hp):Prop:=∀ b o,H b=some o→H' b=some o
theorem Same.refl (H:Hp):Same H H:=fun _ _ h=>h
theorem Same.trans {H H1 H2:Hp}(a:Same H H1)(b:Same H1 H2):Same H H2:=fun c o h=>b c o (a c o h)
theorem Same.free {H H':Hp}(e:Same H H'){l:Addr}(h:H' l=Option.none):H l=Option.none:=by
 cases q:H l with
 | none=>rfl
 | some o=>
  rw [e l o q] at h
  cases h
theorem Same.seq {K:W.Frag}{H H':Hp}{a:Addr}{xs:List V}(e:Same H H')(h:fR K H a xs):fR K H' a xs:=by
 rcases h with (h | ⟨o,h⟩) | h
 ·exact .inl (.inl (e _ _ h))
 ·exact .inl (.inr ⟨o,e _ _ h⟩)
 ·exact .inr h
section
variable(P:Program)(w:World)
end
section
variable{P:Program}{w:World}{H H':Hp}{h h':Heap}{a:Addr}{o:HO}
end
section
variable{P:Program}{w:World}{H:Hp}{h h':Heap}{x e:Addr}{o':HO}
end
section
variable{fs fs' ex ex':List Addr}{H H1 H2:Hp}{h h1 h2 h':Heap}{a x e:Addr}{o:HO}
end
section
variable{X:Cx}{pins:List (Addr×Obj)}{σ:List (Option V)}{H H':Hp}{s:Shared}{h':Heap}
end
section
variable{X:Cx}
variable{a b:Expr}{ta tb:TE}{pos:Pos}
variable{tA tB':TT}{rest:List Expr}
end
section
variable{X:Cx}{pins:List (Addr×Obj)}{σ:St}{H:Hp}{s:Shared}{a:Addr}{xs ys:List V}
end
section
variable{X:Cx}{pins:List (Addr×Obj)}{σ:St}{H:Hp}{s:Shared}{E:Value→Shared→Prop}
end
section
variable{X:Cx}{st:Stmt}{rest:List Stmt}{t u:TS}{e:Expr}{te:TE}{pos:Pos}
end
section
variable{X:Cx}{pos:Pos}
end
section
variable{X:Cx}{tg:Expr}
end
section
variable{X:Cx}{a b c:Expr}{ta tb tc:TE}{pos:Pos}
end
section
variable{prog:Program}{w:World}{A:Around}{E:Value→Shared→Prop}{s:Shared}{K:W.Frag}{x dx C f:Addr}{mA:Str→Option Value}{name:Str}{v:Value}
end
section
variable{P:Program}{w:World}{H H':Hp}{h h':Heap}{a C dx:Addr}{fs fs':List (Str×V)}
end
section
variable{X:Cx}{pins:List (Addr×Obj)}{σ:St}{H:Hp}{s:Shared}{a C dx:Addr}{fs:List (Str×V)}{f:Str}{v:V}{A:Around}{E:Value→Shared→Prop}
end
section
variable{X:Cx}{o e value:Expr}{f:Str}{pos pos' tpos:Pos}{ta tv:TE}
end
section
variable{X:Cx}{pins:List (Addr×Obj)}{σ:St}{H:Hp}{s:Shared}{A:Around}{E:Value→Shared→Prop}{Q:Value→Shared→Prop}{c:Value}{b:Bool}
end
section
variable{X:Cx}{e:Expr}{es:List Expr}{te:TE}{t:TA}{pos:Pos}
end
section
variable{X:Cx}{pins:List (Addr×Obj)}{σ:St}{H:Hp}{s s':Shared}
end
section
variable{X:Cx}{CX:pw}{k:Nat}{f C:Addr}{fd:FuncData}{ps:List Str}{sp:Sp}{dvs:List V}{ds:List Value}{E:XK}{x m:Str}{p pos apos:Pos}{e o:Expr}{es:List Expr}{ta:TE}{t:TA}
end
section
variable{X:Cx}{CX:pw}{k:Nat}{f C:Addr}{fd:FuncData}{ps ks:List Str}{sp:Sp}{E:XK}{x m:Str}{p pos apos kpos:Pos}{e o:Expr}{es:List Expr}{kws:List Keyword}{te ta:TE}{t tk:TA}{nm:Option Str}
variable{g:List Value→List Value→List Value}{gV:List V→List V→List V}
end
section
variable{X:Cx}{x:Str}{p pos:Pos}{e:Expr}{es:List Expr}{t:TA}{id T:String}{r:List V→Hp→VK→Prop}
end
section
variable{κ:Type}[DecidableEq κ]
end
section
variable{P:Program}{w:World}{H:Hp}{h:Heap}{a:Addr}
end
section
variable{X:Cx}{pins:List (Addr×Obj)}{σ:St}{H:Hp}{s:Shared}{a:Addr}{y v:V}{u r:Value}{o:Option V}{A:Around}{E:Value→Shared→Prop}
end
section
variable{X:Cx}{pins:List (Addr×Obj)}{σ:St}{H:Hp}{s:Shared}{a:Addr}{kvs:List (ly×V)}{k:ly}{u:Value}{A:Around}{E:Value→Shared→Prop}
end
section
variable{X:Cx}{o i e value:Expr}{pos pos' tpos:Pos}{td ty tv:TE}
end
section
variable{X:Cx}{pos:Pos}
end
section
variable{X:Cx}{pins:List (Addr×Obj)}{σ:St}{H:Hp}{s:Shared}{a:Addr}{y d:V}{u r:Value}{o:Option V}{A:Around}{E:Value→Shared→Prop}
end
section
variable{X:Cx}{o e f:Expr}{apos cpos:Pos}{td ty tx:TE}
end
section
variable{X:Cx}{pins:List (Addr×Obj)}{σ:St}{H:Hp}{s:Shared}{a:Addr}{kvs:List (ly×V)}{A:Around}{E:Value→Shared→Prop}
end
section
variable{X:Cx}{pins:List (Addr×Obj)}{σ:St}{H:Hp}{s:Shared}{a:Addr}{y:V}{u:Value}{A:Around}{E:Value→Shared→Prop}
end
end L2
namespace Att
open PySem PySem.W PySem.Calls PyProof.Rows
section
variable{prog:Program}{w:World}{A:Around}{E:Value→Shared→Prop}{s:Shared}{K:Frag}
end
end Att
namespace L2
open PySem PySem.Spec PyProof.Rows
section
variable{P:Program}{w:World}{K:W.Frag}{mg:Str→Option Value}{base:Heap}
end
section
variable{X:Cx}
end
section
variable{κ:Type}[DecidableEq κ]
end
theorem Un.onto {fs:List Addr}{H H':Hp}{h h1 h2:Heap}(u:Un fs [] H H' h h1)
  (k:∀ b o,h1.get? b=some o→b∉fs→(∃ o',h.get? b=some o')→h2.get? b=some o)
  (sl:∀ b o,h1.get? b=some o→b∈fs→(∃ o',h.get? b=some o')→∃ s,h2.get? b=some { o with slots:=s }):Un fs [] H H' h h2 where
 keep:=fun b o e n v B=>k b o (u.keep b o e n v B) v ⟨o,e⟩
 slot:=fun b o e n v B=>by
  obtain ⟨N,T⟩:=u.slot b o e n v B
  obtain ⟨p,t⟩:=sl b _ T v ⟨o,e⟩
  exact ⟨p,t⟩
 free:=u.free
 there:=fun b o e B=>by
  obtain ⟨o',I⟩:=u.there b o e B
  by_cases v:b∈fs
  ·obtain ⟨s,z⟩:=sl b o' I v ⟨o,e⟩
   exact ⟨_,z⟩
  ·exact ⟨o',k b o' I v ⟨o,e⟩⟩
 tups:=u.tups
 frzs:=u.frzs
 tbls:=u.tbls
theorem HOk.onto {P:Program}{w:World}{H:Hp}{h1 h2:Heap}(x:HOk P w H h1)(k:∀ b o u,H b=some u→h1.get? b=some o→h2.get? b=some o):HOk P w H h2:=fun a o e=>
 (x a o e).stay (fun b u hb q=>by
  rcases hb with rfl | hb
  ·exact k b u _ e q
  ·exact k b u _ hb q) (fun _ q=>q) fun _ _ q=>q
theorem ObjOk.at {P:Program}{w:World}{H:Hp}{h:Heap}{a:Addr}{o:HO}(x:ObjOk P w H h a o):∃ ob,h.get? a=some ob:=by
 cases o with
 | lst d=>refine uI (x) fun _ _ _ _ e=> ?_; exact ⟨_,e⟩
 | tup d=>refine se (x) fun _ _ _ p=> ?_; obtain ⟨o,e,_⟩:=p; exact ⟨o,e⟩
 | dK c=>refine uJ (x) fun _ _ _ _ o _ _ e _=> ?_; exact ⟨o,e⟩
 | dT c=>refine uJ (x) fun _ _ _ _ o _ _ e _=> ?_; exact ⟨o,e⟩
 | set S n=>refine sf (x) fun o _ _ _ e _=> ?_; exact ⟨o,e⟩
 | ins C i fs=>refine mX (x) fun _ _ _ e _=> ?_; exact ⟨_,e⟩
 | own y=>exact x
 | xd fs=>obtain ⟨_,⟨o,_,_,e,_⟩,_⟩:=x; exact ⟨o,e⟩
 | rng g j=>refine wX (x) fun _ _ _ e=> ?_; exact ⟨_,e⟩
 | frz ob u=>obtain ⟨e,_⟩:=x; exact ⟨ob,e⟩
 | tbl l=>exact ⟨_,(show h.get? a=some _ from x)⟩
 | met f y=>exact ⟨_,(show h.get? a=some _ from x)⟩
 | ext k=>obtain ⟨_,e,_⟩:=x; exact e
inductive CXF (P:Program)(w:World)(outer:List Env)(H:Hp)(s:Shared)(E:XK)(ev:Value)(s':Shared):Prop
 | mk (e:Addr) (cls a0:Value) (B:Heap) (H':Hp) (h1:ev= .ref e) (h2:s'.os=s.os) (h3:AllBare s'.gens)
  (h4:Un (eR outer) [] H H' s.heap s'.heap) (h5:HOk P w H' s'.heap) (h6:Heap.FlyingW B outer e cls a0 s'.heap)
  (h7:∀ b o,s'.heap.get? b=some o→b∉eR outer→((∃ u,H' b=some u)∨∃ o',s.heap.get? b=some o')→B.get? b=some o)
  (h8:H' e=none) (h9:s.heap.get? e=none) (q:E cls none H')
section
variable{X:Cx}{pins:List (Addr×Obj)}{σ:St}{H:Hp}{s:Shared}
theorem Inv.noFields (I:Inv X pins σ H s){b:Addr}(hb:b∈eR X.stack){o:Obj}(e:s.heap.get? b=some o):∀ vs,o.data≠ .fields vs:=by
 refine se (I.stack.mem hb) fun _ K J h=> ?_
 rw [e] at J; cases J
 exact h
theorem fT {P:Program}{w:World}{K:W.Frag}{mg:Str→Option Value}{base:Heap}{N:List Str}{qual:Str}{scope:Scope}{f:Addr}{cd:Value}{A:Around}{outer:List Env}{s₀:Shared}{H₀:Hp}{E E':XK}
  (he:∀ c a H,E' c a H→E c a H) :
  cv (CXF P w) (mK (CXF P w) P w K mg base N qual scope f cd A outer s₀ H₀ E) E':=by
 intro pins σ H s ev V I h
 obtain ⟨e,cls,a0,B,O,rfl,os,C,un,Q,fl,y,hn,hs,q⟩:=h
 have t:∀ {b:Addr} {o:Obj},s₀.heap.get? b=some o→b≠s₀.heap.objs.size:=fun e=>Nat.ne_of_lt (Heap.lt_size e)
 have i:eR (envOfC qual scope s₀.heap.objs.size f cd :: outer)=s₀.heap.objs.size :: eR outer:=rfl
 have X:∀ b∈eR (envOfC qual scope s₀.heap.objs.size f cd :: outer),∀ o,V.heap.get? b=some o→∀ vs,o.data≠ .fields vs:=fun b v o G=>by
  obtain ⟨_,S,e',h⟩:=fl.2.2.1.mem v
  rw [G] at e'; cases e'
  exact h
 have Ib:=I.base
 have p:∀ b:Addr,b∉(mK (CXF P w) P w K mg base N qual scope f cd A outer s₀ H₀ E).ex:=fun b z=>absurd (show b∈([]:List Addr) from z) (by simp)
 have nL:O s₀.heap.objs.size=none:=by
  obtain ⟨m,⟨o,_,_,ho,_⟩,_⟩:=I.loc
  exact un.free _ o ho I.free (by simp)
 show wpAny _ _ (leaving _ (.ref e)) _ _ V
 refine wpAny_leaves_onW (base:=B) I.ok.frames rfl fl fun g M up=> ?_
 have j:∀ b o,V.heap.get? b=some o→b∉eR outer→b≠s₀.heap.objs.size→((∃ u,O b=some u)∨∃ S,s.heap.get? b=some S)→g.get? b=some o:=fun b o T nb nl Z=>
  M.1 b o (y b o T (by show b∉s₀.heap.objs.size :: eR outer; simp [nl,nb]) Z)
 have r:∀ b o,V.heap.get? b=some o→b∈eR outer→∃ sl,g.get? b=some { o with slots:=sl }:=fun b o T v=>
  up b o T (X b (by rw [i]; exact dt v) o T)
 have k:∀ b o,s₀.heap.get? b=some o→∃ l,s.heap.get? b=some l:=fun b o D=>Ib.there b o D (p b)
 have U:Un (eR outer) [] H₀ O s₀.heap g:={
  keep:=fun b o D n v _=>by
   have T:=Ib.keep b o D n v (p b)
   have n1:=Ib.free b o D n (p b)
   have Y:b∉eR (envOfC qual scope s₀.heap.objs.size f cd :: outer):=by rw [i]; simp [t D,v]
   exact j b o (un.keep b o T n1 Y (by simp)) v (t D) (.inr ⟨o,T⟩)
  slot:=fun b o D n v _=>by
   obtain ⟨s1,T⟩:=Ib.slot b o D n v (p b)
   have n1:=Ib.free b o D n (p b)
   obtain ⟨s2,x⟩:=un.any T n1 (by simp)
   obtain ⟨s3,d⟩:=r b _ x v
   exact ⟨s3,d⟩
  free:=fun b o D n _=>by
   obtain ⟨l,T⟩:=k b o D
   exact un.free b l T (Ib.free b o D n (p b)) (by simp)
  there:=fun b o D _=>by
   obtain ⟨l,T⟩:=k b o D
   obtain ⟨L,x⟩:=un.there b l T (by simp)
   by_cases v:b∈eR outer
   ·obtain ⟨s3,d⟩:=r b L x v
    exact ⟨_,d⟩
   ·exact ⟨L,j b L x v (t D) (.inr ⟨l,T⟩)⟩
  tups:=fun b xs q=>un.tups b xs (Ib.tups b xs q)
  frzs:=fun b o u q=>un.frzs b o u (Ib.frzs b o u q)
  tbls:=fun b ps q=>by
   obtain ⟨m1,T⟩:=Ib.tbls b ps q
   obtain ⟨m2,x⟩:=un.tbls b _ T
   exact ⟨m1 ++ m2,by rw [x,Array.append_assoc]⟩ }
 have frf':∀ b u,O b=some u→b∉eR outer∧b≠s₀.heap.objs.size:=fun b u T=>by
  refine ⟨fun v=> ?_,fun z=>by rw [z,nL] at T; cases T⟩
  have n0:H b=none:=I.stkFree b (by show b∈eR (envOfC qual scope s₀.heap.objs.size f cd :: outer); rw [i]; exact dt v)
  obtain ⟨_,o,G,_⟩:=I.stack.mem (show b∈eR (envOfC qual scope s₀.heap.objs.size f cd :: outer) by rw [i]; exact dt v)
  rw [un.free b o G n0 (by simp)] at T; cases T
 have J:HOk P w O g:=Q.onto fun b o u v G=>j b o G (frf' b u v).1 (frf' b u v).2 (.inl ⟨u,v⟩)
 have R:∀ b o,g.get? b=some o→b∉eR outer→((∃ u,O b=some u)∨∃ S,s₀.heap.get? b=some S)→B.get? b=some o:=fun b o x v Z=>by
  rcases Z with ⟨u,F⟩ | ⟨o0,D⟩
  ·obtain ⟨l,T⟩:=(Q b u F).at
   have z:=j b l T (frf' b u F).1 (frf' b u F).2 (.inl ⟨u,F⟩)
   rw [x] at z; cases z
   exact y b o T (by show b∉s₀.heap.objs.size :: eR outer; simp [v,(frf' b u F).2]) (.inl ⟨u,F⟩)
  ·obtain ⟨l,T⟩:=k b o0 D
   obtain ⟨L,d⟩:=un.there b l T (by simp)
   have z:=j b L d v (t D) (.inr ⟨l,T⟩)
   rw [x] at z; cases z
   exact y b o d (by show b∉s₀.heap.objs.size :: eR outer; simp [v,t D]) (.inr ⟨l,T⟩)
 refine ⟨e,cls,a0,B,O,rfl,os.trans I.os,C,U,J,M,R,hn,?_,he _ _ _ q⟩
 cases z:s₀.heap.get? e with
 | none=>rfl
 | some o=>
  obtain ⟨l,T⟩:=k e o z
  rw [hs] at T; cases T
end
abbrev Ci:List Value:=[.type "ValueError",.type "Exception",.type "BaseException",.type "object"]
inductive ExIn (K:W.Frag)(C:Addr):Prop
 | mk (bm:List Value) (N:Addr) (nm q:Str) (bs:List Value) (hd:Bool) (sn:List Str) (sub:List Value) (ab:Bool) (col:Option Bool) (dd:Option Addr) (k0 k1 k2 k3 k5:Option Value) (l:K.lookup C=some (excClassObj nm q C N bs bm hd sn sub ab col dd k0 k1 k2 k3 k5 "ValueError.__new__")) (ok:W.nsOkIn K N=true) (ni:W.nsIn K N "__init__" =some none) (ht:W.tailIn K Ci bm=true)
structure ExcC (K:W.Frag)(mg:Str→Option Value)(x:Str)(C:Addr):Prop where
 mgx:mg x=some (.ref C)
 ein:ExIn K C
theorem x9 {K:W.Frag}{C:Addr}{h₀:Heap}(X:K.In h₀):ExIn K C→
  ∃ bm N nm q bs hdct sn sub ab col dd k0 k1 k2 k3 k5 mN,h₀.get? C=some (excClassObj nm q C N bs bm hdct sn sub ab col dd k0 k1 k2 k3 k5 "ValueError.__new__")∧h₀.Ns N mN∧mN "__init__" =none∧OwnTail h₀ Ci bm
 | ⟨bm,N,nm,q,bs,hd,sn,sub,ab,col,dd,k0,k1,k2,k3,k5,l,ok,ni,ht⟩=>⟨bm,N,nm,q,bs,hd,sn,sub,ab,col,dd,k0,k1,k2,k3,k5,_,X _ _ l,.of_isNs (W.isNs_of_in X ok),W.nsMap_none_of_in X ok ni,W.tail_of_in X ht⟩
noncomputable def lz (X:Cx)(E:XK):Prop:=∀ (pins:List (Addr×Obj)) (σ:St) (H:Hp) (s:Shared) (e C:Addr) (h':Heap) (args:List Value),Inv X pins σ H s→Heap.MadeExcOf s.heap h' e (.ref C) args→E (.ref C) none H→X.xe (.ref e) { s with heap:=h' }
theorem uz {P:Program}{w:World}{K:W.Frag}{mg:Str→Option Value}{base:Heap}{N:List Str}{qual:Str}{scope:Scope}{f:Addr}{cd:Value}{A:Around}{outer:List Env}{s₀:Shared}{H₀:Hp}{E E':XK}
  (he:∀ c a H,E' c a H→E c a H):lz (mK (CXF P w) P w K mg base N qual scope f cd A outer s₀ H₀ E) E':=by
 intro J σ H s e C U r I B q
 have i:eR (envOfC qual scope s₀.heap.objs.size f cd :: outer)=s₀.heap.objs.size :: eR outer:=rfl
 have G:∀ M∈(envOfC qual scope s₀.heap.objs.size f cd :: outer),∀ b,M.frame=some b→b∈eR (envOfC qual scope s₀.heap.objs.size f cd :: outer):=fun M he b v=>List.mem_filterMap.mpr ⟨M,he,v⟩
 have l:∀ b:Addr,b∉(mK (CXF P w) P w K mg base N qual scope f cd A outer s₀ H₀ E).ex:=fun b z=>absurd (show b∈([]:List Addr) from z) (by simp)
 have p:∀ {b:Addr} {o:Obj},s₀.heap.get? b=some o→b≠s₀.heap.objs.size:=fun e=>Nat.ne_of_lt (Heap.lt_size e)
 have Ib:=I.base
 show wpAny _ _ (leaving _ (.ref e)) _ _ _
 refine wpAny_leaves_madeW (base:=W.hideAll s.heap (eR (envOfC qual scope s₀.heap.objs.size f cd :: outer))) (h:=s.heap) (s:={ s with heap:=U }) I.ok.frames rfl (fun b o q=>W.of_hideAll _ q) (W.funFrames_hide I.stack G) B fun d t O R tn up=> ?_
 have j:∀ b o,s.heap.get? b=some o→b∉eR outer→b≠s₀.heap.objs.size→d.get? b=some o:=fun b o T S y=>
  O.1 b o (W.hideAll_get _ T (by rw [i]; simp [y,S]))
 have m:∀ b o,s.heap.get? b=some o→b∈eR outer→∃ sl,d.get? b=some { o with slots:=sl }:=fun b o T v=>
  up b o (B.keeps b o T) (I.noFields (show b∈eR (envOfC qual scope s₀.heap.objs.size f cd :: outer) by rw [i]; exact dt v) T)
 have frf':∀ b u,H b=some u→b∉eR outer∧b≠s₀.heap.objs.size:=fun b u T=>by
  refine ⟨fun v=> ?_,fun z=> ?_⟩
  ·rw [I.stkFree b (show b∈eR (envOfC qual scope s₀.heap.objs.size f cd :: outer) by rw [i]; exact dt v)] at T; cases T
  ·rw [z,show H s₀.heap.objs.size=none from I.free] at T; cases T
 refine ⟨e,.ref C,.ref t,_,H,rfl,I.os,I.bare,?_,?_,O,?_,?_,?_,he _ _ _ q⟩
 ·exact {
   keep:=fun b o D n v _=>j b o (Ib.keep b o D n v (l b)) v (p D)
   slot:=fun b o D n v _=>by
    obtain ⟨Z,T⟩:=Ib.slot b o D n v (l b)
    obtain ⟨V,F⟩:=m b _ T v
    exact ⟨V,F⟩
   free:=fun b o D n _=>Ib.free b o D n (l b)
   there:=fun b o D _=>by
    obtain ⟨k,T⟩:=Ib.there b o D (l b)
    by_cases v:b∈eR outer
    ·obtain ⟨s3,g⟩:=m b k T v
     exact ⟨_,g⟩
    ·exact ⟨k,j b k T v (p D)⟩
   tups:=Ib.tups
   frzs:=Ib.frzs
   tbls:=Ib.tbls }
 ·exact I.hok.onto fun b o u v Q=>j b o Q (frf' b u v).1 (frf' b u v).2
 ·intro b o F v X
  have x:∀ k,s.heap.get? b=some k→b≠s₀.heap.objs.size→(W.hideAll s.heap (eR (envOfC qual scope s₀.heap.objs.size f cd :: outer))).get? b=some o:=fun k T y=>by
   have z:=j b k T v y
   rw [F] at z; cases z
   exact W.hideAll_get _ T (by rw [i]; simp [y,v])
  rcases X with ⟨u,L⟩ | ⟨Y,D⟩
  ·obtain ⟨k,T⟩:=(I.hok b u L).at
   exact x k T (frf' b u L).2
  ·obtain ⟨k,T⟩:=Ib.there b Y D (l b)
   exact x k T (p D)
 ·cases z:H e with
  | none=>rfl
  | some u=>
   obtain ⟨k,T⟩:=(I.hok e u z).at
   rw [B.new] at T; cases T
 ·cases z:s₀.heap.get? e with
  | none=>rfl
  | some o=>
   obtain ⟨k,T⟩:=Ib.there e o z (l e)
   rw [B.new] at T; cases T
section
variable{X:Cx}
noncomputable def BM (t:TA)(C:Addr)(E:XK):TS:=fun _ σ H=>t σ H fun vs H1=>vs.length≤sizeLine∧E (.ref C) none H1
theorem wD {x:Str}{np cpos pos:Pos}{e:Expr}{es:List Expr}{t:TA}{C:Addr}{E:XK}(hR:lz X E)(hc:X.calm=true)(G:ExcC X.K X.mg x C)(hg:Gl X x)(ha:PA X (e :: es) t)
  (he:starEach (e :: es) X.env=(false,eval e X.env) :: starEach es X.env:=by rfl) (hpl:(backTo cpos (starEach es X.env)).any (·.1)=false:=by rfl) (hdb:(x == ("__debug__" :Str))=false:=by decide) :
  PS X (.Raise (some (.Call (.Name x np) (e :: es) [] cpos)) none pos) (BM t C E):=by
 intro A s B H D I h
 refine FC (x9 I.ok.mod.kin G.ein) fun P N nm q bs hdct sn sub ab col dd k0 k1 k2 k3 k5 mN U O M T=> ?_
 refine wpAny_Raise_call_subT (C:=C) (nm:=nm) (q:=q) (N:=N) (bs:=bs) (bm:=P) (hdct:=hdct) (sn:=sn) (sub:=sub) (ab:=ab) (col:=col) (dd:=dd) (k0:=k0) (k1:=k1) (k2:=k2) (k3:=k3) (k5:=k5)
  PySem.F.excBase_ValueError (mN:=mN) (T.hasType PySem.F.excBase_ValueError.hasBase) (I.ok.hd hc) (by rw [he]; show (false || (backTo cpos (starEach es X.env)).any (·.1))=false; rw [hpl]; rfl) M (iO I hg G.mgx ⟨rfl,?_⟩ hdb)
 have b:=ha cpos A s B H _ I h
 rw [he] at b ⊢
 exact Calls.evalArgs_plain (wpAny_mono b (fun W L J=>(by obtain ⟨u,S,Q,r,V,j⟩:=J; exact (AK rfl (by rw [← r.length]; exact V) (Q.bk _ _ U) (O.keeps Q.bk) (T.keeps Q.bk) (fun o e R=>hR A B S L e C o W Q R j)))) fun _ _ y=>y)
end
section
variable{X:Cx}{pins:List (Addr×Obj)}{σ:St}{H H':Hp}{s:Shared}
noncomputable abbrev DG (X:Cx):St:=List.replicate X.N.length none
theorem Inv.forget (I:Inv X pins σ H s){h':Heap}{m':Str→Option Value}{t':Nat}(hs:Heap.SameBut X.env.locals s.heap h')(hn:h'.Ns X.env.locals m'):Inv X pins (DG X) H { s with heap:=h',toks:=t' }:=by
 have ne:∀ {b:Addr} {o:Obj},X.s₀.heap.get? b=some o→b≠X.env.locals:=fun e=>Nat.ne_of_lt (Nat.lt_of_lt_of_le (Heap.lt_size e) I.ok.above)
 refine ⟨I.ok,I.os,I.bare,⟨fun b o e n w B=>(hs.2 b (ne e)).trans (I.base.keep b o e n w B),fun b o e n w B=> ?_,I.base.free,fun b o e B=> ?_,I.base.tups,I.base.frzs,I.base.tbls⟩,⟨m',hn,fun j y v T t f=> ?_⟩,fun y c e=> ?_,I.free,I.freeC,fun p Z=> ?_,?_,by simp [DG]⟩
 ·obtain ⟨Q,T⟩:=I.base.slot b o e n w B
  exact ⟨Q,(hs.2 b (ne e)).trans T⟩
 ·obtain ⟨J,T⟩:=I.base.there b o e B
  exact ⟨J,(hs.2 b (ne e)).trans T⟩
 ·rw [List.getElem?_replicate] at t
  split at t <;> cases t
 ·obtain ⟨A,z⟩:=I.cell y c e
  exact ⟨A,z.sameBut hs (I.cne y c e)⟩
 ·refine mX (I.pin p Z) fun e n x Y d=> ?_
  exact (rh ((hs.2 p.1 x).trans e) n x Y d)
 ·exact I.hok.onto fun b o u w q=>(hs.2 b fun z=>by rw [z,I.free] at w; cases w).trans q
noncomputable abbrev Cx.inH (X:Cx)(e:Addr)(E:Value→Shared→Prop):Cx:={ X with A:=X.A.mark (some (.ref e)),calm:=false,xe:=E }
theorem Cx.Ok.inH (ok:X.Ok)(e:Addr)(E:Value→Shared→Prop):(X.inH e E).Ok:=
 ⟨ok.mod,ok.kind,ok.glob,ok.blt,ok.above,ok.inj,ok.has,ok.cab,fun z=>Bool.noConfusion z,ok.frames,ok.stk,ok.exf,ok.bs,ok.bsz,ok.noex,ok.exfs,ok.funs,ok.frf⟩
theorem Inv.inH (I:Inv X pins σ H s)(e:Addr)(E:Value→Shared→Prop):Inv (X.inH e E) pins σ H s:=⟨I.ok.inH e E,I.os,I.bare,I.base,I.loc,I.cell,I.free,I.freeC,I.pin,I.hok,I.len⟩
theorem Inv.outH {e:Addr}{E:Value→Shared→Prop}(ok:X.Ok)(I:Inv (X.inH e E) pins σ H s):Inv X pins σ H s:=⟨ok,I.os,I.bare,I.base,I.loc,I.cell,I.free,I.freeC,I.pin,I.hok,I.len⟩
noncomputable abbrev Cx.tr (X:Cx)(E:Value→Shared→Prop)(pn:List (Addr×Obj)):Cx:={ X with xe:=E,pn:=pn }
theorem Cx.Ok.tr (ok:X.Ok)(E:Value→Shared→Prop)(pn:List (Addr×Obj)):(X.tr E pn).Ok:=
 ⟨ok.mod,ok.kind,ok.glob,ok.blt,ok.above,ok.inj,ok.has,ok.cab,ok.hd,ok.frames,ok.stk,ok.exf,ok.bs,ok.bsz,ok.noex,ok.exfs,ok.funs,ok.frf⟩
theorem Inv.tr (I:Inv X pins σ H s)(E:Value→Shared→Prop):Inv (X.tr E (X.pn ++ pins)) [] σ H s:=⟨I.ok.tr E _,I.os,I.bare,I.base,I.loc,I.cell,I.free,I.freeC,fun p Z=>I.pin p (by rwa [List.append_nil] at Z),I.hok,I.len⟩
theorem Inv.untr {pins':List (Addr×Obj)}{E:Value→Shared→Prop}(ok:X.Ok)(I:Inv (X.tr E (X.pn ++ pins)) pins' σ H s):Inv X pins σ H s:=⟨ok,I.os,I.bare,I.base,I.loc,I.cell,I.free,I.freeC,fun p Z=>I.pin p (List.mem_append_left _ Z),I.hok,I.len⟩
noncomputable def kU (e:Addr)(cls:Value):HO:= .ext fun h=>∃ o,h.get? e=some o∧o.cls=cls
theorem Inv.landed {E:XK}{ev:Value}{s':Shared}(I:Inv X pins σ H s)(h:CXF X.prog X.w X.stack H s E ev s') :
  ∃ (e:Addr) (cls a0:Value) (B:Heap) (H':Hp),ev= .ref e∧Heap.FlyingW B X.stack e cls a0 s'.heap∧H' e=Option.none∧E cls Option.none H'∧
   ∀ (h2:Heap) (t2:Nat),Heap.FlyingW B X.stack e cls a0 h2→s'.heap.UpToSlots h2→Inv X pins σ (bu H' e (kU e cls)) { s' with heap:=h2,toks:=t2 }∧Inv X pins σ H' { s' with heap:=h2,toks:=t2 }:=by
 obtain ⟨e,cls,a0,B,H',rfl,Y,p,un,P,R,A,y,U,q⟩:=h
 refine ⟨e,cls,a0,B,H',rfl,R,y,q,fun h2 t2 t up=> ?_⟩
 have F:∀ b∈eR X.stack,∀ o,s'.heap.get? b=some o→∀ vs,o.data≠ .fields vs:=fun b x o D=>by
  obtain ⟨_,f,Q,h⟩:=R.2.2.1.mem x
  rw [D] at Q; cases Q
  exact h
 have O:∀ b u,H' b=some u→b∉eR X.stack:=fun b u T x=>by
  obtain ⟨_,o,D,_⟩:=I.stack.mem x
  rw [un.free b o D (I.stkFree b x) (by simp)] at T; cases T
 have J:Un (eR X.stack) [] H H' s.heap h2:=un.onto (fun b o T G W=>t.1 b o (A b o T G (.inr W))) fun b o T x _=>up b o T (F b x o T)
 have r:HOk X.prog X.w H' h2:=P.onto fun b o u S T=>t.1 b o (A b o T (O b u S) (.inl ⟨u,S⟩))
 have Z:Inv X pins σ H' { s' with heap:=h2,toks:=t2 }:=I.call' (ch:=[]) Y J r p (fun b z=>absurd z (by simp))
 obtain ⟨i,L,N⟩:=t.there
 refine ⟨?_,Z⟩
 have new:ObjOk X.prog X.w (bu H' e (kU e cls)) h2 e (kU e cls):=⟨⟨i,L,N⟩,⟨i,L⟩,fun h1 h2 ⟨o,a,b⟩ k=>⟨o,k o a,b⟩⟩
 have K:HOk X.prog X.w (bu H' e (kU e cls)) h2:=fun b u C=>by
  by_cases x:b=e
  ·subst x; rw [az] at C; cases C; exact new
  ·rw [am x] at C
   exact (r b u C).stay (fun c v _ q=>q) (fun c q=>by rw [am (aw q y)]; exact q) fun c d q=>by rw [am (aw q y)]; exact q
 have M:Un (eR X.stack) [] H (bu H' e (kU e cls)) s.heap h2:={
  keep:=J.keep,slot:=J.slot,there:=J.there
  free:=fun b o T n V=>by
   have G:b≠e:=fun z=>by rw [z,U] at T; cases T
   rw [am G]; exact J.free b o T n V
  tups:=fun b d q=>by
   have z:=J.tups b d q
   rw [am (aw z y)]; exact z
  frzs:=fun b o u q=>by
   have z:=J.frzs b o u q
   rw [am (aw z y)]; exact z
  tbls:=fun b j q=>by
   obtain ⟨m,z⟩:=J.tbls b j q
   exact ⟨m,by rw [am (aw z y)]; exact z⟩ }
 exact I.call' (ch:=[]) Y M K p (fun b z=>absurd z (by simp))
end
noncomputable def gy (cells:List (Str×Addr)):List (Str×NameKind)→List (Str×Addr)→List (Str×Addr)
 | [],cs=>cs
 | (n,k) :: r,cs=>gy cells r (if k == .free then (match cells.lookup n with | some c=>(n,c) :: cs | none=>cs) else cs)
theorem iX {scope:Scope}{env:Env}(h:∀ y∈scope.names,y.2= .free→∃ c,env.cells.lookup y.1=some c):closureFor scope env=pure (gy env.cells scope.names []):=by
 unfold closureFor
 have Q:∀ (l:List (Str×NameKind)) (O:List (Str×Addr)),(∀ y∈l,y.2= .free→∃ c,env.cells.lookup y.1=some c)→
   (forIn l O fun x r=>if (x.2 == NameKind.free)=true then do let c ← cellOf env x.1; pure (ForInStep.yield ((x.1,c) :: r)) else pure (ForInStep.yield r):Sem (List (Str×Addr)))=pure (gy env.cells l O):=by
  intro l
  induction l with
  | nil=>intro O _; rfl
  | cons x r s=>
   intro O N
   obtain ⟨n,k⟩:=x
   rw [List.forIn_cons]
   by_cases P:k= .free
   ·subst P
    obtain ⟨c,a⟩:=N (n,.free) List.mem_cons_self rfl
    have hc':env.cells.lookup n=some c:=a
    have e:cellOf env n=pure c:=by unfold cellOf; rw [hc']
    simp only [beq_self_eq_true,if_true,e,pure_bind,gy,hc']
    exact s _ fun y B=>N y (dt B)
   ·have e:(k == NameKind.free)=false:=by simpa using P
    simp only [e,Bool.false_eq_true,if_false,pure_bind,gy]
    exact s _ fun y B=>N y (dt B)
 have:=Q scope.names [] h
 simpa using this
theorem jy {cells:List (Str×Addr)}:∀ {l:List (Str×NameKind)} {cs:List (Str×Addr)} {x:Str} {c:Addr},(gy cells l cs).lookup x=some c→(∀ y d,cs.lookup y=some d→cells.lookup y=some d)→cells.lookup x=some c
 | [],cs,x,c,h,hs=>hs x c h
 | (n,k) :: r,cs,x,c,h,hs=>by
  unfold gy at h
  refine jy h ?_
  intro y d e
  split at e
  ·split at e
   ·rename_i v s
    rw [List.lookup_cons] at e
    split at e
    ·rename_i B
     cases e
     have hy':y=n:=by simpa using B
     rw [hy']; exact s
    ·exact hs y d e
   ·exact hs y d e
  ·exact hs y d e
theorem nf {cells:List (Str×Addr)}:∀ {l:List (Str×NameKind)} {cs:List (Str×Addr)} {x:Str},(∃ c,cs.lookup x=some c)→∃ c,(gy cells l cs).lookup x=some c
 | [],cs,x,h=>h
 | (n,k) :: r,cs,x,⟨c,h⟩=>by
  unfold gy
  refine nf ?_
  split
  ·split
   ·rw [List.lookup_cons]
    split
    ·exact ⟨_,rfl⟩
    ·exact ⟨c,h⟩
   ·exact ⟨c,h⟩
  ·exact ⟨c,h⟩
theorem lB {cells:List (Str×Addr)}:∀ {l:List (Str×NameKind)} {cs:List (Str×Addr)} {x:Str},(x,NameKind.free)∈l→(∃ c,cells.lookup x=some c)→∃ c,(gy cells l cs).lookup x=some c
 | (n,k) :: r,cs,x,hm,⟨c,hc⟩=>by
  rcases List.mem_cons.mp hm with e | hm
  ·cases e
   unfold gy
   refine nf ?_
   rw [if_pos (by rfl),hc]
   exact ⟨c,by rw [List.lookup_cons]; simp⟩
  ·unfold gy
   exact lB hm ⟨c,hc⟩
theorem dX {env:Env}:∀ {names:List (Str×NameKind)} {x:Str} {k:NameKind},(∀ y∈names,y.2≠ .cell)→
  (names.map fun (n,k)=>if (k == NameKind.free && env.scope.kind == .function && env.kindOf n == some .cell) then (n,NameKind.cell) else (n,k)).lookup x=some k→(k= .cell∨k= .free)→(x,NameKind.free)∈names
 | [],_,_,_,h,_=>by simp at h
 | (n,k0) :: r,x,k,hc,h,hk=>by
  have s:= @dX env r x k (fun y B=>hc y (dt B))
  rw [List.map_cons,List.lookup_cons] at h
  by_cases c:(k0 == NameKind.free && env.scope.kind == .function && env.kindOf n == some .cell)=true
  ·have K:k0= .free:=by
    simp only [Bool.and_eq_true,beq_iff_eq] at c
    exact c.1.1
   subst K
   rw [if_pos c] at h
   dsimp only at h
   split at h
   ·rename_i B
    have:x=n:=by simpa using B
    subst this
    exact List.mem_cons_self
   ·exact dt (s h hk)
  ·rw [if_neg c] at h
   dsimp only at h
   split at h
   ·rename_i B
    have:x=n:=by simpa using B
    subst this
    cases h
    rcases hk with rfl | rfl
    ·exact absurd rfl (hc (x,.cell) List.mem_cons_self)
    ·exact List.mem_cons_self
   ·exact dt (s h hk)
theorem jR {env:Env}:∀ {names:List (Str×NameKind)} {x:Str},names.lookup x=some .free→
  (names.map fun (n,k)=>if (k == NameKind.free && env.scope.kind == .function && env.kindOf n == some .cell) then (n,NameKind.cell) else (n,k)).lookup x=some .cell∨
  (names.map fun (n,k)=>if (k == NameKind.free && env.scope.kind == .function && env.kindOf n == some .cell) then (n,NameKind.cell) else (n,k)).lookup x=some .free
 | [],_,h=>by simp at h
 | (n,k0) :: r,x,h=>by
  have s:= @jR env r x
  rw [List.lookup_cons] at h
  rw [List.map_cons,List.lookup_cons]
  by_cases c:(k0 == NameKind.free && env.scope.kind == .function && env.kindOf n == some .cell)=true
  ·rw [if_pos c]
   dsimp only
   split at h
   ·exact .inl rfl
   ·exact s h
  ·rw [if_neg c]
   dsimp only
   split at h
   ·exact .inr h
   ·exact s h
noncomputable abbrev Cx.comp (X:Cx)(s:Shared)(H:Hp)(scope:Scope)(C:Addr)(N:List Str)(ex:List Addr):Cx:=
 { X with N:=N,s₀:=s,H₀:=H,env:=compEnvC scope (gy X.env.cells scope.names []) C X.env,outer:=X.stack,stack:=X.stack,ex:=ex,fn:=fun _=>false,pn:=[],xe:=fun _ _=>False }
structure CompSc (X:Cx)(scope:Scope)(N:List Str)(caps:List (Option Nat)):Prop where
 kind:scope.kind= .function
 nocell:∀ y∈scope.names,y.2≠ .cell
 names:∀ y∈scope.names,y.2= .local→scope.names.lookup y.1=some .local
 free:∀ y∈scope.names,y.2= .free→X.env.scope.names.lookup y.1=some .cell∨X.env.scope.names.lookup y.1=some .free
 nd:N.Nodup
 len:caps.length=N.length
 capf:∀ (j k:Nat) (x:Str),caps[j]?=some (some k)→N[j]?=some x→scope.names.lookup x=some .free
 cap:∀ (j k:Nat) (x:Str),caps[j]?=some (some k)→N[j]?=some x→X.N[k]?=some x∧(X.env.scope.names.lookup x=some .cell∨X.env.scope.names.lookup x=some .free)
noncomputable def eO (caps:List (Option Nat))(σ:St):St:=caps.map fun o=>o.bind fun k=>(σ[k]?).join
theorem nc {caps:List (Option Nat)}{σ:St}{j:Nat}{v:V}(h:(eO caps σ)[j]?=some (some v)):∃ k,caps[j]?=some (some k)∧σ[k]?=some (some v):=by
 unfold eO at h
 rw [List.getElem?_map] at h
 cases e:caps[j]? with
 | none=>rw [e] at h; cases h
 | some o=>
  rw [e] at h
  cases o with
  | none=>simp at h
  | some k=>
   refine ⟨k,rfl,?_⟩
   simp only [Option.map_some,Option.bind_some] at h
   cases t:σ[k]? with
   | none=>rw [t] at h; simp at h
   | some q=>rw [t] at h; simp at h; rw [h]
section
variable{X:Cx}{pins:List (Addr×Obj)}{σ:St}{H:Hp}{s:Shared}{scope:Scope}{N:List Str}{caps:List (Option Nat)}
theorem Inv.comp {h₁:Heap}{C:Addr}{fp:List Addr}{t':Nat}(I:Inv X pins σ H s)(S:CompSc X scope N caps)(hC:s.heap.objs.size≤C)(hf:∀ b∈fp,gX X pins H b)(hfp:∀ b∈fp,b < s.heap.objs.size)
  (old:∀ b o,s.heap.get? b=some o→h₁.get? b=some o) (ns:∃ m,h₁.Ns C m):Inv (X.comp s H scope C N fp) [] (eO caps σ) H { s with heap:=h₁,toks:=t' }:=by
 have M:∀ x c,(gy X.env.cells scope.names []).lookup x=some c→X.env.cells.lookup x=some c:=fun x c e=>jy e (fun y d z=>by simp at z)
 have R:=I.stkSub
 obtain ⟨h,V⟩:=ns
 have T:∀ {b:Addr},b < s.heap.objs.size→b≠C:=fun w=>Nat.ne_of_lt (Nat.lt_of_lt_of_le w hC)
 have Q:∀ x,(x,NameKind.free)∈scope.names→∃ c,X.env.cells.lookup x=some c:=fun x B=>I.ok.has x (S.free (x,.free) B rfl)
 refine ⟨⟨I.ok.mod,S.kind,I.ok.glob,I.ok.blt,hC,fun x y c U D=>I.ok.inj x y c (M x c U) (M y c D),fun x B=> ?_,fun x c B=>Bool.noConfusion B,I.ok.hd,I.ok.frames,.inl rfl,fun b w=>⟨T (hfp b w),fun x c e=>(hf b w).2.2.2.2.1 x c (M x c e)⟩,I.bs,Nat.le_trans I.ok.bsz I.sz,fun b o e w=> ?_,fun b w z=> ?_,I.stack,I.stkFree⟩,
  rfl,I.bare,Un.kept old,⟨h,V,fun j y v U D i=> ?_⟩,fun x c e=> ?_,I.hok.fresh hC,fun x c e=>I.freeC x c (M x c e),fun p f=>absurd (show p∈([]:List (Addr×Obj)) from f) (by simp),I.hok.kept old,by rw [show (eO caps σ).length=caps.length by simp [eO]]; exact S.len⟩
 ·have hx':(relabel scope X.env).names.lookup x=some .cell∨(relabel scope X.env).names.lookup x=some .free:=B
  have A:(x,NameKind.free)∈scope.names:=by
   rcases hx' with e | e
   ·exact dX S.nocell e (.inl rfl)
   ·exact dX S.nocell e (.inr rfl)
  exact lB A (Q x A)
 ·refine mX (hf b w) fun J E f2 f3 _=> ?_
  rcases f3 with z | z
  ·exact I.ok.noex b o e z
  ·exact absurd (Nat.lt_of_lt_of_le (Heap.lt_size e) (Nat.le_trans I.ok.bsz z)) (Nat.lt_irrefl _)
 ·refine lf (hf b w) fun J E f2 _=> ?_
  rcases List.mem_cons.mp (R b z) with e | e
  ·exact E e
  ·exact f2 e
 ·refine cps fun PP G=> ?_
  obtain ⟨k,c1,Y⟩:=nc D
  obtain ⟨Z,W⟩:=S.cap j k y c1 U
  obtain ⟨m,L,O⟩:=I.loc
  obtain ⟨u,r,l⟩:=O k y v Z Y (by rcases W with z | z; exact .inr (.inl z); exact .inr (.inr z))
  refine G ?_; clear G PP
  refine ⟨u,r,.inr ?_⟩
  have F:(relabel scope X.env).names.lookup y=some .cell∨(relabel scope X.env).names.lookup y=some .free:=jR (S.capf j k y c1 U)
  have A:(y,NameKind.free)∈scope.names:=by
   rcases F with e | e
   ·exact dX S.nocell e (.inl rfl)
   ·exact dX S.nocell e (.inr rfl)
  obtain ⟨c,a⟩:=lB (cells:=X.env.cells) (cs:=[]) A (Q y A)
  refine (lS F c a ?_)
  rcases l with ⟨g,_⟩ | ⟨_,K,t,z⟩
  ·exfalso
   have k1':X.env.scope.names.lookup y=some .local:=g
   rcases W with z | z <;> (rw [k1'] at z; cases z)
  ·rw [M y c a] at t
   cases t
   obtain ⟨o,q,d⟩:=z
   exact ⟨o,old _ _ q,d⟩
 ·refine kT (I.cell x c (M x c e)) fun v o q d=> ?_
  exact (kY v o (old _ _ q) d)
end
section
variable{prog:Program}{w:World}{A:Around}{E:Value→Shared→Prop}{R:Result→Shared→Prop}{s:Shared}
theorem tU {elt target iter:Expr}{ifs:List Expr}{scope:Scope}{pos:Pos}{it acc:Value}{env:Env}(I:Nat→Shared→Prop)
  (turn:∀ n s,I n s→wpAny (model prog w) A (pyNext it) (fun r s₁=>match r with
   | none=>R (.ok .next) s₁
   | some v=>wpAny (model prog w) A (letOwnedTupleGo target it v) (fun _ s₁'=>wpAny (model prog w) A (assign target env v) (fun _ s₂=>
     wpAny (model prog w) A (forIn ifs true fun c r=>if r=true then do let ok ← isTrue c env (eval c env); pure (ForInStep.yield ok) else pure (ForInStep.yield r)) (fun ok s₃=>
      if ok=true then wpAny (model prog w) A (eval elt env) (fun x s₄=>
       wpAny (model prog w) A (call (.builtin "list.append") [acc,x]) (fun _ s₅=>∃ m,m < n∧I m s₅) (notedBy (model prog w) A env fun e s'=>R (.error e) s') s₄) (notedBy (model prog w) A env fun e s'=>R (.error e) s') s₃
      else ∃ m,m < n∧I m s₃) (notedBy (model prog w) A env fun e s'=>R (.error e) s') s₂) (notedBy (model prog w) A env fun e s'=>R (.error e) s') s₁') (notedBy (model prog w) A env fun e s'=>R (.error e) s') s₁) (notedBy (model prog w) A env fun e s'=>R (.error e) s') s)
  (n:Nat) (h:I n s) :
  codeAny (model prog w) A (.compLoop (.ListComp elt [⟨target,iter,ifs,0⟩] scope pos) 0 it acc env) R s:=by
 refine codeAny_loop rfl I (fun n s g=> ?_) n h
 show wpAny _ A ((compTurn (.ListComp elt [⟨target,iter,ifs,0⟩] scope pos) 0 it acc env).onRaise (fun x=>do noteFrame x env; theTreesLotGoes x)) _ _ s
 refine wpAny_noted ?_
 rw [compTurn_list]
 refine wpAny_bind (wpAny_standAt (wpAny_bind (wpAny_mono (turn n s g) (fun r s₁ Z=> ?_) fun _ _ o=>o)))
 cases r with
 | none=>exact wpAny_pure Z
 | some v=>
  refine wpAny_bind (wpAny_mono Z (fun _ s₁' a=> ?_) fun _ _ o=>o)
  refine wpAny_bind (wpAny_mono a (fun _ s₂ d=>wpAny_bind (wpAny_mono d (fun ok s₃ Y=> ?_) fun _ _ o=>o)) fun _ _ o=>o)
  cases ok with
  | false=>exact wpAny_pure ⟨rfl,Y⟩
  | true=>
   exact wpAny_bind (wpAny_bind (wpAny_mono Y (fun x s₄ f=>wpAny_bind (wpAny_mono f (fun _ s₅ b=>wpAny_pure (wpAny_pure ⟨rfl,b⟩)) fun _ _ o=>o)) fun _ _ o=>o))
end
noncomputable def Cd (X:Cx)(ifs:List Expr)(t:TT):Prop:=
 ∀ (pins:List (Addr×Obj)) (s:Shared) (σ:St) (H:Hp) (Q:Bool→Hp→Prop),Inv X pins σ H s→t σ H Q→
  wpAny (model X.prog X.w) X.A (forIn ifs true fun c r=>if r=true then do let ok ← isTrue c X.env (eval c X.env); pure (ForInStep.yield ok) else pure (ForInStep.yield r)) (TP X pins σ Q) X.xe s
theorem yK {X:Cx}:Cd X [] (fun _ H Q=>Q true H):=fun _ _ _ H _ I h=>wpAny_tests_nil ⟨H,I,h⟩
noncomputable def wR (wi:TI)(caps:List (Option Nat))(g:TG)(tc:TT)(te:TE):TE:=fun σ H Q=>wi σ H fun J H1=>∃ W:Nat→Nat→List V→Hp→Prop,(∃ m,W 0 m [] H1)∧∀ i m ys H2,W i m ys H2→
 (J.stop i H2∧ys.length≤sizeLine∧∀ p,H2 p=none→Q (.ref p) (bu H2 p (.lst ys)))∨
 (J.go i H2∧∃ Nx:List V→Hp→Prop,(∀ ys' H',Nx ys' H'→∃ m',m' < m∧W (i+1) m' ys' H')∧
  ∀ x H',J.yld i H2 x H'→g x (eO caps σ) H' fun σ2 H3=>tc σ2 H3 fun b H4=>if b=true then ys.length≤sizeLine∧te σ2 H4 (fun y H5=>Nx (ys ++ [y]) H5) else Nx ys H4)
section
variable{X:Cx}{pins:List (Addr×Obj)}{σ:St}{H:Hp}{s:Shared}{scope:Scope}{N:List Str}{caps:List (Option Nat)}
noncomputable abbrev jK (us:List Value):Obj:={ cls:= .type "list",data:= .seq us.toArray us.length }
theorem uk (ys:List Value)(y:Value):({ cls:= .type "list",data:= .seq (ys.toArray.push y) (ys.length+1) }:Obj)=jK (ys ++ [y]):=by
 show ({ cls:= .type "list",data:= .seq (ys.toArray.push y) (ys.length+1) }:Obj)={ cls:= .type "list",data:= .seq (ys ++ [y]).toArray (ys ++ [y]).length }
 rw [List.length_append,List.length_singleton,List.push_toArray]
noncomputable def jv (caps:List (Option Nat))(g:TG):Prop:=∀ x σ0 H Q,g x σ0 H Q→g x σ0 H fun σ2 H2=>Q σ2 H2∧σ2.length=σ0.length∧∀ (j k:Nat) (v:V),caps[j]?=some (some k)→σ0[j]?=some (some v)→σ2[j]?=some (some v)
theorem jN {i:Nat}(h:caps[i]?=some none):jv caps (cc i):=fun x f H Q q=>by
 refine ⟨q,by simp,fun j k v n A=> ?_⟩
 have:j≠i:=fun z=>by rw [z,h] at n; cases n
 rw [List.getElem?_set_ne (Ne.symm this)]
 exact A
theorem lC {elt tg iter:Expr}{ifs:List Expr}{pos:Pos}{it:Addr}{fp:List Addr}{tn:Nat→Heap→Prop}{J:It}{g:TG}{tc:TT}{te:TE}{RR:Value→Addr→Result→Shared→Prop}{E:Value→Shared→Prop}
  (hc:X.calm=true) (I:Inv X pins σ H s) (S:CompSc X scope N caps) (T:Turn X.prog X.w X.K tg J fp it tn) (st:tn 0 s.heap) (hf:∀ b∈fp,gX X pins H b)
  (hg:∀ C ex,PG (X.comp s H scope C N ex) tg g) (ho:jv caps g) (ht:∀ C ex,Cd (X.comp s H scope C N ex) ifs tc) (he:∀ C ex,PE (X.comp s H scope C N ex) elt te)
  (W:Nat→Nat→List V→Hp→Prop) (m0:Nat) (w0:W 0 m0 [] H) {Q:VK}
  (turn:∀ i m ys H2,W i m ys H2→(J.stop i H2∧ys.length≤sizeLine∧∀ p,H2 p=none→Q (.ref p) (bu H2 p (.lst ys)))∨
   (J.go i H2∧∃ Nx:List V→Hp→Prop,(∀ ys' H',Nx ys' H'→∃ m',m' < m∧W (i+1) m' ys' H')∧
    ∀ x H',J.yld i H2 x H'→g x (eO caps σ) H' fun σ2 H3=>tc σ2 H3 fun b H4=>if b=true then ys.length≤sizeLine∧te σ2 H4 (fun y H5=>Nx (ys ++ [y]) H5) else Nx ys H4))
  (hRR:∀ (D C:Addr) (s':Shared) (m:Str→Option Value) (H':Hp),s'.heap.Ns C m→Inv X pins σ H' s'→gX X pins H' C→Q (.ref D) H'→RR (.ref D) C (.ok .next) s') :
  wpAny (model X.prog X.w) X.A (newList []) (fun acc s₃=>wpAny (model X.prog X.w) X.A (newFunctionEnv scope X.env.globals (gy X.env.cells scope.names []) [] X.env.qual none .none (some X.env)) (fun cenv s₄=>
   codeAny (model X.prog X.w) X.A (.compStart (.ListComp elt [⟨tg,iter,ifs,0⟩] scope pos) 0 (.ref it) acc { cenv with scope:=relabel scope X.env }) (RR acc cenv.locals) s₄) E s₃) E s:=by
 refine wpAny_newObj_type (wpAny_newFunctionEnv S.nocell (by intro y hy; simp at hy) (fun Z t h=> ?_) S.kind)
 dsimp only at t h ⊢
 generalize hH2:s.heap.push { cls:= .type "list",dict:=none,data:= .seq ([]:List Value).toArray }=H2 at t h ⊢
 have hC:H2.objs.size=s.heap.objs.size+1:=by rw [← hH2,Heap.size_push]
 have hDC:s.heap.objs.size≠H2.objs.size:=by rw [hC]; exact Nat.ne_of_lt (Nat.lt_succ_self _)
 have P:s.heap.objs.size≤H2.objs.size:=by rw [hC]; exact Nat.le_succ _
 have old:∀ b o,s.heap.get? b=some o→Z.get? b=some o:=fun b o e=>
  h.extBut b o (by rw [hC]; exact Nat.ne_of_lt (Nat.lt_succ_of_lt (Heap.lt_size e))) (Heap.get?_push_of_some _ (hH2 ▸ Heap.get?_push_of_some _ e))
 have hacc:Z.get? s.heap.objs.size=some (jK []):=h.extBut _ _ hDC (Heap.get?_push_of_some _ (hH2 ▸ Heap.get?_push_size _ rfl))
 have hfp:∀ b∈fp,b < s.heap.objs.size:=fun b B=>by
  obtain ⟨o,e,_⟩:=T.obj _ _ st b B
  exact Heap.lt_size e
 have R:tn 0 Z:=T.keep _ _ _ st fun b B o e=>old b o e
 have I₁:Inv (X.comp s H scope H2.objs.size N fp) [] (eO caps σ) H { s with heap:=Z,toks:=s.toks+([]:List (Str×Value)).length }:=I.comp S P hf hfp old ⟨_,t⟩
 have cne:∀ x c,(gy X.env.cells scope.names []).lookup x=some c→c < s.heap.objs.size:=fun x c e=>by
  obtain ⟨v,z⟩:=I.cell x c (jy e (fun y d z=>by simp at z))
  exact z.lt
 have nfs:∀ {b:Addr},s.heap.objs.size≤b→b∉eR X.stack:=fun B z=>by
  refine se (I.stack.mem z) fun _ o ho _=> ?_
  exact absurd (Nat.lt_of_lt_of_le (Heap.lt_size ho) B) (Nat.lt_irrefl _)
 -- what stays true of the iterator's and the gathered list's objects
 have l:∀ {H':Hp},(∀ b∈fp,H' b=none)→∀ b∈fp,gX (X.comp s H scope H2.objs.size N fp) [] H' b:=fun hn b B=>
  ⟨hn b B,Nat.ne_of_lt (Nat.lt_of_lt_of_le (hfp b B) P),fun z=>(by
   refine lf (hf b B) fun f0 f1 f2 _=> ?_
   rcases List.mem_cons.mp (I.stkSub b z) with e | e
   ·exact f1 e
   ·exact f2 e),.inl B,fun x c e=>(hf b B).2.2.2.2.1 x c (jy e (fun y d z=>by simp at z)),fun p a=>absurd (show p∈([]:List (Addr×Obj)) from a) (by simp)⟩
 have statD:∀ {H':Hp},H' s.heap.objs.size=none→gX (X.comp s H scope H2.objs.size N fp) [] H' s.heap.objs.size:=fun hn=>
  (AK hn hDC (nfs (Nat.le_refl _)) (.inr (Nat.le_refl _)) (fun x c e=>Nat.ne_of_lt (cne x c e)) (fun p a=>absurd (show p∈([]:List (Addr×Obj)) from a) (by simp)))
 have loop:∀ s₃:Shared,s₃={ s with heap:=Z,toks:=s.toks+([]:List (Str×Value)).length }→
   codeAny (model X.prog X.w) X.A (.compLoop (.ListComp elt [⟨tg,iter,ifs,0⟩] scope pos) 0 (.ref it) (.ref s.heap.objs.size) (compEnvC scope (gy X.env.cells scope.names []) H2.objs.size X.env))
    (RR (.ref s.heap.objs.size) H2.objs.size) s₃:=by
  rintro s₃ rfl
  refine tU (fun n s'=>∃ i ys Y H',Inv (X.comp s H scope H2.objs.size N fp) [] (eO caps σ) H' s'∧tn i s'.heap∧(∀ b∈fp,H' b=none)∧s'.heap.get? s.heap.objs.size=some (jK Y)∧H' s.heap.objs.size=none∧Vals ys Y∧W i n ys H') ?_ m0
   (Dg 0 ([]) ([]) H I₁ R (fun b B=>(hf b B).1) hacc (I.hok.fresh (Nat.le_refl _)) .nil w0)
  intro n s3 hZ3
  refine uM (hZ3) fun i ys Y H3 I3 st3 fr3 ha3 hd3 f w3=> ?_
  have pinD:∀ {M:St} {H':Hp} {s':Shared},Inv (X.comp s H scope H2.objs.size N fp) [] M H' s'→s'.heap.get? s.heap.objs.size=some (jK Y)→H' s.heap.objs.size=none→Inv (X.comp s H scope H2.objs.size N fp) [(s.heap.objs.size,jK Y)] M H' s':=fun I' e n=>
   I'.pins_of fun p a=>by
    obtain rfl:=List.mem_singleton.mp a
    exact (rh e n hDC (nfs (Nat.le_refl _)) (fun v z=>by cases z))
  have G:∀ {H':Hp},(∀ b∈fp,H' b=none)→∀ b∈fp,gX (X.comp s H scope H2.objs.size N fp) [(s.heap.objs.size,jK Y)] H' b:=fun hn b B=>
   ⟨(l hn b B).1,(l hn b B).2.1,(l hn b B).2.2.1,(l hn b B).2.2.2.1,(l hn b B).2.2.2.2.1,fun p a=>by
    obtain rfl:=List.mem_singleton.mp (show p∈[(s.heap.objs.size,jK Y)] from a)
    exact Nat.ne_of_gt (hfp b B)⟩
  have I3':=pinD I3 ha3 hd3
  have atD:∀ {pl:List (Addr×Obj)} {M:St} {H':Hp} {s':Shared},Inv (X.comp s H scope H2.objs.size N fp) ([(s.heap.objs.size,jK Y)] ++ pl) M H' s'→s'.heap.get? s.heap.objs.size=some (jK Y)∧H' s.heap.objs.size=none:=fun {pl M H' s'} I'=>
   ⟨(I'.pin (s.heap.objs.size,jK Y) (by simp)).1,(I'.pin (s.heap.objs.size,jK Y) (by simp)).2.1⟩
  rcases turn i n ys H3 w3 with ⟨stop,hsz,fin⟩ | ⟨go,Nx,hN,step⟩
  ·refine aO (wpAny_noRaise (T.done (X.comp s H scope H2.objs.size N fp) rfl rfl rfl hc i [(s.heap.objs.size,jK Y)] s3 _ H3 (fun _ _=>False) I3' (G fr3) st3 stop)) fun r s4 hZ76=> ?_
   refine cps fun PP kP=> ?_
   obtain ⟨hr,I4⟩:=hZ76
   subst hr
   obtain ⟨ha4,L⟩:=atD (pl:=[]) I4
   obtain ⟨m4,hn4,_⟩:=id I4.loc
   refine kP ?_; clear kP PP
   have F:Un (eR X.stack) fp H H3 s.heap s4.heap:=I4.base
   have bC:∀ {b:Addr} {o:Obj},s.heap.get? b=some o→b≠H2.objs.size∧b≠s.heap.objs.size:=fun e=>⟨by rw [hC]; exact Nat.ne_of_lt (Nat.lt_succ_of_lt (Heap.lt_size e)),Nat.ne_of_lt (Heap.lt_size e)⟩
   have freeC:H3 H2.objs.size=none:=I4.free
   have un':Un (eR X.stack) fp H (bu H3 s.heap.objs.size (.lst ys)) s.heap s4.heap:={
    keep:=fun b o e n B hx=>(F.keep b o e n B hx)
    slot:=fun b o e n B hx=>by
     obtain ⟨sl,z⟩:=F.slot b o e n B hx
     exact ⟨sl,z⟩
    free:=fun b o e n hx=>by rw [am (bC e).2]; exact F.free b o e n hx
    there:=fun b o e hx=>by
     obtain ⟨o',z⟩:=F.there b o e hx
     exact ⟨o',z⟩
    tups:=fun b xs q=>by
     have z:=F.tups b xs q
     rw [am (aw z L)]; exact z
    frzs:=fun b o u q=>by
     have z:=F.frzs b o u q
     rw [am (aw z L)]; exact z
    tbls:=fun b ps q=>by
     obtain ⟨mo,z⟩:=F.tbls b ps q
     exact ⟨mo,by rw [am (aw z L)]; exact z⟩ }
   have hok':HOk X.prog X.w (bu H3 s.heap.objs.size (.lst ys)) s4.heap:=fun b u eb=>by
    by_cases B:b=s.heap.objs.size
    ·subst B; rw [az] at eb; cases eb
     exact (lQ hsz Y _ f ha4)
    ·rw [am B] at eb
     exact (I4.hok b u eb).stay (fun c v hcc q=>q) (fun c q=>by rw [am (aw q L)]; exact q) fun c xs q=>by rw [am (aw q L)]; exact q
   have I4':Inv X pins σ (bu H3 s.heap.objs.size (.lst ys)) s4:=I.call' (ch:=fp) I4.os un' hok' I4.bare (fun b B=>(lT ((hf b B).2.2.2.1) ((hf b B).2.1) ((hf b B).2.2.2.2.1) ((hf b B).2.2.2.2.2)))
   exact hRR _ _ s4 m4 _ hn4 I4' (I.fpOk P (by rw [am (Ne.symm hDC)]; exact freeC)) (fin _ L)
  ·refine aO (wpAny_noRaise (T.item (X.comp s H scope H2.objs.size N fp) rfl rfl rfl hc i [(s.heap.objs.size,jK Y)] s3 _ H3 (fun _ _=>False) I3' (G fr3) st3 go)) fun r s4 hZ77=> ?_
   obtain ⟨u,hr,h4⟩:=hZ77
   subst hr
   refine aO (wpAny_noRaise h4) fun _ s5 hZ78=> ?_
   refine FD (hZ78) fun x H5 I5 r5 y5 st5 fr5=> ?_
   have I5':=I5.pinned (G fr5) (T.obj _ _ st5)
   refine aO (wpAny_noRaise (hg _ _ _ s5 _ H5 x u _ I5' r5 (ho _ _ _ _ (step x H5 y5)))) fun _ s6 hZ79=> ?_
   obtain ⟨σ6,H6,I6,q6,l6,k6⟩:=hZ79
   have U:∀ {pl:List (Addr×Obj)} {H':Hp} {s':Shared},Inv (X.comp s H scope H2.objs.size N fp) pl σ6 H' s'→Inv (X.comp s H scope H2.objs.size N fp) pl (eO caps σ) H' s':=fun I'=>I'.weak l6.symm fun j v e=>by
    obtain ⟨k,c1,c2⟩:=nc e
    exact k6 j k v c1 e
   refine aO (wpAny_noRaise (ht _ _ _ s6 σ6 H6 _ I6 q6)) fun b s7 hZ80=> ?_
   obtain ⟨H7,I7,q7⟩:=hZ80
   have O:∀ {M:St} {H':Hp} {s':Shared},Inv (X.comp s H scope H2.objs.size N fp) ([(s.heap.objs.size,jK Y)] ++ ko fp s5.heap) M H' s'→tn (i+1) s'.heap∧∀ b∈fp,H' b=none:=fun {M H' s'} I'=>
    ⟨T.keep _ _ _ st5 fun b B o e=>(I'.pin (b,o) (List.mem_append_right _ (List.mem_append_right _ (dw B e)))).1,fun b B=>by
     obtain ⟨o,e,d⟩:=T.obj _ _ st5 b B
     exact (I'.pin (b,o) (List.mem_append_right _ (List.mem_append_right _ (dw B e)))).2.1⟩
   cases b with
   | false=>
    have q7':Nx ys H7:=q7
    refine cps fun PP kP=> ?_
    obtain ⟨m',hm,w7⟩:=hN _ _ q7'
    obtain ⟨ha7,hd7⟩:=atD I7
    obtain ⟨st7,fr7⟩:=O I7
    refine kP ?_; clear kP PP
    exact (Dh m' hm (i+1) ys Y H7 (U (I7.pins_of fun p a=>absurd a (by simp))) st7 fr7 ha7 hd7 f w7)
   | true=>
    obtain ⟨hsz,q7'⟩:ys.length≤sizeLine∧te σ6 H7 (fun y H5=>Nx (ys ++ [y]) H5):=q7
    show wpAny _ _ (eval elt _) _ _ s7
    refine aO (wpAny_noRaise (he _ _ _ s7 σ6 H7 _ I7 q7')) fun yv s8 hZ81=> ?_
    refine cps fun PP kP=> ?_
    obtain ⟨y,H8,I8,r8,q8⟩:=hZ81
    obtain ⟨ha8,hd8⟩:=atD I8
    obtain ⟨st8,fr8⟩:=O I8
    refine kP ?_; clear kP PP
    refine append_at ha8 (fun h9 sb hD9=> ?_) (by rw [List.size_toArray,← f.length]; exact hsz)
    obtain ⟨m',hm,w8⟩:=hN _ _ q8
    have I8':Inv (X.comp s H scope H2.objs.size N fp) [] (eO caps σ) H8 s8:=U (I8.pins_of fun p a=>absurd a (by simp))
    have dD:=statD hd8
    refine (Dh m' hm (i+1) (ys ++ [y]) (Y ++ [yv]) H8 (I8'.turned (t':=s8.toks) (fun b o B e=>(sb.2 b B).trans e) hd8 dD.2.1 dD.2.2.2.1 dD.2.2.2.2.1 dD.2.2.2.2.2) (T.keep _ _ _ st8 fun b B o e=>(sb.2 b (Nat.ne_of_lt (hfp b B))).trans e) fr8 ?_ hd8 (f.append (.cons r8 .nil)) w8)
    rw [hD9,uk]
 exact codeAny_compStart_list (loop _ rfl) (T.self X.A 0 _ _ _ R (loop _ rfl))
theorem s0 {elt tg iter:Expr}{ifs:List Expr}{pos:Pos}{wi:TI}{g:TG}{tc:TT}{te:TE}(hc:X.calm=true)(S:CompSc X scope N caps)(hi:PI X tg iter wi)
  (hg:∀ s H C ex,PG (X.comp s H scope C N ex) tg g) (ho:jv caps g) (ht:∀ s H C ex,Cd (X.comp s H scope C N ex) ifs tc) (he:∀ s H C ex,PE (X.comp s H scope C N ex) elt te)
  (hs:∀ x,foldedSetIterable iter X.env x=pure x:=by intro _; rfl):PE X (.ListComp elt [⟨tg,iter,ifs,0⟩] scope pos) (wR wi caps g tc te):=by
 intro B s E H Q I h
 rw [eval_ListComp]
 have M:closureFor scope X.env=pure (gy X.env.cells scope.names []):=iX fun y F P=>I.ok.has y.1 (S.free y F P)
 refine wpAny_comprehension_free (use:=none) rfl hs M S.kind S.names (aO (hi B s E H _ I h) fun v Y a=>aO a fun u l c=> ?_)
 obtain ⟨Z,d,tn,J,j,e,p,T,i,f2,W,⟨L,R⟩,f⟩:=c
 subst e
 refine lC (RR:=fun t C=>compPost (model X.prog X.w) X.A X.xe none (EP X B E Q) t C) hc p S T i f2 (hg _ _) ho (ht _ _) (he _ _) W L R f ?_
 intro D C V m O z K r q
 exact ⟨m,z,fun k U=>⟨.ref D,O,K.turned (t':=V.toks) (fun b o G e=>(U.2 b G).trans e) r.1 r.2.1 r.2.2.2.1 r.2.2.2.2.1 r.2.2.2.2.2,rfl,q⟩⟩
theorem rS {elt tg iter:Expr}{ifs:List Expr}{pos py spos:Pos}{wi:TI}{g:TG}{tc:TT}{te:TE}{y:Str}{i:Nat}(hN:X.N.Nodup)(hi:X.N[i]?=some y)(hy:X.env.scope.names.lookup y=some .local)
  (hc:X.calm=true) (S:CompSc X scope N caps) (hit:PI X tg iter wi)
  (hg:∀ s H C ex,PG (X.comp s H scope C N ex) tg g) (ho:jv caps g) (ht:∀ s H C ex,Cd (X.comp s H scope C N ex) ifs tc) (he:∀ s H C ex,PE (X.comp s H scope C N ex) elt te)
  (hsw:swapsWith (.ListComp elt [⟨tg,iter,ifs,0⟩] scope pos) (some (.Name y py)) spos.line X.env=pure true:=by rfl)
  (hs:∀ x,foldedSetIterable iter X.env x=pure x:=by intro _; rfl):PS X (.Assign [.Name y py] (.ListComp elt [⟨tg,iter,ifs,0⟩] scope pos) spos) (qG (wR wi caps g tc te) (cc i)):=by
 intro B s G H D I h
 have M:closureFor scope X.env=pure (gy X.env.cells scope.names []):=iX fun y hy P=>I.ok.has y.1 (S.free y hy P)
 rw [exec_Assign_Name_used _ _ _ _ hsw]
 refine wpAny_bind (wpAny_standAt (wpAny_bind ?_))
 show wpAny _ X.A (do let _ ← comprehension (.ListComp elt [⟨tg,iter,ifs,0⟩] scope pos) scope X.env _ (newList []) false (eval iter X.env) (some (assign (.Name y py) X.env))) _ _ s
 refine wpAny_bind (wpAny_mono (wpAny_comprehension_free (use:=some (assign (.Name y py) X.env)) (Q:=fun _ V=>SP X B D .next V) rfl hs M S.kind S.names
  (aO (hit B s G H _ I h) fun v s1 p=>aO p fun u s2 h2=> ?_)) (fun _ V d=>wpAny_pure (wpAny_pure d)) fun _ _ e=>e)
 obtain ⟨it,fp,tn,J,H2,e,I2,T,j,f2,W,⟨Z,k⟩,f⟩:=h2
 subst e
 refine lC (RR:=fun t C=>compPost (model X.prog X.w) X.A X.xe (some (assign (.Name y py) X.env)) (fun _ V=>SP X B D .next V) t C) (Q:=fun x U=>cc i x G U D.nx) hc I2 S T j f2 (hg _ _) ho (ht _ _) (he _ _) W Z k f ?_
 intro Dd C V m O K Y r q
 show wpAny _ _ (assign (.Name y py) X.env (.ref Dd)) _ _ V
 refine wpAny_assign_Name (nY Y (i:=i) hN hi (.inl hy) (v:= .ref Dd) rfl (fun n c E=> ?_) (.inr hy))
 obtain ⟨a,l,R⟩:=E
 have ha':a≠C:=by
  rcases R with z | z
  ·rw [z]; exact Ne.symm r.2.1
  ·exact r.2.2.2.2.1 _ _ z
 refine ⟨m,K.sameBut l (Ne.symm ha'),fun h' F=>⟨_,O,c.turned (t':=n.toks) (fun b o L e=>(F.2 b L).trans e) r.1 r.2.1 r.2.2.2.1 r.2.2.2.2.1 r.2.2.2.2.2,q⟩⟩
end
section
variable{X:Cx}
end
section
variable{X:Cx}{pins:List (Addr×Obj)}{σ:St}{H:Hp}{s:Shared}
structure ExcK (K:W.Frag)(D:Addr):Prop where
 ga:W.findIn K (.ref D) "__getattribute__" =some (some (.builtin "BaseException.__getattribute__"))
 gh:W.findIn K (.ref D) "__getattr__" =some none
 ha:W.findIn K (.ref D) "__class__" =some (some (.builtin "object.__class__"))
 hn:W.specialIn K (.builtin "object.__class__") "__get__" =some (some (.builtin "getset_descriptor.__get__"))
 htk:W.takesIn K (.builtin "object.__class__")=some true
 hm:W.mroIn K D (.type "object")=some true
 hb:W.mroIn K D (.type "BaseException")=some true
 hc:(W.clsIn K D).isSome=true
noncomputable def mZ (e D:Addr)(h:Heap):Prop:=∃ o,h.get? e=some o∧o.cls= .ref D
theorem ij {e D:Addr}{M:Model}{h:Heap}(p:mZ e D h):W.Looks M h (typeOf (.ref e)) (.ref D):=by
 obtain ⟨o,a,b⟩:=p
 exact b ▸ (W.Looks.ld a).andThen .now
end
end L2
namespace PySem.W
open PySem PySem.Spec PySem.Calls PyProof.Rows Builtin Builtin.ObjectAttr Builtin.Getset_descriptor
section
variable{prog:Program}{w:World}{A:Around}{E:Value→Shared→Prop}{s:Shared}{K:Frag}{x C:Addr}
theorem mL {R:Result→Shared→Prop}{tp:Value}(X:K.In s.heap)(I:L2.mZ x C s.heap)(hm:mroIn K C (.type "object")=some true)
  (h:R (.ok (.ret (.ref C))) s):codeAny (model prog w) A (.call (.builtin "getset_descriptor.__get__") ⟨[.builtin "object.__class__",.ref x,tp],[]⟩) R s:=by
 obtain ⟨W,g,E,t,Y⟩:=s
 have D:=L2.ij (M:=model prog w) I
 have B:=looks_mroIn (M:=model prog w) X hm
 refine codeAny_call_builtin KF.slot_gs.plain KF.entry_gs (KF.slot_gs.check _ _ _ _ _ _ _ _ KF.type_class (KF.args_gs _ _ _) ?_)
 unfold Builtin.«getset_descriptor.__get__» descrGet
 rw [dga_obj]
 refine wpAny_bind (wpAny_pure ?_)
 unfold descrGetter descrCheckInstance descrNameAndClass isInstance
 simp only [KF.owner_class]
 repeat lk
 refine ⟨Code.quiet_builtin _ (by decide +kernel),codeAny_builtin KF.entry_class ?_⟩
 unfold Builtin.«object.__class__» shownTypeOf
 repeat lk
 exact h
theorem vg {M:Model}(X:K.In s.heap)(k:L2.ExcK K C):Looks M s.heap (find (.ref x) (.ref C) "__class__") (.bind (.builtin "getset_descriptor.__get__") (.builtin "object.__class__")):=by
 have A:=looks_findIn (M:=M) X k.ha
 have L2:Looks M s.heap (getOf (some (.builtin "object.__class__"))) (some (.builtin "getset_descriptor.__get__")):=looks_specialIn X k.hn
 have D:=looks_takesIn (M:=M) X k.htk
 exact A.andThen (L2.andThen ((show Looks M s.heap (dataDescriptor? (some (.builtin "object.__class__")) (some (.builtin "getset_descriptor.__get__"))) (some (.builtin "getset_descriptor.__get__",.builtin "object.__class__")) from D.andThen .now).andThen (Looks.tag .now)))
theorem t8 {tk:Tok}{Q:PySem.Fin→Shared→Prop}(X:K.In s.heap)(I:L2.mZ x C s.heap)(k:L2.ExcK K C)(h:Q (.done (.ret (.ref C))) s) :
  wpAny (model prog w) A (Builtin.«object.__getattribute__» ⟨[.ref x,.str "__class__" tk],[]⟩) Q E s:=by
 obtain ⟨W,g,d,t,Y⟩:=s
 have B:=L2.ij (M:=model prog w) I
 have LF:=vg (M:=model prog w) (x:=x) X k
 unfold Builtin.«object.__getattribute__»
 refine wpAny_bind (wpAny_pure ?_)
 refine wpAny_bind (wpAny_pure ?_)
 refine wpAny_bind (B.at (wpAny_bind (LF.at ?_)))
 show wpAny _ _ (holding [.builtin "object.__class__"] (call (.builtin "getset_descriptor.__get__") [.builtin "object.__class__",.ref x,.ref C]) >>= fun v=>ret v) _ _ _
 refine wpAny_bind (wpAny_holding (wpAny_call (mL (s:=⟨W,g,d,t,Y⟩) X I k.hm ?_)))
 exact wpAny_pure h
theorem t7 {M:Model}{nameV:Value}{Q:Unit→Shared→Prop}(X:K.In s.heap)(I:L2.mZ x C s.heap)(k:L2.ExcK K C)(hq:Q () s):wpAny M A (checkBuiltinCall "BaseException.__getattribute__" ⟨[.ref x,nameV],[]⟩) Q E s:=by
 obtain ⟨W,g,d,t,Y⟩:=s
 have B:=L2.ij (M:=M) I
 have D:=looks_mroIn (M:=M) X k.hb
 have O:builtinKind "BaseException.__getattribute__" =some .slot:=by decide +kernel
 have G:splitId "BaseException.__getattribute__" =some ("BaseException","__getattribute__"):=by decide +kernel
 have H:=PySem.F.args_bexc_ga (.ref x) nameV
 simp only [checkBuiltinCall,O,G]
 refine wpAny_bind ?_
 unfold isInstance
 refine wpAny_bind (B.at (D.at ?_))
 simp only [if_true,Bool.not_true,Bool.false_eq_true,if_false]
 repeat (first | assumption | wp_step)
theorem exc_class {Q:Option Value→Shared→Prop}(X:K.In s.heap)(I:L2.mZ x C s.heap)(k:L2.ExcK K C)(h:Q (some (.ref C)) { s with toks:=s.toks+1 }):wpAny (model prog w) A (getAttr? (.ref x) "__class__") Q E s:=by
 obtain ⟨W,g,d,t,Y⟩:=s
 have H:=L2.ij (M:=model prog w) I
 have B:=looks_findIn (M:=model prog w) X k.ga
 have L2':=looks_findIn (M:=model prog w) X k.gh
 unfold getAttr? getAttrBy? getAttrBy
 refine wpAny_bind (wpAny_mkText (wpAny_bind (wpAny_attempt (wpAny_holding (wpAny_bind (H.at (wpAny_bind (B.at ?_))))))))
 dsimp only
 have D:(onTheHeap (Value.ref C) && Value.builtin "BaseException.__getattribute__" == Value.builtin "object.__getattribute__")=false:=by
  have G:(Value.builtin "BaseException.__getattribute__" == Value.builtin "object.__getattribute__")=false:=by decide +kernel
  rw [G]; rfl
 rw [D]
 rw [if_neg Bool.false_ne_true]
 have f3:=PySem.F.excAttr_ValueError.ga.bind (.ref x)
 unfold getAttrByItsOwn
 refine wpAny_bind ?_
 show wpAny _ _ (typeLookup (.ref C) "__getattr__") _ _ _
 refine L2'.at ?_
 refine wpAny_bind (wpAny_attempt (wpAny_holding ?_))
 show wpAny _ _ (bindSpecial (.builtin "BaseException.__getattribute__") (.ref x) >>= fun p=>call p.1 (p.2 ++ [.str "__class__" t])) _ _ _
 refine wpAny_bind (wpAny_of_eq f3 ?_)
 show wpAny _ _ (call (.builtin "BaseException.__getattribute__") [.ref x,.str "__class__" t]) _ _ _
 refine wpAny_call (codeAny_call_builtin PySem.F.excAttr_ValueError.ga.plain PySem.F.entry_bexc_ga ?_)
 refine t7 (s:=⟨W,g,d,t+1,Y⟩) X I k ?_
 refine t8 (s:=⟨W,g,d,t+1,Y⟩) X I k ?_
 exact handed_on rfl (wpAny_pure h)
end
end PySem.W
namespace L2
open PySem PySem.Spec PyProof.Rows
theorem vF {K:W.Frag}{e D:Addr}(k:ExcK K D):W.KitX K (.ref e) (.ref D) (mZ e D) where
 ty:=fun _ _ _ p=>ij p
 it:=fun _ _ X _=>by
  have hc:=k.hc
  unfold W.clsIn at hc
  split at hc
  ·rename_i v L H Y E
   intro O N P V k q
   unfold isType loadHead
   exact wpAny_bind (wpAny_loadPart (k _ _ (X _ _ E)) (wpAny_pure q))
  ·cases hc
 ne:=fun h M j m n Q X J=>by
  have hc:=k.hc
  refine Bool.eq_false_iff.mpr fun q=> ?_
  have e:D=M:=Value.ref.inj (beq_iff_eq.mp q)
  subst e
  unfold W.clsIn at hc
  split at hc
  ·rename_i v L H Y E
   have z:=(X _ _ E).symm.trans J
   cases z
  ·cases hc
 ca:=fun X I h=>W.exc_class X I k h
section
variable{X:Cx}{pins:List (Addr×Obj)}{σ:St}{H:Hp}{s:Shared}
noncomputable def cV:V→Value
 | .ref a=> .ref a
 | .ty n=> .type n
 | _=> .none
theorem zV {v:V}{u:Value}(h:RelV v u)(hv:cV v≠ .none):u=cV v:=by
 cases v with
 | ref a=>exact h
 | ty n=>exact h
 | _=>exact absurd rfl hv
end
inductive D where
 | non | bl (b:Bool) | int (i:Int) | str (x:Str) | lst (l:List D) | tup (l:List D)
 | ins (C:Addr) (ns:List Str) (l:List D)
 | dct (ks:List (List ly)) (l:List D)
 | scr (ns:List Int)
 | xc (C:Addr)
 | fdc (ks:List (List ly)) (l:List D)
inductive Res (α:Type) where
 | ok (a:α) | exc (c:Addr) | bad
noncomputable def Res.bind {α β:Type}:Res α→(α→Res β)→Res β
 | .ok a,f=>f a
 | .exc c,_=> .exc c
 | .bad,_=> .bad
structure LsS (K:W.Frag)(G:Hp)(a:Addr)(xs:List V):Prop where
 h:G a=some (.lst xs)
theorem LsS.of {K:W.Frag}{G:Hp}{a:Addr}{xs:List V}(h:G a=some (.lst xs)):LsS K G a xs:=⟨h⟩
theorem LsS.sq {K:W.Frag}{G:Hp}{a:Addr}{xs:List V}(h:LsS K G a xs):fR K G a xs:= .inl (.inl h.h)
structure TpS (K:W.Frag)(G:Hp)(a:Addr)(xs:List V):Prop where
 h:G a=some (.tup xs)
theorem TpS.of {K:W.Frag}{G:Hp}{a:Addr}{xs:List V}(h:G a=some (.tup xs)):TpS K G a xs:=⟨h⟩
theorem TpS.sq {K:W.Frag}{G:Hp}{a:Addr}{xs:List V}(h:TpS K G a xs):lj K G a xs:= .inl (.inl h.h)
instance {K:W.Frag}{G:Hp}{a:Addr}{xs:List V}:Coe (TpS K G a xs) (lj K G a xs):=⟨TpS.sq⟩
mutual
noncomputable def Rep (K:W.Frag)(G:Hp):D→V→Prop
 | .non,v=>v= .non
 | .bl b,v=>v= .bl b
 | .int i,v=>v= .int i
 | .str x,v=>v= .str x
 | .lst ds,v=>∃ a xs,v= .ref a∧LsS K G a xs∧RepL K G ds xs
 | .tup ds,v=>∃ a xs,v= .ref a∧TpS K G a xs∧RepL K G ds xs
 | .ins C ns ds,v=>∃ a dx fs,v= .ref a∧G a=some (.ins C dx fs)∧fs.map (·.1)=ns∧RepL K G ds (fs.map (·.2))
 | .dct ks ds,v=>∃ a kvs,v= .ref a∧Rd G a (.dT kvs)∧kvs.map (·.1)=ks∧RepL K G ds (kvs.map (·.2))
 | .scr ns,v=>∃ a,v= .ref a∧fR K G a (ns.map V.int)
 | .xc C,v=>∃ a,v= .ref a∧G a=some (kU a (.ref C))∧ExcK K C
 | .fdc ks ds,v=>∃ a o kvs,v= .ref a∧G a=some (.frz o (.dT kvs))∧kvs.map (·.1)=ks∧RepL K G ds (kvs.map (·.2))
noncomputable def RepL (K:W.Frag)(G:Hp):List D→List V→Prop
 | [],vs=>vs=[]
 | d :: ds,vs=>∃ v r,vs=v :: r∧Rep K G d v∧RepL K G ds r
end
theorem Same.seqT {K:W.Frag}{H H':Hp}{a:Addr}{xs:List V}(e:Same H H')(h:lj K H a xs):lj K H' a xs:=by
 rcases h with (h | ⟨o,h⟩) | h
 ·exact .inl (.inl (e _ _ h))
 ·exact .inl (.inr ⟨o,e _ _ h⟩)
 ·exact .inr h
mutual
theorem Rep.mono {K:W.Frag}{G G':Hp}(e:Same G G'):∀ {d:D} {v:V},Rep K G d v→Rep K G' d v
 | .non,_,h=>h
 | .bl _,_,h=>h
 | .int _,_,h=>h
 | .str _,_,h=>h
 | .lst _,_,h=>by
  unfold Rep at h ⊢
  refine bL (h) fun a f r s t=> ?_
  exact (dL a f r ⟨e _ _ s.h⟩ (RepL.mono e t))
 | .tup _,_,h=>by
  unfold Rep at h ⊢
  refine bL (h) fun a f r s t=> ?_
  exact (dL a f r ⟨e _ _ s.h⟩ (RepL.mono e t))
 | .ins _ _ _,_,h=>by
  unfold Rep at h ⊢
  refine f_ (h) fun a g fs r s n t=> ?_
  exact (iM a g fs r (e _ _ s) n (RepL.mono e t))
 | .dct _ _,_,h=>by
  unfold Rep at h ⊢
  refine mH (h) fun a c r s n t=> ?_
  refine (kZ a c r ?_ n (RepL.mono e t))
  rcases s with s | ⟨o,s⟩
  ·exact .inl (e _ _ s)
  ·exact .inr ⟨o,e _ _ s⟩
 | .scr _,_,h=>by
  unfold Rep at h ⊢
  obtain ⟨a,r,s⟩:=h
  exact ⟨a,r,e.seq s⟩
 | .xc _,_,h=>by
  unfold Rep at h ⊢
  refine dr (h) fun a r s k=> ?_
  exact (iZ a r (e _ _ s) k)
 | .fdc _ _,_,h=>by
  unfold Rep at h ⊢
  refine f_ (h) fun a o c r s n t=> ?_
  exact (iM a o c r (e _ _ s) n (RepL.mono e t))
theorem RepL.mono {K:W.Frag}{G G':Hp}(e:Same G G'):∀ {ds:List D} {vs:List V},RepL K G ds vs→RepL K G' ds vs
 | [],_,h=>h
 | _ :: _,_,h=>by
  unfold RepL at h ⊢
  refine bL (h) fun v r q a b=> ?_
  exact (dL v r q (Rep.mono e a) (RepL.mono e b))
end
theorem RepL.length {K:W.Frag}{G:Hp}:∀ {ds:List D} {vs:List V},RepL K G ds vs→ds.length=vs.length
 | [],vs,h=>by unfold RepL at h; rw [h]; rfl
 | d :: ds,vs,h=>by
  unfold RepL at h
  refine bL (h) fun v r N _ b=> ?_; subst N
  rw [List.length_cons,List.length_cons,RepL.length b]
theorem RepL.nil {K:W.Frag}{G:Hp}:RepL K G [] []:=by unfold RepL; rfl
theorem RepL.cons {K:W.Frag}{G:Hp}{d:D}{v:V}{ds:List D}{vs:List V}(a:Rep K G d v)(b:RepL K G ds vs):RepL K G (d :: ds) (v :: vs):=by unfold RepL; exact (dL v vs rfl a b)
theorem RepL.inv {K:W.Frag}{G:Hp}{d:D}{ds:List D}{vs:List V}(h:RepL K G (d :: ds) vs):∃ v r,vs=v :: r∧Rep K G d v∧RepL K G ds r:=by unfold RepL at h; exact h
theorem RepL.inv0 {K:W.Frag}{G:Hp}{vs:List V}(h:RepL K G [] vs):vs=[]:=by unfold RepL at h; exact h
theorem RepL.append {K:W.Frag}{G:Hp}:∀ {ds es:List D} {vs ws:List V},RepL K G ds vs→RepL K G es ws→RepL K G (ds ++ es) (vs ++ ws)
 | [],_,_,_,h,h'=>by rw [h.inv0]; exact h'
 | _ :: _,_,_,_,h,h'=>by
  refine bL (h.inv) fun v r O a b=> ?_; subst O
  exact .cons a (RepL.append b h')
theorem RepL.get {K:W.Frag}{G:Hp}:∀ {ds:List D} {vs:List V} {i:Nat} {d:D},RepL K G ds vs→ds[i]?=some d→∃ v,vs[i]?=some v∧Rep K G d v
 | [],_,_,_,_,e=>by simp at e
 | _ :: _,_,0,_,h,e=>by
  refine bL (h.inv) fun v r P a b=> ?_; subst P
  simp at e; subst e
  exact ⟨v,rfl,a⟩
 | _ :: _,_,i+1,_,h,e=>by
  refine cps fun PP H=> ?_
  refine bL (h.inv) fun v r Q a b=> ?_; subst Q
  obtain ⟨w,c,f⟩:=RepL.get (i:=i) b (by simpa using e)
  refine H ?_; clear H PP
  exact ⟨w,by simpa using c,f⟩
theorem RepL.take {K:W.Frag}{G:Hp}:∀ {ds:List D} {vs:List V} (n:Nat),RepL K G ds vs→RepL K G (ds.take n) (vs.take n)
 | _,_,0,_=>by simpa using RepL.nil
 | [],_,_+1,h=>by rw [h.inv0]; simpa using RepL.nil
 | _ :: _,_,n+1,h=>by
  refine bL (h.inv) fun v r R a b=> ?_; subst R
  exact .cons a (RepL.take n b)
theorem RepL.drop {K:W.Frag}{G:Hp}:∀ {ds:List D} {vs:List V} (n:Nat),RepL K G ds vs→RepL K G (ds.drop n) (vs.drop n)
 | _,_,0,h=>h
 | [],_,_+1,h=>by rw [h.inv0]; simpa using RepL.nil
 | _ :: _,_,n+1,h=>by
  refine bL (h.inv) fun v r S a b=> ?_; subst S
  exact RepL.drop n b
theorem RepL.set {K:W.Frag}{G:Hp}{d:D}{v:V}(r:Rep K G d v):∀ {ds:List D} {vs:List V} (i:Nat),RepL K G ds vs→RepL K G (ds.set i d) (vs.set i v)
 | [],_,_,h=>by rw [h.inv0]; simpa using RepL.nil
 | _ :: _,_,0,h=>by
  refine bL (h.inv) fun w q U a b=> ?_; subst U
  exact .cons r b
 | _ :: _,_,i+1,h=>by
  refine bL (h.inv) fun w q T a b=> ?_; subst T
  exact .cons a (RepL.set r i b)
theorem RepL.reverse {K:W.Frag}{G:Hp}:∀ {ds:List D} {vs:List V},RepL K G ds vs→RepL K G ds.reverse vs.reverse
 | [],_,h=>by rw [h.inv0]; simpa using RepL.nil
 | _ :: _,_,h=>by
  refine bL (h.inv) fun v r X a b=> ?_; subst X
  rw [List.reverse_cons,List.reverse_cons]
  exact (RepL.reverse b).append (.cons a .nil)
theorem RepL.ints {K:W.Frag}{G:Hp}:∀ {ns:List Int} {vs:List V},RepL K G (ns.map D.int) vs→vs=ns.map V.int
 | [],_,h=>h.inv0
 | n :: ns,_,h=>by
  refine bL (RepL.inv (by simpa using h)) fun v r X a b=> ?_; subst X
  rw [RepL.ints b]
  have a':v= .int n:=by unfold Rep at a; exact a
  rw [a']; rfl
noncomputable def lW (o:HO):Prop:=∃ ks:List ly,o= .tup (ks.map kV)
structure Ext (G H G' H':Hp):Prop where
 hh:Same H H'
 gg:Same G G'
 gh:Same G' H'
 nw:∀ b o,G' b=some o→G b=some o∨H b=none∨lW o
theorem Ext.refl {G H:Hp}(s:Same G H):Ext G H G H:=⟨.refl _,.refl _,s,fun _ _ h=> .inl h⟩
theorem Ext.trans {G H G1 H1 G2 H2:Hp}(a:Ext G H G1 H1)(b:Ext G1 H1 G2 H2):Ext G H G2 H2:=
 ⟨a.hh.trans b.hh,a.gg.trans b.gg,b.gh,fun c o h=>(b.nw c o h).elim (fun z=>a.nw c o z) fun z=> .inr (z.imp a.hh.free id)⟩
theorem Ext.new {G H:Hp}(s:Same G H){p:Addr}(hp:H p=none)(o:HO):Ext G H (bu G p o) (bu H p o):=
 ⟨fun b u e=>by rw [am (aw e hp)]; exact e,fun b u e=>by rw [am (aw (s b u e) hp)]; exact e,
  fun b u e=>by
   by_cases v:b=p
   ·subst v; rw [az] at e ⊢; exact e
   ·rw [am v] at e ⊢; exact s b u e,
  fun b u e=>by
   by_cases v:b=p
   ·subst v; exact .inr (.inl hp)
   ·rw [am v] at e; exact .inl e⟩
noncomputable def OkR {α:Type}(E:XK)(H:Hp):Res α→Prop
 | .ok _=>True
 | .exc c=>∀ H',Same H H'→E (.ref c) none H'
 | .bad=>False
theorem OkR.fst {α β:Type}{E:XK}{H:Hp}{x:Res α}{f:α→Res β}(h:OkR E H (x.bind f)):OkR E H x:=by
 cases x with
 | ok a=>trivial
 | exc c=>exact h
 | bad=>exact h
theorem OkR.snd {α β:Type}{E:XK}{H H1:Hp}{x:Res α}{f:α→Res β}{a:α}(h:OkR E H (x.bind f))(e:x= .ok a)(s:Same H H1):OkR E H1 (f a):=by
 subst e
 have h':OkR E H (f a):=h
 cases q:f a with
 | ok b=>trivial
 | exc c=>rw [q] at h'; exact fun O V=>h' O (s.trans V)
 | bad=>rw [q] at h'; exact h'
theorem OkR.le {α:Type}{E:XK}{H H1:Hp}{x:Res α}(h:OkR E H x)(s:Same H H1):OkR E H1 x:=by
 cases x with
 | ok b=>trivial
 | exc c=>exact fun O V=>h O (s.trans V)
 | bad=>exact h
theorem ao {α β:Type}{x:Res α}{f:α→Res β}{a:α}{b:β}(e:x= .ok a)(h:f a= .ok b):x.bind f= .ok b:=by subst e; exact h
noncomputable abbrev DS:=List (Option D)
noncomputable def Ro (K:W.Frag)(G:Hp)(σ:St)(ρ:DS):Prop:=∀ (i:Nat) (d:D),ρ[i]?=some (some d)→∃ v,σ[i]?=some (some v)∧Rep K G d v
theorem Ro.mono {K:W.Frag}{G G':Hp}{σ:St}{ρ:DS}(h:Ro K G σ ρ)(s:Same G G'):Ro K G' σ ρ:=fun i d e=>let ⟨v,a,b⟩:=h i d e; ⟨v,a,b.mono s⟩
theorem Ro.nil {K:W.Frag}{G:Hp}{σ:St}:Ro K G σ []:=fun i d e=>by simp at e
theorem Ro.cons {K:W.Frag}{G:Hp}{σ:St}{ρ:DS}{v:V}{d:D}(a:Rep K G d v)(h:Ro K G σ ρ):Ro K G (some v :: σ) (some d :: ρ):=fun i e q=>by
 cases i with
 | zero=>simp at q; subst q; exact ⟨v,rfl,a⟩
 | succ i=>simpa using h i e (by simpa using q)
theorem Ro.skip {K:W.Frag}{G:Hp}{σ:St}{ρ:DS}{o:Option V}(h:Ro K G σ ρ):Ro K G (o :: σ) (none :: ρ):=fun i e q=>by
 cases i with
 | zero=>simp at q
 | succ i=>simpa using h i e (by simpa using q)
inductive DQ (X:Cx)(pins:List (Addr×Obj))(σ:St)(G H:Hp)(o:Res D)(u:Value)(s':Shared):Prop
 | mk (d:D) (e:o= .ok d) (v:V) (G' H':Hp) (i:Inv X pins σ H' s') (r:RelV v u) (x:Ext G H G' H') (p:Rep X.K G' d v)
inductive DAQ (X:Cx)(pins:List (Addr×Obj))(σ:St)(G H:Hp)(o:Res (List D))(us:List Value)(s':Shared):Prop
 | mk (ds:List D) (e:o= .ok ds) (vs:List V) (G' H':Hp) (i:Inv X pins σ H' s') (r:Vals vs us) (x:Ext G H G' H') (p:RepL X.K G' ds vs)
inductive DTQ (X:Cx)(pins:List (Addr×Obj))(σ:St)(G H:Hp)(o:Res Bool)(b:Bool)(s':Shared):Prop
 | mk (e:o= .ok b) (G' H':Hp) (i:Inv X pins σ H' s') (x:Ext G H G' H')
noncomputable def PD (X:Cx)(E:XK)(e:Expr)(f:DS→Res D):Prop:=
 ∀ (pins:List (Addr×Obj)) (s:Shared) (σ:St) (G H:Hp) (ρ:DS),Inv X pins σ H s→Same G H→Ro X.K G σ ρ→OkR E H (f ρ)→
  wpAny (model X.prog X.w) X.A (eval e X.env) (DQ X pins σ G H (f ρ)) X.xe s
noncomputable def j0 (X:Cx)(E:XK)(es:List Expr)(f:DS→Res (List D)):Prop:=
 ∀ (pos:Pos) (pins:List (Addr×Obj)) (s:Shared) (σ:St) (G H:Hp) (ρ:DS),Inv X pins σ H s→Same G H→Ro X.K G σ ρ→OkR E H (f ρ)→
  wpAny (model X.prog X.w) X.A (spliced (backTo pos (starEach es X.env))) (DAQ X pins σ G H (f ρ)) X.xe s
noncomputable def qR (X:Cx)(E:XK)(e:Expr)(f:DS→Res Bool):Prop:=
 ∀ (pins:List (Addr×Obj)) (s:Shared) (σ:St) (G H:Hp) (ρ:DS),Inv X pins σ H s→Same G H→Ro X.K G σ ρ→OkR E H (f ρ)→
  wpAny (model X.prog X.w) X.A (isTrue e X.env (eval e X.env)) (DTQ X pins σ G H (f ρ)) X.xe s
noncomputable def PDW (X:Cx)(E:XK)(e:Expr)(f:DS→Res Bool):Prop:=
 ∀ (whole:Sem Value) (pins:List (Addr×Obj)) (s:Shared) (σ:St) (G H:Hp) (ρ:DS),Inv X pins σ H s→Same G H→Ro X.K G σ ρ→OkR E H (f ρ)→
  wpAny (model X.prog X.w) X.A (isTrue e X.env whole) (DTQ X pins σ G H (f ρ)) X.xe s
theorem PDW.pt {X:Cx}{E:XK}{e:Expr}{f:DS→Res Bool}(h:PDW X E e f):qR X E e f:=h _
inductive tD (K:W.Frag)(E:XK)(f:DS→Res D)(σ:St)(H:Hp)(Q:VK):Prop
 | mk (G:Hp) (ρ:DS) (s:Same G H) (r:Ro K G σ ρ) (o:OkR E H (f ρ)) (k:∀ d,f ρ= .ok d→∀ v G' H',Ext G H G' H'→Rep K G' d v→Q v H')
theorem dq {X:Cx}{E:XK}{e:Expr}{f:DS→Res D}(h:PD X E e f):PE X e (tD X.K E f):=by
 intro A s B H Q I Z
 obtain ⟨G,b,L,P,F,k⟩:=Z
 refine aO (h A s B G H b I L P F) fun u V Y=>(by obtain ⟨d,e,v,c,O,y,g,x,a⟩:=Y; exact ⟨v,O,y,g,k d e v c O x a⟩)
inductive tDT (K:W.Frag)(E:XK)(f:DS→Res Bool)(σ:St)(H:Hp)(Q:Bool→Hp→Prop):Prop
 | mk (G:Hp) (ρ:DS) (s:Same G H) (r:Ro K G σ ρ) (o:OkR E H (f ρ)) (k:∀ b,f ρ= .ok b→∀ G' H',Ext G H G' H'→Q b H')
inductive tDA (K:W.Frag)(E:XK)(f:DS→Res (List D))(σ:St)(H:Hp)(Q:List V→Hp→Prop):Prop
 | mk (G:Hp) (ρ:DS) (s:Same G H) (r:Ro K G σ ρ) (o:OkR E H (f ρ)) (k:∀ ds,f ρ= .ok ds→∀ vs G' H',Ext G H G' H'→RepL K G' ds vs→Q vs H')
theorem g_ {X:Cx}{E:XK}{es:List Expr}{f:DS→Res (List D)}(h:j0 X E es f):PA X es (tDA X.K E f):=by
 intro l A s B H Q I d
 obtain ⟨G,a,L,P,F,k⟩:=d
 refine aO (h l A s B G H a I L P F) fun W V c=>(by obtain ⟨g,e,r,b,O,y,i,x,Z⟩:=c; exact ⟨r,O,y,i,k g e r b O x Z⟩)
section
variable{X:Cx}{E:XK}
theorem Bs {i:Nat}{x:Str}{pos:Pos}(hN:X.N[i]?=some x)(hv:oe X.env.scope x)(hd:(x == ("__debug__" :Str))=false:=by decide)(hcd:(x == ("__classdict__" :Str))=false:=by decide) :
  PD X E (.Name x pos) (fun ρ=>match ρ[i]? with | some (some d)=> .ok d | _=> .bad):=by
 intro A s B G H ρ I L P D
 cases e:ρ[i]? with
 | none=>simp only [e] at D; exact D.elim
 | some o=>
  cases o with
  | none=>simp only [e] at D; exact D.elim
  | some d=>
   obtain ⟨v,g,Z⟩:=P i d e
   exact aO (cx hN hv hd hcd A s B H (fun h O=>O=H∧h=v) I (iZ v g rfl rfl)) fun u V f=>by
    obtain ⟨h,O,y,r,T,t⟩:=f
    subst T t
    exact ⟨d,by simp only [e],h,G,O,y,r,.refl L,Z⟩
theorem ls {e:Expr}{t:TE}{d:D}(h:PE X e t)(ht:∀ σ H,t σ H fun v H'=>H'=H∧∀ G,Rep X.K G d v):PD X E e (fun _=> .ok d):=by
 intro A s σ G H a I L P F
 refine aO (h A s σ H _ I (ht σ H)) fun u V i=> ?_
 obtain ⟨v,H',x,r,T,w⟩:=i
 subst T
 exact ⟨d,rfl,v,G,H',x,r,.refl L,w G⟩
theorem af {i j pos}:PD X E (.Constant (.int i) j pos) (fun _=> .ok (.int i)):=ls we fun _ _=>⟨rfl,fun _=>by unfold Rep; rfl⟩
theorem bJ {b j pos}:PD X E (.Constant (.bool b) j pos) (fun _=> .ok (.bl b)):=ls DR fun _ _=>⟨rfl,fun _=>by unfold Rep; rfl⟩
theorem rJ {j pos}:PD X E (.Constant .none j pos) (fun _=> .ok .non):=ls Bu fun _ _=>⟨rfl,fun _=>by unfold Rep; rfl⟩
theorem v8 {x:Str}{i:Int}{u:Value}{pos:Pos}(hg:Gl X x)(hm:X.mg x=some u)(r:∃ t,u= .int i t)(hd:(x == ("__debug__" :Str))=false:=by decide):PD X E (.Name x pos) (fun _=> .ok (.int i)):=
 ls (s9 (v:= .int i) hg hm r hd) fun _ _=>⟨rfl,fun _=>by unfold Rep; rfl⟩
theorem ag:j0 X E [] (fun _=> .ok []):=fun _ _ _ _ G H _ I L _ _=>Calls.spliced_nil ⟨[],rfl,[],G,H,I,.nil,.refl L,.nil⟩
theorem aa {e:Expr}{es:List Expr}{f:DS→Res D}{g:DS→Res (List D)}(ha:PD X E e f)(hr:j0 X E es g)(hs:starEach (e :: es) X.env=(false,eval e X.env) :: starEach es X.env:=by rfl) :
  j0 X E (e :: es) (fun ρ=>(f ρ).bind fun d=>(g ρ).bind fun ds=> .ok (d :: ds)):=by
 intro o A s B G H ρ I n k F
 have l:PA X (e :: es) (tI (tD X.K E f) (tDA X.K E g)):=bq (dq ha) (g_ hr) hs
 refine aO (l o A s B H (fun t O=>∃ ds,((f ρ).bind fun d=>(g ρ).bind fun ds=> .ok (d :: ds))= .ok ds∧∃ b,Ext G H b O∧RepL X.K b ds t) I ?_) fun W V j=>(by obtain ⟨t,O,C,r,ds,T,b,x,Z⟩:=j; exact ⟨ds,T,t,b,O,C,r,x,Z⟩)
 refine ⟨G,ρ,n,k,F.fst,fun d p v y S u U=>⟨y,ρ,u.gh,k.mono u.gg,(F.snd p u.hh).fst,fun ds m t q i w z=>(CC (d :: ds) (ao p (ao m rfl)) q (u.trans w) (.cons (U.mono w.gg) z))⟩⟩
noncomputable def DOp (X:Cx)(E:XK)(f:Value→Value→Sem Value)(g:D→D→Res D):Prop:=
 ∀ (pins:List (Addr×Obj)) (s:Shared) (σ:St) (G H:Hp) (x y:V) (dx dy:D) (v u:Value),Inv X pins σ H s→Same G H→Rep X.K G dx x→Rep X.K G dy y→RelV x v→RelV y u→OkR E H (g dx dy)→
  wpAny (model X.prog X.w) X.A (f v u) (DQ X pins σ G H (g dx dy)) X.xe s
theorem DOp.of {f:Value→Value→Sem Value}{r:R2}{g:D→D→Res D}(ho:pz X f r)
  (h:∀ (G H:Hp) (x y:V) (dx dy:D),Same G H→Rep X.K G dx x→Rep X.K G dy y→OkR E H (g dx dy)→r x y H (fun v' H'=>∃ d G',g dx dy= .ok d∧Ext G H G' H'∧Rep X.K G' d v')):DOp X E f g:=by
 intro A s B G H x y dx dy v u I L J z c F ok
 refine aO (ho A s B H x y v u _ I c F (h G H x y dx dy L J z ok)) fun w W t=>(by obtain ⟨v',H',C,i,d,G',e,M,Z⟩:=t; exact ⟨d,e,v',G',H',C,i,M,Z⟩)
noncomputable def ae (f:DS→Res D)(g:DS→Res D)(o:D→D→Res D):DS→Res D:=fun ρ=>(f ρ).bind fun a=>(g ρ).bind fun b=>o a b
theorem rK {a b:Expr}{fa fb:DS→Res D}(ha:PD X E a fa)(hb:PD X E b fb){op:Value→Value→Sem Value}{o:D→D→Res D}(hop:DOp X E op o){pins:List (Addr×Obj)}{s:Shared}{σ:St}{G H:Hp}{ρ:DS}(I:Inv X pins σ H s)(hs:Same G H)(hro:Ro X.K G σ ρ)(ho:OkR E H (ae fa fb o ρ)) :
  wpAny (model X.prog X.w) X.A (eval a X.env) (fun v s₁=>wpAny (model X.prog X.w) X.A (eval b X.env) (fun u s₂=>wpAny (model X.prog X.w) X.A (op v u) (DQ X pins σ G H (ae fa fb o ρ)) X.xe s₂) X.xe s₁) X.xe s:=by
 refine aO (ha pins s σ G H ρ I hs hro ho.fst) fun v N y=> ?_
 obtain ⟨J,T,P,q,S,Q,U,t,M⟩:=y
 refine aO (hb pins N σ q S ρ Q t.gh (hro.mono t.gg) (ho.snd T t.hh).fst) fun u r x=> ?_
 obtain ⟨c,C,V,p,i,Z,k,B,L⟩:=x
 refine aO (hop pins r σ p i P V J c v u Z B.gh (M.mono B.gg) L U k ((ho.snd T t.hh).snd C B.hh)) fun w f z=> ?_
 obtain ⟨d,e,Y,R,n,m,W,F,O⟩:=z
 exact ⟨d,ao T (ao C e),Y,R,n,m,W,(t.trans B).trans F,O⟩
theorem au {op:Operator}{a b:Expr}{fa fb:DS→Res D}{o:D→D→Res D}{pos:Pos}(hop:DOp X E (binaryOp op) o)(ha:PD X E a fa)(hb:PD X E b fb):PD X E (.BinOp a op b pos) (ae fa fb o):=
 fun A s B G H c I L k F=>wpAny_BinOp (rK ha hb hop I L k F)
theorem Bo {op:CmpOp}{a b:Expr}{fa fb:DS→Res D}{o:D→D→Res D}{pos:Pos}(hop:DOp X E (compareOp op) o)(ha:PD X E a fa)(hb:PD X E b fb)(hm:behindInMarks op b=false):PD X E (.Compare a [op] [b] pos) (ae fa fb o):=
 fun A s B G H c I L k F=>wpAny_Compare1 (rK ha hb hop I L k F) hm
noncomputable def cQ (f:DS→Res D):DS→Res Bool:=fun ρ=>(f ρ).bind fun d=>match d with | .bl b=> .ok b | _=> .bad
theorem aK {op:CmpOp}{a b:Expr}{fa fb:DS→Res D}{o:D→D→Res D}{pos:Pos}(hop:DOp X E (compareOp op) o)(ha:PD X E a fa)(hb:PD X E b fb)(hm:behindInMarks op b=false):qR X E (.Compare a [op] [b] pos) (cQ (ae fa fb o)):=by
 intro A s M G H h I L l F
 refine wpAny_isTrue_Compare1 (aO (rK ha hb hop I L l F.fst) fun v N f=>aO f fun u p g=>aO g fun c q J=> ?_) hm
 obtain ⟨d,e,O,C,n,m,K,w,B⟩:=J
 have k:=F.snd e (Same.refl H)
 cases d with
 | bl b=>
  unfold Rep at B; subst B; cases K
  exact wpAny_truthy_bool ⟨ao e rfl,C,n,m,w⟩
 | _=>exact k.elim
theorem eC {e:Expr}{f:DS→Res D}(h:PD X E e f)(he:∀ whole,isTrue e X.env whole=(do let v ← whole; standAt e.pos; holding [v] (truthy v)):=by intro _; rfl):qR X E e (cQ f):=by
 intro A s C G H a I L l F
 refine isTrue_plain (aO (h A s C G H a I L l F.fst) fun v N J=> ?_) (he _)
 obtain ⟨d,e,O,K,n,m,M,w,B⟩:=J
 have k:=F.snd e (Same.refl H)
 cases d with
 | bl b=>
  unfold Rep at B; subst B; cases M
  exact wpAny_truthy_bool ⟨ao e rfl,K,n,m,w⟩
 | _=>exact k.elim
end
theorem rep_int {K:W.Frag}{G:Hp}{i:Int}{v:V}:Rep K G (.int i) v↔v= .int i:=by unfold Rep; exact Iff.rfl
theorem rep_bl {K:W.Frag}{G:Hp}{i:Bool}{v:V}:Rep K G (.bl i) v↔v= .bl i:=by unfold Rep; exact Iff.rfl
theorem rep_non {K:W.Frag}{G:Hp}{v:V}:Rep K G .non v↔v= .non:=by unfold Rep; exact Iff.rfl
theorem rep_str {K:W.Frag}{G:Hp}{i:Str}{v:V}:Rep K G (.str i) v↔v= .str i:=by unfold Rep; exact Iff.rfl
theorem rep_lst {K:W.Frag}{G:Hp}{ds:List D}{v:V}:Rep K G (.lst ds) v↔∃ a xs,v= .ref a∧LsS K G a xs∧RepL K G ds xs:=by unfold Rep; exact Iff.rfl
theorem rep_tup {K:W.Frag}{G:Hp}{ds:List D}{v:V}:Rep K G (.tup ds) v↔∃ a xs,v= .ref a∧TpS K G a xs∧RepL K G ds xs:=by unfold Rep; exact Iff.rfl
theorem tF {K:W.Frag}{G:Hp}{ns:List Int}{v:V}:Rep K G (.scr ns) v↔∃ a,v= .ref a∧fR K G a (ns.map V.int):=by unfold Rep; exact Iff.rfl
theorem rep_xc {K:W.Frag}{G:Hp}{C:Addr}{v:V}:Rep K G (.xc C) v↔∃ a,v= .ref a∧G a=some (kU a (.ref C))∧ExcK K C:=by unfold Rep; exact Iff.rfl
theorem rep_dct {K:W.Frag}{G:Hp}{ks:List (List ly)}{ds:List D}{v:V}:Rep K G (.dct ks ds) v↔∃ a kvs,v= .ref a∧Rd G a (.dT kvs)∧kvs.map (·.1)=ks∧RepL K G ds (kvs.map (·.2)):=by unfold Rep; exact Iff.rfl
theorem rep_ins {K:W.Frag}{G:Hp}{C:Addr}{ns:List Str}{ds:List D}{v:V}:Rep K G (.ins C ns ds) v↔∃ a dx fs,v= .ref a∧G a=some (.ins C dx fs)∧fs.map (·.1)=ns∧RepL K G ds (fs.map (·.2)):=by unfold Rep; exact Iff.rfl
noncomputable def gY (c:Int→Int→Bool)(g:Int→Int→D):D→D→Res D
 | .int i,.int j=>if c i j=true then .ok (g i j) else .bad
 | _,_=> .bad
section
variable{X:Cx}{E:XK}
theorem om {f:Value→Value→Sem Value}{C:Int→Int→Prop}{g:Int→Int→V}{c:Int→Int→Bool}{gD:Int→Int→D}(ho:pz X f (rI C g))(hc:∀ i j,c i j=true→C i j)(hg:∀ i j G,Rep X.K G (gD i j) (g i j)):DOp X E f (gY c gD):=
 DOp.of ho fun G H x y k I L w v ok=>by
  unfold gY at ok ⊢
  split at ok
  ·rename_i i j
   rw [rep_int] at w v
   subst w v
   by_cases h:c i j=true
   ·rw [if_pos h]
    exact (Di i j rfl rfl (hc i j h) _ G rfl (.refl L) (hg i j G))
   ·rw [if_neg h] at ok; exact ok.elim
  ·exact ok.elim
theorem ig {f:Value→Value→Sem Value}{g:Int→Int→V}{gD:Int→Int→D}(ho:pz X f (zE g))(hg:∀ i j G,Rep X.K G (gD i j) (g i j)):DOp X E f (gY (fun _ _=>true) gD):=
 DOp.of ho fun G H x y h I L w v ok=>by
  unfold gY at ok ⊢
  split at ok
  ·rename_i i j
   rw [rep_int] at w v
   subst w v
   exact (CD i j rfl rfl _ G rfl (.refl L) (hg i j G))
  ·exact ok.elim
instance (i j:Int):Decidable (CMul i j):=by unfold CMul; infer_instance
instance (i j:Int):Decidable (uO i j):=by unfold uO; infer_instance
noncomputable def uR:D→D→Res D:=gY (fun _ _=>true) fun i j=> .int (i+j)
noncomputable def pe:D→D→Res D:=gY (fun _ _=>true) fun i j=> .int (i - j)
noncomputable def um:D→D→Res D:=gY (fun i j=>decide (CMul i j)) fun i j=> .int (i * j)
noncomputable def sK:D→D→Res D:=gY (fun i j=>decide (uO i j)) fun i j=> .int (i / j)
noncomputable def oO:D→D→Res D:=gY (fun _ j=>decide (0 < j)) fun i j=> .int (i % j)
noncomputable def qd:D→D→Res D:=gY (fun _ _=>true) fun i j=> .bl (decide (i < j))
noncomputable def qP:D→D→Res D:=gY (fun _ _=>true) fun i j=> .bl (decide (i≤j))
noncomputable def EM:D→D→Res D:=gY (fun _ _=>true) fun i j=> .bl (decide (j < i))
noncomputable def FW:D→D→Res D:=gY (fun _ _=>true) fun i j=> .bl (decide (j≤i))
theorem do_add:DOp X E (binaryOp .Add) uR:=ig Be fun _ _ _=>rep_int.mpr rfl
theorem lD:DOp X E (binaryOp .Sub) pe:=ig Bk fun _ _ _=>rep_int.mpr rfl
theorem do_mul:DOp X E (binaryOp .Mult) um:=om Bi (fun _ _ h=>of_decide_eq_true h) fun _ _ _=>rep_int.mpr rfl
theorem xD:DOp X E (binaryOp .FloorDiv) sK:=om yA (fun _ _ h=>of_decide_eq_true h) fun _ _ _=>rep_int.mpr rfl
theorem j2:DOp X E (binaryOp .Mod) oO:=om Bg (fun _ _ h=>of_decide_eq_true h) fun _ _ _=>rep_int.mpr rfl
theorem jz:DOp X E (compareOp .Lt) qd:=ig DN fun _ _ _=>rep_bl.mpr rfl
theorem gR:DOp X E (compareOp .LtE) qP:=ig DM fun _ _ _=>rep_bl.mpr rfl
theorem Cl:DOp X E (compareOp .Gt) EM:=ig DL fun _ _ _=>rep_bl.mpr rfl
noncomputable def yt:D→Res D
 | .int i=> .ok (.int (-i))
 | _=> .bad
theorem iD {a:Expr}{fa:DS→Res D}{pos:Pos}(ha:PD X E a fa):PD X E (.UnaryOp .USub a pos) (fun ρ=>(fa ρ).bind yt):=by
 intro A s B G H ρ I L l F
 refine UnaryOp_ (aO (ha A s B G H ρ I L l F.fst) fun v N K=> ?_)
 obtain ⟨x,T,C,q,S,Q,U,t,z⟩:=K
 have k:=F.snd T t.hh
 cases x with
 | int i=>
  rw [rep_int] at z; subst z
  exact aO (BU A N B S (.int i) v (fun h O=>O=S∧h= .int (-i)) Q U (iZ i rfl rfl rfl)) fun w o J=>by
   obtain ⟨M,j,p,m,b,c⟩:=J
   subst b c
   exact ⟨.int (-i),ao T rfl,_,q,_,p,m,t,rep_int.mpr rfl⟩
 | _=>exact k.elim
noncomputable def Ey (d:D):Bool:=match d with | .non=>true | _=>false
noncomputable def EW (d e:D):Res D:=match e with | .non=> .ok (.bl (Ey d)) | _=> .bad
noncomputable def DH (d e:D):Res D:=match e with | .non=> .ok (.bl (!Ey d)) | _=> .bad
theorem wd {a:Expr}{pos:Pos}{f:DS→Res Bool}(ha:qR X E a f):PDW X E (.BoolOp .And [a] pos) f:=by
 intro M A s B G H b I L k D
 refine isTrue_and (aO (ha A s B G H b I L k D) fun c N e=> ?_)
 cases c with
 | true=>exact isTrue_and_nil e
 | false=>exact e
theorem jO {a:Expr}{pos:Pos}{f:DS→Res Bool}(ha:qR X E a f):PDW X E (.BoolOp .Or [a] pos) f:=by
 intro M A s B G H b I L k D
 refine isTrue_or (aO (ha A s B G H b I L k D) fun c N e=> ?_)
 cases c with
 | false=>exact isTrue_or_nil e
 | true=>exact e
noncomputable def xl (f g:DS→Res Bool):DS→Res Bool:=fun ρ=>(f ρ).bind fun b=>if b=true then g ρ else .ok false
noncomputable def vW (f g:DS→Res Bool):DS→Res Bool:=fun ρ=>(f ρ).bind fun b=>if b=true then .ok true else g ρ
theorem yF {a b:Expr}{rest:List Expr}{pos:Pos}{f g:DS→Res Bool}(ha:qR X E a f)(hb:PDW X E (.BoolOp .And (b :: rest) pos) g):PDW X E (.BoolOp .And (a :: b :: rest) pos) (xl f g):=by
 intro L A s B G H d I O k D
 refine isTrue_and (aO (ha A s B G H d I O k D.fst) fun c P N=> ?_)
 obtain ⟨e,q,S,Q,t⟩:=N
 cases c with
 | true=>exact aO (hb L A P B q S d Q t.gh (k.mono t.gg) (D.snd e t.hh)) fun V o M=>(by obtain ⟨u,p,i,r,v⟩:=M; exact ⟨ao e (by rw [if_pos rfl]; exact u),p,i,r,t.trans v⟩)
 | false=>exact ⟨ao e rfl,q,S,Q,t⟩
theorem km {a b:Expr}{rest:List Expr}{pos:Pos}{f g:DS→Res Bool}(ha:qR X E a f)(hb:PDW X E (.BoolOp .Or (b :: rest) pos) g):PDW X E (.BoolOp .Or (a :: b :: rest) pos) (vW f g):=by
 intro L A s B G H d I M k D
 refine isTrue_or (aO (ha A s B G H d I M k D.fst) fun c N O=> ?_)
 obtain ⟨e,q,S,Q,t⟩:=O
 cases c with
 | false=>exact aO (hb L A N B q S d Q t.gh (k.mono t.gg) (D.snd e t.hh)) fun V o P=>(by obtain ⟨u,p,i,r,v⟩:=P; exact ⟨ao e (by rw [if_neg Bool.false_ne_true]; exact u),p,i,r,t.trans v⟩)
 | true=>exact ⟨ao e rfl,q,S,Q,t⟩
noncomputable def fY (f:DS→Res Bool):DS→Res Bool:=fun ρ=>(f ρ).bind fun b=> .ok (!b)
theorem bZ {a:Expr}{pos:Pos}{f:DS→Res Bool}(ha:qR X E a f):qR X E (.UnaryOp .Not a pos) (fY f):=by
 intro A s B G H b I L k D
 exact isTrue_not (aO (ha A s B G H b I L k D.fst) fun c N Q=>(by obtain ⟨e,q,S,R,t⟩:=Q; exact ⟨ao e rfl,q,S,R,t⟩))
noncomputable def xo (f g:DS→Res D):DS→Res D:=fun ρ=>(f ρ).bind fun d=>match d with | .bl true=>g ρ | .bl false=> .ok (.bl false) | _=> .bad
noncomputable def AZ (f:DS→Res D):DS→Res D:=fun ρ=>(f ρ).bind fun d=>match d with | .bl b=> .ok (.bl (!b)) | _=> .bad
theorem wa {op}{a:Expr}{pos:Pos}{f:DS→Res D}(h:PD X E a f):PD X E (.BoolOp op [a] pos) f:=fun A s B G H b I L k F=>BoolOp_one (h A s B G H b I L k F)
theorem vZ {a b:Expr}{rest:List Expr}{pos:Pos}{f g:DS→Res D}(ha:PD X E a f)(hb:PD X E (.BoolOp .And (b :: rest) pos) g):PD X E (.BoolOp .And (a :: b :: rest) pos) (xo f g):=by
 intro A s B G H d I L l F
 refine BoolOp_and (aO (ha A s B G H d I L l F.fst) fun v N S=> ?_)
 obtain ⟨x,T,M,q,U,Q,V,t,z⟩:=S
 have k:=F.snd T t.hh
 cases x with
 | bl c=>
  rw [rep_bl] at z; subst z; cases V
  refine wpAny_truthy_bool ?_
  cases c with
  | true=>exact aO (hb A N B q U d Q t.gh (l.mono t.gg) k) fun w o R=>(by obtain ⟨K,u,J,p,i,r,m,C,y⟩:=R; exact ⟨K,ao T u,J,p,i,r,m,t.trans C,y⟩)
  | false=>exact ⟨_,ao T rfl,.bl false,q,U,Q,rfl,t,rep_bl.mpr rfl⟩
 | _=>exact k.elim
theorem Bq {a:Expr}{pos:Pos}{f:DS→Res D}(ha:PD X E a f):PD X E (.UnaryOp .Not a pos) (AZ f):=by
 intro A s B G H b I L l F
 refine UnaryOp_ (aO (ha A s B G H b I L l F.fst) fun v N T=> ?_)
 obtain ⟨x,U,C,q,S,Q,V,t,z⟩:=T
 have k:=F.snd U t.hh
 cases x with
 | bl c=>
  rw [rep_bl] at z; subst z; cases V
  exact not_of (wpAny_truthy_bool ⟨_,ao U rfl,.bl (!c),q,S,Q,rfl,t,rep_bl.mpr rfl⟩)
 | _=>exact k.elim
noncomputable def gw (fa fb fc:DS→Res D)(o o':D→D→Res D):DS→Res Bool:=fun ρ=>(fa ρ).bind fun a=>(fb ρ).bind fun b=>(o a b).bind fun r=>match r with | .bl true=>(fc ρ).bind fun c=>(o' b c).bind fun q=>(match q with | .bl k=> .ok k | _=> .bad) | .bl false=> .ok false | _=> .bad
noncomputable def aN (n:Nat):Bool:=decide (n≤100000)
theorem bY {n:Nat}(h:aN n=true):n≤sizeLine:=Nat.le_trans (of_decide_eq_true h) (by decide)
noncomputable def cw (f:DS→Res (List D)):DS→Res D:=fun ρ=>(f ρ).bind fun ds=>if aN ds.length=true then .ok (.lst ds) else .bad
noncomputable def jV (f:DS→Res (List D)):DS→Res D:=fun ρ=>(f ρ).bind fun ds=>if aN ds.length=true then .ok (.tup ds) else .bad
theorem fK {es:List Expr}{pos:Pos}{f:DS→Res (List D)}(h:j0 X E es f):PD X E (.List es pos) (cw f):=by
 intro A s B G H a I L l F
 refine aO (rM (g_ h) A s B H (fun v O=>∃ d b,cw f a= .ok d∧Ext G H b O∧Rep X.K b d v) I ?_) fun u V U=>(by obtain ⟨v,O,y,r,d,b,e,x,c⟩:=U; exact ⟨d,e,v,b,O,y,r,x,c⟩)
 refine ⟨G,a,L,l,F.fst,fun g e w q S t T=> ?_⟩
 have k:=F.snd e t.hh
 by_cases N:aN g.length=true
 ·refine ⟨by rw [← T.length]; exact bY N,fun p Z=>(dL (.lst g) (bu q p (.lst w)) (ao e (if_pos N)) (t.trans (.new t.gh Z _)) (rep_lst.mpr (dL p w rfl (.of az) (T.mono (Ext.new t.gh Z _).gg))))⟩
 ·rw [if_neg N] at k; exact k.elim
theorem iE {es:List Expr}{x1}{pos:Pos}{f:DS→Res (List D)}(h:j0 X E es f):PD X E (.Tuple es x1 pos) (jV f):=by
 intro A s B G H a I L l F
 refine aO (rN (g_ h) A s B H (fun v O=>∃ d b,jV f a= .ok d∧Ext G H b O∧Rep X.K b d v) I ?_) fun u W V=>(by obtain ⟨v,O,y,r,d,b,e,x,c⟩:=V; exact ⟨d,e,v,b,O,y,r,x,c⟩)
 refine ⟨G,a,L,l,F.fst,fun g e t q S x1 T=> ?_⟩
 have k:=F.snd e x1.hh
 by_cases N:aN g.length=true
 ·refine ⟨by rw [← T.length]; exact bY N,fun p Z=>(dL (.tup g) (bu q p (.tup t)) (ao e (if_pos N)) (x1.trans (.new x1.gh Z _)) (rep_tup.mpr (dL p t rfl (.of az) (T.mono (Ext.new x1.gh Z _).gg))))⟩
 ·rw [if_neg N] at k; exact k.elim
end
section
variable{X:Cx}{E:XK}
theorem Br {e:Expr}{r:R2}{fa fb:DS→Res D}{o:D→D→Res D}(he:PE X e (FS r (tD X.K E fa) (tD X.K E fb)))
  (h:∀ (G H:Hp) (x y:V) (dx dy:D) (Q:VK),Same G H→Rep X.K G dx x→Rep X.K G dy y→OkR E H (o dx dy)→(∀ d v' G' H',o dx dy= .ok d→Ext G H G' H'→Rep X.K G' d v'→Q v' H')→r x y H Q):PD X E e (ae fa fb o):=by
 intro A s O G H a I L k F
 refine aO (he A s O H (fun v H'=>∃ d G',ae fa fb o a= .ok d∧Ext G H G' H'∧Rep X.K G' d v) I ?_) fun u b W=>(by obtain ⟨v,H',P,g,d,G',e,x,Z⟩:=W; exact ⟨d,e,v,G',H',P,g,x,Z⟩)
 refine ⟨G,a,L,k,F.fst,fun B T N q U t M=>⟨q,a,t.gh,k.mono t.gg,(F.snd T t.hh).fst,fun S z R p i w C=> ?_⟩⟩
 exact h p i N R B S _ w.gh (M.mono w.gg) C ((F.snd T t.hh).snd z w.hh) fun d v' G' H' J Y Z=>(dL d G' (ao T (ao z J)) ((t.trans w).trans Y) Z)
theorem RepL.atI {K:W.Frag}{G:Hp}{ds:List D}{vs:List V}{i:Int}{d:D}(h:RepL K G ds vs)(e:atI ds i=some d):∃ v,L2.atI vs i=some v∧Rep K G d v:=by
 unfold L2.atI at e ⊢
 rw [← h.length]
 cases q:iT ds.length i with
 | none=>rw [q] at e; cases e
 | some j=>
  rw [q] at e
  exact h.get (by simpa using e)
noncomputable def av:D→D→Res D
 | .lst l,.int i=>match L2.atI l i with | some d=> .ok d | none=> .bad
 | .tup l,.int i=>match L2.atI l i with | some d=> .ok d | none=> .bad
 | .scr ns,.int i=>match L2.atI ns i with | some n=> .ok (.int n) | none=> .bad
 | .str z,.int i=>match L2.atI z.cps.toList i with | some c=>if aN z.length=true then .ok (.str ⟨#[c]⟩) else .bad | none=> .bad
 | _,_=> .bad
theorem xp {α β:Type}{f:α→β}{xs:List α}{i:Int}{a:α}(h:L2.atI xs i=some a):L2.atI (xs.map f) i=some (f a):=by
 unfold L2.atI at h ⊢
 rw [List.length_map]
 cases q:iT xs.length i with
 | none=>rw [q] at h; cases h
 | some j=>
  rw [q] at h
  show (xs.map f)[j]?=some (f a)
  have h':xs[j]?=some a:=h
  rw [List.getElem?_map,h']
  rfl
theorem ak {a b:Expr}{pos:Pos}{fa fb:DS→Res D}(ha:PD X E a fa)(hb:PD X E b fb)(hp:gr b:=by intro _ _; rfl):PD X E (.Subscript a b pos) (ae fa fb av):=by
 refine Br (nP AN (dq ha) (dq hb) hp) fun G H x y j I Q L A w ok k=> ?_
 unfold av at ok k
 split at ok
 ·rename_i l i
  rw [rep_lst] at A; rw [rep_int] at w
  refine bL (A) fun p e Y sq f=> ?_; subst Y
  subst w
  dsimp only at ok k
  cases q:L2.atI l i with
  | none=>rw [q] at ok; exact ok.elim
  | some d=>
   obtain ⟨v,B,g⟩:=f.atI q
   rw [q] at k
   exact .inl (rj p e i v rfl rfl (L.seq sq.sq) B (k d v G H rfl (.refl L) g))
 ·rename_i l i
  rw [rep_tup] at A; rw [rep_int] at w
  refine bL (A) fun p e Z sq f=> ?_; subst Z
  subst w
  dsimp only at ok k
  cases q:L2.atI l i with
  | none=>rw [q] at ok; exact ok.elim
  | some d=>
   obtain ⟨v,B,g⟩:=f.atI q
   rw [q] at k
   exact .inr (.inl (rj p e i v rfl rfl (L.seqT sq) B (k d v G H rfl (.refl L) g)))
 ·rename_i h i
  rw [tF] at A; rw [rep_int] at w
  obtain ⟨p,rfl,sq⟩:=A
  subst w
  dsimp only at ok k
  cases q:L2.atI h i with
  | none=>rw [q] at ok; exact ok.elim
  | some n=>
   rw [q] at k
   exact .inl (rj p _ i (.int n) rfl rfl (L.seq sq) (xp q) (k (.int n) (.int n) G H rfl (.refl L) (rep_int.mpr rfl)))
 ·rename_i z i
  rw [rep_str] at A; rw [rep_int] at w
  subst A w
  dsimp only at ok k
  cases q:L2.atI z.cps.toList i with
  | none=>rw [q] at ok; exact ok.elim
  | some c=>
   rw [q] at k ok
   dsimp only at k ok
   by_cases F:aN z.length=true
   ·rw [if_pos F] at k
    exact .inr (.inr (pY z i c rfl rfl (bY F) q (k _ _ G H rfl (.refl L) (rep_str.mpr rfl))))
   ·rw [if_neg F] at ok; exact ok.elim
 ·exact ok.elim
noncomputable def w9 (K:W.Frag)(E:XK)(r:List V→Hp→VK→Prop)(g:List D→Res D):Prop:=
 ∀ (G H:Hp) (vs:List V) (ds:List D) (Q:VK),Same G H→RepL K G ds vs→OkR E H (g ds)→(∀ d v' G' H',g ds= .ok d→Ext G H G' H'→Rep K G' d v'→Q v' H')→r vs H Q
noncomputable def bv (fs:DS→Res (List D))(g:List D→Res D):DS→Res D:=fun ρ=>(fs ρ).bind g
theorem wb {e:Expr}{r:List V→Hp→VK→Prop}{fs:DS→Res (List D)}{g:List D→Res D}(he:PE X e (Fk r (tDA X.K E fs)))(h:w9 X.K E r g):PD X E e (bv fs g):=by
 intro A s B G H a I L k F
 refine aO (he A s B H (fun v O=>∃ d b,bv fs g a= .ok d∧Ext G H b O∧Rep X.K b d v) I ?_) fun u W c=>(by obtain ⟨v,O,y,i,d,b,e,x,Z⟩:=c; exact ⟨d,e,v,b,O,y,i,x,Z⟩)
 refine ⟨G,a,L,k,F.fst,fun f T w q S t z=> ?_⟩
 exact h q S w f _ t.gh z (F.snd T t.hh) fun d j b O o Y Z=>(dL d b (ao T o) (t.trans Y) Z)
theorem fZ {x:Str}{p pos:Pos}{e:Expr}{es:List Expr}{id:String}{r:List V→Hp→VK→Prop}{fs:DS→Res (List D)}{g:List D→Res D}(hc:d8 X (.builtin id) r)(h:w9 X.K E r g)(hg:Gl X x)(hm:X.mg x=none)(hv:bootBuiltins x=some (.builtin id))(ha:j0 X E (e :: es) fs)
  (hn:x≠ "__name__" :=by decide) (hdb:(x == ("__debug__" :Str))=false:=by decide)
  (he:starEach (e :: es) X.env=(false,eval e X.env) :: starEach es X.env:=by rfl) (hpl:(backTo pos (starEach es X.env)).any (·.1)=false:=by rfl):PD X E (.Call (.Name x p) (e :: es) [] pos) (bv fs g):=
 wb (qp hc hg hm hv (g_ ha) hn hdb he hpl) h
theorem nN {x:Str}{p pos:Pos}{e:Expr}{es:List Expr}{T:String}{r:List V→Hp→VK→Prop}{fs:DS→Res (List D)}{g:List D→Res D}(hc:d8 X (.type T) r)(h:w9 X.K E r g)(hg:Gl X x)(hm:X.mg x=none)(hv:bootBuiltins x=some (.type T))(ha:j0 X E (e :: es) fs)
  (hn:x≠ "__name__" :=by decide) (hdb:(x == ("__debug__" :Str))=false:=by decide)
  (he:starEach (e :: es) X.env=(false,eval e X.env) :: starEach es X.env:=by rfl) (hpl:(backTo pos (starEach es X.env)).any (·.1)=false:=by rfl):PD X E (.Call (.Name x p) (e :: es) [] pos) (bv fs g):=
 wb (eH hc hg hm hv (g_ ha) hn hdb he hpl) h
noncomputable def bj:List D→Res D
 | [.lst l]=> .ok (.int l.length)
 | [.tup l]=> .ok (.int l.length)
 | [.scr ns]=> .ok (.int ns.length)
 | _=> .bad
theorem zX {K:W.Frag}:w9 K E (fun xs H Q=>∃ p ys,xs=[.ref p]∧(fR K H p ys∨lj K H p ys)∧Q (.int ys.length) H) bj:=by
 intro G H s e Q L a ok k
 unfold bj at ok k
 split at ok
 ·obtain ⟨v,r,rfl,w,d⟩:=a.inv
  rw [d.inv0]
  rw [rep_lst] at w
  obtain ⟨p,xs,rfl,sq,w⟩:=w
  exact ⟨p,xs,rfl,.inl (L.seq sq.sq),k _ _ G H rfl (.refl L) (by rw [w.length]; exact rep_int.mpr rfl)⟩
 ·obtain ⟨v,r,rfl,w,d⟩:=a.inv
  rw [d.inv0]
  rw [rep_tup] at w
  obtain ⟨p,xs,rfl,sq,w⟩:=w
  exact ⟨p,xs,rfl,.inr (L.seqT sq),k _ _ G H rfl (.refl L) (by rw [w.length]; exact rep_int.mpr rfl)⟩
 ·obtain ⟨v,r,rfl,w,d⟩:=a.inv
  rw [d.inv0]
  rw [tF] at w
  obtain ⟨p,rfl,sq⟩:=w
  exact ⟨p,_,rfl,.inl (L.seq sq),k _ _ G H rfl (.refl L) (by rw [List.length_map]; exact rep_int.mpr rfl)⟩
 ·exact ok.elim
noncomputable def DF:List D→Res D
 | [.int i,.int j]=> .ok (.int (min i j))
 | _=> .bad
noncomputable def nE:List D→Res D
 | [.int i,.int j]=> .ok (.int (max i j))
 | _=> .bad
theorem AX (i j:Int):(if j > i then j else i)=max i j:=by omega
theorem xA {K:W.Frag}:w9 K E (fun xs H Q=>∃ i j,xs=[.int i,.int j]∧Q (.int (if j > i then j else i)) H) nE:=by
 intro G H s g Q L a ok k
 unfold nE at ok k
 split at ok
 ·refine cps fun PP I=> ?_
  refine bL (a.inv) fun v r f x d=> ?_; subst f
  refine bL (d.inv) fun D l e w T=> ?_; subst e
  refine I ?_; clear I PP
  rw [T.inv0]
  rw [rep_int] at x w; subst x w
  refine (kY _ _ rfl ?_)
  rw [AX]
  exact k _ _ G H rfl (.refl L) (rep_int.mpr rfl)
 ·exact ok.elim
noncomputable def dQ:List D→Res D
 | [.lst l]=> .ok (.lst l)
 | [.tup l]=> .ok (.lst l)
 | _=> .bad
noncomputable def mD:List D→Res D
 | [.lst l]=> .ok (.tup l)
 | [.tup l]=> .ok (.tup l)
 | _=> .bad
theorem xz {K:W.Frag}:w9 K E (fun xs H Q=>∃ p ys,xs=[.ref p]∧(fR K H p ys∨lj K H p ys)∧∀ l,H l=none→Q (.ref l) (bu H l (.lst ys))) dQ:=by
 intro G H s e Q L a ok k
 unfold dQ at ok k
 split at ok
 ·obtain ⟨v,r,rfl,w,d⟩:=a.inv
  rw [d.inv0]
  rw [rep_lst] at w
  obtain ⟨p,xs,rfl,sq,w⟩:=w
  exact ⟨p,xs,rfl,.inl (L.seq sq.sq),fun l N=>k _ _ _ _ rfl (.new L N _) (rep_lst.mpr ⟨l,xs,rfl,.of az,w.mono (Ext.new L N _).gg⟩)⟩
 ·obtain ⟨v,r,rfl,w,d⟩:=a.inv
  rw [d.inv0]
  rw [rep_tup] at w
  obtain ⟨p,xs,rfl,sq,w⟩:=w
  exact ⟨p,xs,rfl,.inr (L.seqT sq),fun l N=>k _ _ _ _ rfl (.new L N _) (rep_lst.mpr ⟨l,xs,rfl,.of az,w.mono (Ext.new L N _).gg⟩)⟩
 ·exact ok.elim
theorem u2 {K:W.Frag}:w9 K E (fun xs H Q=>∃ p ys,xs=[.ref p]∧((fR K H p ys∧∀ l,H l=none→Q (.ref l) (bu H l (.tup ys)))∨(lj K H p ys∧Q (.ref p) H))) mD:=by
 intro G H s e Q L a ok k
 unfold mD at ok k
 split at ok
 ·obtain ⟨v,r,rfl,w,d⟩:=a.inv
  rw [d.inv0]
  rw [rep_lst] at w
  obtain ⟨p,xs,rfl,sq,w⟩:=w
  exact ⟨p,xs,rfl,.inl ⟨L.seq sq.sq,fun l N=>k _ _ _ _ rfl (.new L N _) (rep_tup.mpr ⟨l,xs,rfl,.of az,w.mono (Ext.new L N _).gg⟩)⟩⟩
 ·obtain ⟨v,r,rfl,w,d⟩:=a.inv
  rw [d.inv0]
  have rx':=w
  rw [rep_tup] at w
  obtain ⟨p,xs,rfl,sq,w⟩:=w
  exact ⟨p,xs,rfl,.inr ⟨L.seqT sq,k _ _ G H rfl (.refl L) rx'⟩⟩
 ·exact ok.elim
inductive pureSp (K:W.Frag)(m:List D→Res D)(vs:List V)(H:Hp)(Q:VK)(E:XK):Prop
 | mk (ds:List D) (G:Hp) (s:Same G H) (r:RepL K G ds vs) (o:OkR E H (m ds)) (k:∀ d,m ds= .ok d→∀ v G' H',Ext G H G' H'→Rep K G' d v→Q v H')
noncomputable def kG (C:Addr)(m:Str):D→Bool
 | .ins C' ns _=>C' == C && !ns.contains m
 | _=>false
noncomputable def iz (C:Addr)(m:Str)(fo:DS→Res D)(g:List D→Res D):DS→Res D:=fun ρ=>(fo ρ).bind fun o=>if kG C m o=true then g [o] else .bad
theorem l7 {fs:List (Str×V)}{m:Str}(h:(fs.map (·.1)).contains m=false):fs.lookup m=none:=by
 induction fs with
 | nil=>rfl
 | cons p r s=>
  rw [List.map_cons,List.contains_cons,Bool.or_eq_false_iff] at h
  rw [List.lookup_cons]
  have:(m == p.1)=false:=h.1
  rw [this]
  exact s h.2
theorem v_ {pl:Sem Bool}{CX:pw}{k:Nat}{f C:Addr}{fd:FuncData}{ps:List Str}{g:List D→Res D}{m:Str}{apos pos:Pos}{o:Expr}{fo:DS→Res D}(hoo:PD X E o fo)(c:Cls X.K C)(hm:Meth X.K C m f)(F:FnOk X.prog X.w X.K X.mg X.base CX k f fd ps (pureSp X.K g))(hr:Room k X.A)(hb:Binds X.K fd ps [])(hx:cv CX X E)
  (hpe:PE X (.Call (.Attribute o m apos) [] [] pos) (zH C m (pureSp X.K g) [] E (tD X.K E fo) zb)):PD X E (.Call (.Attribute o m apos) [] [] pos) (iz C m fo g):=by
 intro B s V G H q I M p L
 refine aO (hpe B s V H (fun v O=>∃ d b,iz C m fo g q= .ok d∧Ext G H b O∧Rep X.K b d v) I ?_) fun u s' h=>(by obtain ⟨v,O,W,R,d,b,e,x,Z⟩:=h; exact ⟨d,e,v,b,O,W,R,x,Z⟩)
 refine ⟨G,q,M,p,L.fst,fun r T v y H1 t z=> ?_⟩
 have J:=L.snd T t.hh
 by_cases i:kG C m r=true
 ·rw [if_pos i] at J
  cases r with
  | ins C' U l=>
   have hi':=i
   unfold kG at hi'
   rw [Bool.and_eq_true,beq_iff_eq,Bool.not_eq_true'] at hi'
   obtain ⟨rfl,P⟩:=hi'
   have p1':=z
   rw [rep_ins] at z
   refine f_ (z) fun a Q fs j S n _=> ?_; subst j
   refine (iM a Q fs rfl (t.gh _ _ S) (l7 (by rw [n]; exact P)) ?_)
   exact ⟨[.ins C' U l],y,t.gh,.cons p1' .nil,J,fun d N v b O Y Z=>(dL d b (ao T (by rw [if_pos i]; exact N)) (t.trans Y) Z)⟩
  | _=>cases i
 ·rw [if_neg i] at J; exact J.elim
noncomputable def pW:List Str→List D→Str→Option D
 | n :: ns,d :: ds,f=>if n=f then some d else pW ns ds f
 | _,_,_=>none
noncomputable def jD (C:Addr)(f:Str):D→Res D
 | .ins C' ns ds=>if C'=C then (match pW ns ds f with | some d=> .ok d | none=> .bad) else .bad
 | _=> .bad
theorem kK {K:W.Frag}{G:Hp}{f:Str}{d:D}:∀ {fs:List (Str×V)} {ds:List D},RepL K G ds (fs.map (·.2))→pW (fs.map (·.1)) ds f=some d→∃ v,fs.lookup f=some v∧Rep K G d v
 | [],ds,_,h=>by cases ds <;> cases h
 | (n,v) :: r,[],_,h=>by cases h
 | (n,v) :: r,e :: ds,hr,h=>by
  refine bL (hr.inv) fun i g q a b=> ?_
  rw [List.map_cons] at q
  cases q
  rw [List.map_cons] at h
  unfold pW at h
  rw [List.lookup_cons]
  by_cases w:n=f
  ·subst w
   rw [if_pos rfl] at h
   cases h
   rw [show (n == n)=true by simp]
   exact ⟨v,rfl,a⟩
  ·rw [if_neg w] at h
   rw [show (f == n)=false by simpa using Ne.symm w]
   exact kK b h
theorem v6 {C:Addr}{o:Expr}{f:Str}{pos:Pos}{fo:DS→Res D}(ho:PD X E o fo)(c:Cls X.K C)(n:NoAttr X.K C f)(hb:attributeBase o f X.env (eval o X.env)=eval o X.env:=by rfl):PD X E (.Attribute o f pos) (fun ρ=>(fo ρ).bind (jD C f)):=by
 intro A s M G H ρ I L r p
 refine aO (Bt (dq ho) hb A s M H (fun v O=>∃ d b,((fo ρ).bind (jD C f))= .ok d∧Ext G H b O∧Rep X.K b d v) I ?_) fun u V k=>(by obtain ⟨v,O,N,B,d,b,e,x,Z⟩:=k; exact ⟨d,e,v,b,O,N,B,x,Z⟩)
 refine ⟨G,ρ,L,r,p.fst,fun j T v y S t z=> ?_⟩
 have J:=p.snd T t.hh
 cases j with
 | ins w U l=>
  unfold jD at J
  dsimp only at J
  by_cases g:w=C
  ·subst g
   rw [if_pos rfl] at J
   rw [rep_ins] at z
   refine f_ (z) fun a h fs m F i Q=> ?_; subst m
   subst i
   cases q:pW (fs.map (·.1)) l f with
   | none=>rw [q] at J; exact J.elim
   | some d=>
    obtain ⟨v,P,R⟩:=kK Q q
    exact (CF a w h fs v rfl (t.gh _ _ F) c n P d y (ao T (by unfold jD; dsimp only; rw [if_pos rfl,q])) t R)
  ·rw [if_neg g] at J; exact J.elim
 | _=>exact J.elim
theorem eG {op op':CmpOp}{a b c:Expr}{pos:Pos}{fa fb fc:DS→Res D}{o o':D→D→Res D}(ho:DOp X E (compareOp op) o)(ho':DOp X E (compareOp op') o')(ha:PD X E a fa)(hb:PD X E b fb)(hc:PD X E c fc)
  (hm:lastMarks [op,op'] [b,c]=false:=by with_unfolding_all rfl):qR X E (.Compare a [op,op'] [b,c] pos) (gw fa fb fc o o'):=by
 intro A s B G H e I j l r
 refine isTrue_chain (aO (ha A s B G H e I j l r.fst) fun v s1 ⟨g,T,v1,h,H1,I1,r1,t,p1⟩=>test_link (aO (hb A s1 B h H1 e I1 t.gh (l.mono t.gg) (r.snd T t.hh).fst) fun u s2 n=> ?_)) hm
 obtain ⟨W,C,U,Y,i,I2,m,y,K⟩:=n
 have J:=(r.snd T t.hh).snd C y.hh
 refine aO (ho A s2 B Y i v1 U g W v u I2 y.gh (p1.mono y.gg) K r1 m J.fst) fun d s3 p=> ?_
 obtain ⟨d3,f,v3,S,R,Q,r3,x,N⟩:=p
 have F:=J.snd f x.hh
 cases d3 with
 | bl k=>
  rw [rep_bl] at N; subst N; cases r3
  refine wpAny_truthy_bool ?_
  cases k with
  | false=>exact ite_ff ⟨ao T (ao C (ao f rfl)),S,R,Q,(t.trans y).trans x⟩
  | true=>
   refine ite_tt (test_last (aO (hc A s3 B S R e Q x.gh (l.mono ((t.gg.trans y.gg).trans x.gg)) F.fst) fun Z s4 w=> ?_))
   obtain ⟨d4,L,v4,G4,H4,I4,r4,z,p4⟩:=w
   have V:=F.snd L z.hh
   refine aO (ho' A s4 B G4 H4 U v4 W d4 u Z I4 z.gh (K.mono (x.gg.trans z.gg)) p4 m r4 V.fst) fun d' s5 q=> ?_
   obtain ⟨d5,P,v5,G5,H5,I5,r5,M,O⟩:=q
   have k5:=V.snd P M.hh
   cases d5 with
   | bl k=>
    rw [rep_bl] at O; subst O; cases r5
    exact wpAny_truthy_bool ⟨ao T (ao C (ao f (ao L (ao P rfl)))),G5,H5,I5,(((t.trans y).trans x).trans z).trans M⟩
   | _=>exact k5.elim
 | _=>exact F.elim
end
mutual
noncomputable def b8:D→D→Bool
 | .non,.non=>true
 | .bl a,.bl b=>a == b
 | .int a,.int b=>a == b
 | .bl a,.int b=>(if a then (1:Int) else 0) == b
 | .int a,.bl b=>a == (if b then (1:Int) else 0)
 | .str a,.str b=>a == b
 | .lst a,.lst b=>eqBL a b
 | .tup a,.tup b=>eqBL a b
 | _,_=>false
noncomputable def eqBL:List D→List D→Bool
 | [],[]=>true
 | a :: as,b :: bs=>b8 a b && eqBL as bs
 | _,_=>false
end
mutual
noncomputable def ba:Nat→D→Bool
 | _,.non=>true
 | _,.bl _=>true
 | _,.int _=>true
 | _,.str _=>true
 | n,.lst l=>decide (1≤n) && plL (n - 1) l
 | n,.tup l=>decide (1≤n) && plL (n - 1) l
 | _,.ins _ _ _=>false
 | _,.dct _ _=>false
 | _,.scr _=>false
 | _,.xc _=>false
 | _,.fdc _ _=>false
noncomputable def plL:Nat→List D→Bool
 | _,[]=>true
 | n,d :: ds=>ba n d && plL n ds
end
theorem tq:∀ {n:Nat} {ds:List D} {i:Nat} {d:D},plL n ds=true→ds[i]?=some d→ba n d=true
 | _,[],_,_,_,e=>by simp at e
 | n,a :: as,0,_,h,e=>by
  simp at e; subst e
  unfold plL at h; rw [Bool.and_eq_true] at h; exact h.1
 | n,a :: as,i+1,d,h,e=>by
  unfold plL at h; rw [Bool.and_eq_true] at h
  exact tq (i:=i) h.2 (by simpa using e)
theorem pM:∀ {as bs:List D} {n:Nat} {e:Nat→Bool},as.length=bs.length→(∀ (i:Nat) (a b:D),as[i]?=some a→bs[i]?=some b→e i=b8 a b)→n=as.length→(List.range n).all e=eqBL as bs
 | [],[],_,_,_,_,hn=>by subst hn; unfold eqBL; rfl
 | [],_ :: _,_,_,h,_,_=>by simp at h
 | _ :: _,[],_,_,h,_,_=>by simp at h
 | a :: as,b :: bs,n,e,h,he,hn=>by
  subst hn
  unfold eqBL
  rw [List.length_cons,List.range_succ_eq_map,List.all_cons,he 0 a b rfl rfl,List.all_map]
  congr 1
  exact pM (e:=e ∘ Nat.succ) (by simpa using h) (fun i x y C B=>he (i+1) x y (by simpa using C) (by simpa using B)) rfl
theorem lE:∀ {as bs:List D},as.length≠bs.length→eqBL as bs=false
 | [],[],h=>absurd rfl h
 | [],_ :: _,_=>by unfold eqBL; rfl
 | _ :: _,[],_=>by unfold eqBL; rfl
 | a :: as,b :: bs,h=>by
  unfold eqBL
  rw [lE (as:=as) (bs:=bs) (fun z=>h (by simp [z])),Bool.and_false]
mutual
theorem pP:∀ {n:Nat} {d:D},ba n d=true→b8 d d=true
 | _,.non,_=>by unfold b8; rfl
 | _,.bl b,_=>by unfold b8; simp
 | _,.int b,_=>by unfold b8; simp
 | _,.str b,_=>by unfold b8; simp
 | n,.lst l,h=>by
  unfold ba at h; rw [Bool.and_eq_true] at h
  unfold b8; exact eqBL_refl h.2
 | n,.tup l,h=>by
  unfold ba at h; rw [Bool.and_eq_true] at h
  unfold b8; exact eqBL_refl h.2
 | _,.ins _ _ _,h=>by unfold ba at h; cases h
theorem eqBL_refl:∀ {n:Nat} {ds:List D},plL n ds=true→eqBL ds ds=true
 | _,[],_=>by unfold eqBL; rfl
 | n,d :: ds,h=>by
  unfold plL at h; rw [Bool.and_eq_true] at h
  unfold eqBL; rw [pP h.1,eqBL_refl h.2]; rfl
end
section
variable{X:Cx}{E:XK}{pins:List (Addr×Obj)}{σ:St}{G H:Hp}{s:Shared}
theorem Inv.isTup (I:Inv X pins σ H s){a:Addr}{xs:List V}(h:lj X.K H a xs):∃ its:List Value,Vals xs its∧s.heap.IsTuple a its.toArray:=by
 refine dr (I.tuple h) fun its r p _=> ?_
 exact ⟨its,r,p⟩
theorem Inv.isLst (I:Inv X pins σ H s){a:Addr}{xs:List V}(h:fR X.K H a xs):∃ its:List Value,Vals xs its∧s.heap.IsList a its.toArray:=by
 refine dr (I.list h) fun its r p _=> ?_
 exact ⟨its,r,p.isList⟩
mutual
theorem Rep.inj (I:Inv X pins σ H s)(hs:Same G H):∀ {n m:Nat} {d e:D} {x:V},ba n d=true→ba m e=true→Rep X.K G d x→Rep X.K G e x→d=e
 | _,_,.non,e,x,_,he,hx,hy=>by
  rw [rep_non] at hx; subst hx
  cases e with
  | non=>rfl
  | bl b=>rw [rep_bl] at hy; cases hy
  | int b=>rw [rep_int] at hy; cases hy
  | str b=>rw [rep_str] at hy; cases hy
  | lst b=>rw [rep_lst] at hy; refine kT (hy) fun _ _ q _=> ?_; cases q
  | tup b=>rw [rep_tup] at hy; refine kT (hy) fun _ _ q _=> ?_; cases q
  | ins _ _ _=>unfold ba at he; cases he
  | dct _ _=>unfold ba at he; cases he
  | scr _=>unfold ba at he; cases he
  | xc _=>unfold ba at he; cases he
  | fdc _ _=>unfold ba at he; cases he
 | _,_,.bl c,e,x,_,he,hx,hy=>by
  rw [rep_bl] at hx; subst hx
  cases e with
  | non=>rw [rep_non] at hy; cases hy
  | bl b=>rw [rep_bl] at hy; cases hy; rfl
  | int b=>rw [rep_int] at hy; cases hy
  | str b=>rw [rep_str] at hy; cases hy
  | lst b=>rw [rep_lst] at hy; refine kT (hy) fun _ _ q _=> ?_; cases q
  | tup b=>rw [rep_tup] at hy; refine kT (hy) fun _ _ q _=> ?_; cases q
  | ins _ _ _=>unfold ba at he; cases he
  | dct _ _=>unfold ba at he; cases he
  | scr _=>unfold ba at he; cases he
  | xc _=>unfold ba at he; cases he
  | fdc _ _=>unfold ba at he; cases he
 | _,_,.int c,e,x,_,he,hx,hy=>by
  rw [rep_int] at hx; subst hx
  cases e with
  | non=>rw [rep_non] at hy; cases hy
  | bl b=>rw [rep_bl] at hy; cases hy
  | int b=>rw [rep_int] at hy; cases hy; rfl
  | str b=>rw [rep_str] at hy; cases hy
  | lst b=>rw [rep_lst] at hy; refine kT (hy) fun _ _ q _=> ?_; cases q
  | tup b=>rw [rep_tup] at hy; refine kT (hy) fun _ _ q _=> ?_; cases q
  | ins _ _ _=>unfold ba at he; cases he
  | dct _ _=>unfold ba at he; cases he
  | scr _=>unfold ba at he; cases he
  | xc _=>unfold ba at he; cases he
  | fdc _ _=>unfold ba at he; cases he
 | _,_,.str c,e,x,_,he,hx,hy=>by
  rw [rep_str] at hx; subst hx
  cases e with
  | non=>rw [rep_non] at hy; cases hy
  | bl b=>rw [rep_bl] at hy; cases hy
  | int b=>rw [rep_int] at hy; cases hy
  | str b=>rw [rep_str] at hy; cases hy; rfl
  | lst b=>rw [rep_lst] at hy; refine kT (hy) fun _ _ q _=> ?_; cases q
  | tup b=>rw [rep_tup] at hy; refine kT (hy) fun _ _ q _=> ?_; cases q
  | ins _ _ _=>unfold ba at he; cases he
  | dct _ _=>unfold ba at he; cases he
  | scr _=>unfold ba at he; cases he
  | xc _=>unfold ba at he; cases he
  | fdc _ _=>unfold ba at he; cases he
 | n,m,.lst c,e,x,hd,he,hx,hy=>by
  rw [rep_lst] at hx
  refine bL (hx) fun a g C sq f=> ?_; subst C
  unfold ba at hd; rw [Bool.and_eq_true] at hd
  cases e with
  | non=>rw [rep_non] at hy; cases hy
  | bl b=>rw [rep_bl] at hy; cases hy
  | int b=>rw [rep_int] at hy; cases hy
  | str b=>rw [rep_str] at hy; cases hy
  | lst b=>
   rw [rep_lst] at hy
   refine bL (hy) fun E L q z A=> ?_
   cases q
   rw [I.list_inj (hs.seq z.sq) (hs.seq sq.sq)] at A
   unfold ba at he; rw [Bool.and_eq_true] at he
   rw [RepL.inj I hs hd.2 he.2 f A]
  | tup b=>
   rw [rep_tup] at hy
   refine bL (hy) fun E L q z A=> ?_
   cases q
   refine cps fun PP J=> ?_
   obtain ⟨_,_,F⟩:=I.isLst (hs.seq sq.sq)
   obtain ⟨_,_,y⟩:=I.isTup (hs.seqT z.sq)
   refine J ?_; clear J PP
   exact absurd rfl (SeqAt.ne_of_list_tuple F y)
  | ins _ _ _=>unfold ba at he; cases he
  | dct _ _=>unfold ba at he; cases he
  | scr _=>unfold ba at he; cases he
  | xc _=>unfold ba at he; cases he
  | fdc _ _=>unfold ba at he; cases he
 | n,m,.tup c,e,x,hd,he,hx,hy=>by
  rw [rep_tup] at hx
  refine bL (hx) fun a g B sq f=> ?_; subst B
  unfold ba at hd; rw [Bool.and_eq_true] at hd
  cases e with
  | non=>rw [rep_non] at hy; cases hy
  | bl b=>rw [rep_bl] at hy; cases hy
  | int b=>rw [rep_int] at hy; cases hy
  | str b=>rw [rep_str] at hy; cases hy
  | tup b=>
   rw [rep_tup] at hy
   refine bL (hy) fun E L q z A=> ?_
   cases q
   rw [I.tuple_inj (hs.seqT z.sq) (hs.seqT sq.sq)] at A
   unfold ba at he; rw [Bool.and_eq_true] at he
   rw [RepL.inj I hs hd.2 he.2 f A]
  | lst b=>
   rw [rep_lst] at hy
   refine bL (hy) fun E L q z A=> ?_
   cases q
   refine cps fun PP J=> ?_
   obtain ⟨_,_,F⟩:=I.isLst (hs.seq z.sq)
   obtain ⟨_,_,y⟩:=I.isTup (hs.seqT sq.sq)
   refine J ?_; clear J PP
   exact absurd rfl (SeqAt.ne_of_list_tuple F y)
  | ins _ _ _=>unfold ba at he; cases he
  | dct _ _=>unfold ba at he; cases he
  | scr _=>unfold ba at he; cases he
  | xc _=>unfold ba at he; cases he
  | fdc _ _=>unfold ba at he; cases he
 | _,_,.ins _ _ _,_,_,hd,_,_,_=>by unfold ba at hd; cases hd
theorem RepL.inj (I:Inv X pins σ H s)(hs:Same G H):∀ {n m:Nat} {ds es:List D} {xs:List V},plL n ds=true→plL m es=true→RepL X.K G ds xs→RepL X.K G es xs→ds=es
 | _,_,[],es,_,_,_,h,h'=>by
  rw [h.inv0] at h'
  cases es with
  | nil=>rfl
  | cons e es=>refine kT (h'.inv) fun _ _ q _=> ?_; cases q
 | _,_,d :: ds,es,_,hd,he,h,h'=>by
  refine bL (h.inv) fun v r F a b=> ?_; subst F
  cases es with
  | nil=>have z:=h'.inv0; cases z
  | cons e es=>
   refine bL (h'.inv) fun i g q E c=> ?_
   cases q
   unfold plL at hd he
   rw [Bool.and_eq_true] at hd he
   rw [Rep.inj I hs hd.1 he.1 a E,RepL.inj I hs hd.2 he.2 b c]
end
end
end L2
namespace L2
open PySem PySem.Spec PyProof.Rows PySem.SeqAt
section
variable{X:Cx}{E:XK}{pins:List (Addr×Obj)}{σ:St}{G H:Hp}{s:Shared}
noncomputable def EB (A:Around)(s:Shared)(u v:Value)(b:Bool):Prop:=EqAt A s u v b∧RcAt A s u v b∧RcNeAt A s u v (!b)
theorem tJ {xs:List V}{us:List Value}(r:Vals xs us){j:Nat}(h:j < us.toArray.size):∃ x,xs[j]?=some x∧RelV x us.toArray[j]:=by
 have N:=r.length
 have h':j < us.length:=by simpa using h
 have B:j < xs.length:=by omega
 obtain ⟨u,E,D⟩:=r.get (i:=j) (x:=xs[j]) (by simp [B])
 refine ⟨xs[j],by simp [B],?_⟩
 have e:us.toArray[j]=u:=by
  have q:us[j]?=some us[j]:=by simp [h']
  rw [q] at E
  cases E
  simp
 rw [e]; exact D
theorem jA {n:Nat}{ds es:List D}{xs ys:List V}{us vs:List Value}{A:Around}(rd:RepL X.K G ds xs)(re:RepL X.K G es ys)(ru:Vals xs us)(rv:Vals ys vs)
  (ih:∀ (d e:D) (x y:V) (u v:Value),d∈ds→e∈es→Rep X.K G d x→Rep X.K G e y→RelV x u→RelV y v→EqAt A s u v (b8 d e)) :
  ∀ j (h1:j < us.toArray.size) (h2:j < vs.toArray.size),EqAt A s us.toArray[j] vs.toArray[j] (b8 (ds.getD j .non) (es.getD j .non)):=by
 intro j h1 h2
 refine cps fun PP H=> ?_
 obtain ⟨x,C,z⟩:=tJ ru h1
 obtain ⟨y,B,w⟩:=tJ rv h2
 refine H ?_; clear H PP
 have N:=rd.length
 have R:=re.length
 have M:j < ds.length:=by rw [N]; exact (dZ C).1
 have L:j < es.length:=by rw [R]; exact (dZ B).1
 have T:ds[j]?=some ds[j]:=by simp [M]
 have t:es[j]?=some es[j]:=by simp [L]
 refine cps fun PP H=> ?_
 obtain ⟨E,I,S⟩:=rd.get T
 obtain ⟨U,J,O⟩:=re.get t
 refine H ?_; clear H PP
 rw [C] at I; cases I
 rw [B] at J; cases J
 have Q:ds.getD j .non=ds[j]:=by simp [List.getD,T]
 have P:es.getD j .non=es[j]:=by simp [List.getD,t]
 rw [Q,P]
 exact ih _ _ x y _ _ (List.getElem_mem M) (List.getElem_mem L) S O z w
theorem sO {ds:List D}{i:Nat}{d:D}(h:ds[i]?=some d):ds.getD i .non=d:=by simp [List.getD,h]
theorem lF {ds es:List D}{us vs:List Value}{xs ys:List V}(rd:RepL X.K G ds xs)(re:RepL X.K G es ys)(ru:Vals xs us)(rv:Vals ys vs)(hsz:us.toArray.size=vs.toArray.size) :
  (List.range us.toArray.size).all (fun j=>b8 (ds.getD j .non) (es.getD j .non))=eqBL ds es:=by
 have L:=rd.length; have O:=re.length; have S:=ru.length; have R:=rv.length
 have c:us.length=vs.length:=by simpa using hsz
 refine pM (by omega) (fun i a b z u=> ?_) (by simp; omega)
 rw [sO z,sO u]
noncomputable def EE (K:W.Frag)(G:Hp)(s:Shared):D→Value→Prop
 | .non,u=>u= .none
 | .bl b,u=>u= .bool b
 | .int i,u=>∃ t,u= .int i t
 | .str x,u=>∃ t,u= .str x t
 | .lst ds,u=>∃ a its xs,u= .ref a∧s.heap.IsList a its.toArray∧RepL K G ds xs∧Vals xs its
 | .tup ds,u=>∃ a its xs,u= .ref a∧s.heap.IsTuple a its.toArray∧RepL K G ds xs∧Vals xs its
 | .ins _ _ _,_=>True
 | .dct _ _,_=>True
 | .scr _,_=>True
 | .xc _,_=>True
 | .fdc _ _,_=>True
theorem jJ (I:Inv X pins σ H s)(hs:Same G H){d:D}{x:V}{u:Value}(rx:Rep X.K G d x)(ru:RelV x u):EE X.K G s d u:=by
 cases d with
 | non=>rw [rep_non] at rx; subst rx; exact ru
 | bl b=>rw [rep_bl] at rx; subst rx; exact ru
 | int i=>rw [rep_int] at rx; subst rx; exact ru
 | str i=>rw [rep_str] at rx; subst rx; exact ru
 | lst l=>
  rw [rep_lst] at rx
  refine cps fun PP J=> ?_
  refine bL (rx) fun a e U sq c=> ?_; subst U
  obtain ⟨m,r,p⟩:=I.isLst (hs.seq sq.sq)
  refine J ?_; clear J PP
  exact (iM a m e ru p c r)
 | tup l=>
  rw [rep_tup] at rx
  refine cps fun PP J=> ?_
  refine bL (rx) fun a e T sq c=> ?_; subst T
  obtain ⟨m,r,p⟩:=I.isTup (hs.seqT sq.sq)
  refine J ?_; clear J PP
  exact (iM a m e ru p c r)
 | ins _ _ _=>trivial
 | dct _ _=>trivial
 | scr _=>trivial
 | xc _=>trivial
 | fdc _ _=>trivial
theorem tW {n m:Nat}{ds es:List D}{a b:Addr}{xs ys:List V}{us vs:List Value}{A:Around}(hu:A.units < cLine)(ha:s.heap.IsList a us.toArray)(hb:s.heap.IsList b vs.toArray)(rd:RepL X.K G ds xs)(re:RepL X.K G es ys)(ru:Vals xs us)(rv:Vals ys vs)
  (same:a=b→eqBL ds es=true)
  (ih:∀ (d e:D) (x y:V) (u v:Value),d∈ds→e∈es→Rep X.K G d x→Rep X.K G e y→RelV x u→RelV y v→EqAt A.in1 s u v (b8 d e)):EB A s (.ref a) (.ref b) (eqBL ds es):=by
 have L:=rd.length; have O:=re.length; have S:=ru.length; have R:=rv.length
 have c:RcAt A s (.ref a) (.ref b) (eqBL ds es)∧RcNeAt A s (.ref a) (.ref b) (!eqBL ds es):=by
  by_cases W:us.toArray.size=vs.toArray.size
  ·have T:=lF rd re ru rv W
   rw [← T]
   exact ⟨RcAt.lists ha hb W hu (jA (n:=n) rd re ru rv ih),RcNeAt.lists ha hb W hu (jA (n:=n) rd re ru rv ih)⟩
  ·have T:eqBL ds es=false:=lE fun z=>W (by simp; omega)
   rw [T]
   have Y:(us.toArray.size != vs.toArray.size)=true:=by simpa using W
   exact ⟨RcAt.lists_lengths ha hb Y hu,RcNeAt.lists_lengths ha hb Y hu⟩
 refine ⟨?_,c.1,c.2⟩
 by_cases Z:a=b
 ·subst Z
  rw [same rfl]
  exact EqAt.same _
 ·exact EqAt.of_refs Z c.1
theorem qZ {n m:Nat}{ds es:List D}{a b:Addr}{xs ys:List V}{us vs:List Value}{A:Around}(hu:A.units < cLine)(ha:s.heap.IsTuple a us.toArray)(hb:s.heap.IsTuple b vs.toArray)(rd:RepL X.K G ds xs)(re:RepL X.K G es ys)(ru:Vals xs us)(rv:Vals ys vs)
  (same:a=b→eqBL ds es=true)
  (ih:∀ (d e:D) (x y:V) (u v:Value),d∈ds→e∈es→Rep X.K G d x→Rep X.K G e y→RelV x u→RelV y v→EqAt A.in1 s u v (b8 d e)):EB A s (.ref a) (.ref b) (eqBL ds es):=by
 have L:=rd.length; have O:=re.length; have S:=ru.length; have R:=rv.length
 have Z:((List.range (min us.toArray.size vs.toArray.size)).all (fun j=>b8 (ds.getD j .non) (es.getD j .non)) && us.toArray.size == vs.toArray.size)=eqBL ds es:=by
  by_cases W:us.toArray.size=vs.toArray.size
  ·have T:=lF rd re ru rv W
   rw [← W,Nat.min_self,T]
   simp
  ·have T:eqBL ds es=false:=lE fun z=>W (by simp; omega)
   have t:(us.toArray.size == vs.toArray.size)=false:=by simpa using W
   rw [T,t,Bool.and_false]
 have c:RcAt A s (.ref a) (.ref b) (eqBL ds es)∧RcNeAt A s (.ref a) (.ref b) (!eqBL ds es):=by
  rw [← Z]
  exact ⟨RcAt.tuples ha hb hu (jA (n:=n) rd re ru rv ih),RcNeAt.tuples ha hb hu (jA (n:=n) rd re ru rv ih)⟩
 refine ⟨?_,c.1,c.2⟩
 by_cases Y:a=b
 ·subst Y
  rw [same rfl]
  exact EqAt.same _
 ·exact EqAt.of_refs Y c.1
theorem eD {n:Nat}{ds:List D}{d:D}(h:plL n ds=true)(hd:d∈ds):ba n d=true:=by
 obtain ⟨i,g⟩:=List.getElem?_of_mem hd
 exact tq h g
theorem pL (I:Inv X pins σ H s)(hs:Same G H):∀ (n m:Nat) (d e:D) (x y:V) (u v:Value) (A:Around),ba n d=true→ba m e=true→Rep X.K G d x→Rep X.K G e y→RelV x u→RelV y v→A.units+n < cLine→EB A s u v (b8 d e):=by
 intro n
 induction n with
 | zero=>
  intro m d e x y u v A J g w B E F hu
  have kd:=jJ I hs w E
  have i:=jJ I hs B F
  have f:A.units < cLine:=by omega
  cases d with
  | lst l=>unfold ba at J; simp at J
  | tup l=>unfold ba at J; simp at J
  | ins _ _ _=>unfold ba at J; cases J
  | dct _ _=>unfold ba at J; cases J
  | scr _=>unfold ba at J; cases J
  | xc _=>unfold ba at J; cases J
  | fdc _ _=>unfold ba at J; cases J
  | non=>
   cases (show u= .none from kd)
   cases e with
   | non=>cases (show v= .none from i); unfold b8; exact ⟨EqAt.same _,RcAt.none_none,RcNeAt.none_none⟩
   | bl b=>cases (show v= .bool b from i); unfold b8; exact ⟨EqAt.none_bool _,RcAt.none_bool _,RcNeAt.none_bool _⟩
   | int b=>obtain ⟨t,rfl⟩:=i; unfold b8; exact ⟨EqAt.none_int _ _,RcAt.none_int _ _,RcNeAt.none_int _ _⟩
   | str b=>obtain ⟨t,rfl⟩:=i; unfold b8; exact ⟨EqAt.none_str _ _,RcAt.none_str _ _,RcNeAt.none_str _ _⟩
   | lst b=>refine lg (i) fun a o r hS71 p _=> ?_; subst hS71; unfold b8; exact ⟨EqAt.none_list p f,RcAt.none_list p f,RcNeAt.none_list p f⟩
   | tup b=>refine lg (i) fun a o r W p _=> ?_; subst W; unfold b8; exact ⟨EqAt.none_tuple p f,RcAt.none_tuple p f,RcNeAt.none_tuple p f⟩
   | ins _ _ _=>unfold ba at g; cases g
   | dct _ _=>unfold ba at g; cases g
   | scr _=>unfold ba at g; cases g
   | xc _=>unfold ba at g; cases g
   | fdc _ _=>unfold ba at g; cases g
  | bl c=>
   cases (show u= .bool c from kd)
   cases e with
   | non=>cases (show v= .none from i); unfold b8; exact ⟨EqAt.bool_none _,RcAt.bool_none _,RcNeAt.bool_none _⟩
   | bl b=>cases (show v= .bool b from i); unfold b8; exact ⟨EqAt.bool_bool _ _,RcAt.bool_bool _ _,RcNeAt.bool_bool _ _⟩
   | int b=>obtain ⟨t,rfl⟩:=i; unfold b8; exact ⟨EqAt.bool_int _ _ _,RcAt.bool_int _ _ _,RcNeAt.bool_int _ _ _⟩
   | str b=>obtain ⟨t,rfl⟩:=i; unfold b8; exact ⟨EqAt.bool_str _ _ _,RcAt.bool_str _ _ _,RcNeAt.bool_str _ _ _⟩
   | lst b=>refine lg (i) fun a o r hS73 p _=> ?_; subst hS73; unfold b8; exact ⟨EqAt.bool_list _ p f,RcAt.bool_list _ p f,RcNeAt.bool_list _ p f⟩
   | tup b=>refine lg (i) fun a o r hS74 p _=> ?_; subst hS74; unfold b8; exact ⟨EqAt.bool_tuple _ p f,RcAt.bool_tuple _ p f,RcNeAt.bool_tuple _ p f⟩
   | ins _ _ _=>unfold ba at g; cases g
   | dct _ _=>unfold ba at g; cases g
   | scr _=>unfold ba at g; cases g
   | xc _=>unfold ba at g; cases g
   | fdc _ _=>unfold ba at g; cases g
  | int c=>
   obtain ⟨t0,rfl⟩:=kd
   cases e with
   | non=>cases (show v= .none from i); unfold b8; exact ⟨EqAt.int_none _ _,RcAt.int_none _ _,RcNeAt.int_none _ _⟩
   | bl b=>cases (show v= .bool b from i); unfold b8; exact ⟨EqAt.int_bool _ _ _,RcAt.int_bool _ _ _,RcNeAt.int_bool _ _ _⟩
   | int b=>obtain ⟨t,rfl⟩:=i; unfold b8; exact ⟨EqAt.int_int _ _ _ _,RcAt.int_int _ _ _ _,RcNeAt.int_int _ _ _ _⟩
   | str b=>obtain ⟨t,rfl⟩:=i; unfold b8; exact ⟨EqAt.int_str _ _ _ _,RcAt.int_str _ _ _ _,RcNeAt.int_str _ _ _ _⟩
   | lst b=>refine lg (i) fun a o r hS75 p _=> ?_; subst hS75; unfold b8; exact ⟨EqAt.int_list _ _ p f,RcAt.int_list _ _ p f,RcNeAt.int_list _ _ p f⟩
   | tup b=>refine lg (i) fun a o r T p _=> ?_; subst T; unfold b8; exact ⟨EqAt.int_tuple _ _ p f,RcAt.int_tuple _ _ p f,RcNeAt.int_tuple _ _ p f⟩
   | ins _ _ _=>unfold ba at g; cases g
   | dct _ _=>unfold ba at g; cases g
   | scr _=>unfold ba at g; cases g
   | xc _=>unfold ba at g; cases g
   | fdc _ _=>unfold ba at g; cases g
  | str c=>
   obtain ⟨t0,rfl⟩:=kd
   cases e with
   | non=>cases (show v= .none from i); unfold b8; exact ⟨EqAt.str_none _ _,RcAt.str_none _ _,RcNeAt.str_none _ _⟩
   | bl b=>cases (show v= .bool b from i); unfold b8; exact ⟨EqAt.str_bool _ _ _,RcAt.str_bool _ _ _,RcNeAt.str_bool _ _ _⟩
   | int b=>obtain ⟨t,rfl⟩:=i; unfold b8; exact ⟨EqAt.str_int _ _ _ _,RcAt.str_int _ _ _ _,RcNeAt.str_int _ _ _ _⟩
   | str b=>obtain ⟨t,rfl⟩:=i; unfold b8; exact ⟨EqAt.str_str _ _ _ _,RcAt.str_str _ _ _ _,RcNeAt.str_str _ _ _ _⟩
   | lst b=>refine lg (i) fun a o r hS77 p _=> ?_; subst hS77; unfold b8; exact ⟨EqAt.str_list _ _ p f,RcAt.str_list _ _ p f,RcNeAt.str_list _ _ p f⟩
   | tup b=>refine lg (i) fun a o r hS78 p _=> ?_; subst hS78; unfold b8; exact ⟨EqAt.str_tuple _ _ p f,RcAt.str_tuple _ _ p f,RcNeAt.str_tuple _ _ p f⟩
   | ins _ _ _=>unfold ba at g; cases g
   | dct _ _=>unfold ba at g; cases g
   | scr _=>unfold ba at g; cases g
   | xc _=>unfold ba at g; cases g
   | fdc _ _=>unfold ba at g; cases g
 | succ n N=>
  intro m d e x y u v A J g w B E F hu
  have kd:=jJ I hs w E
  have i:=jJ I hs B F
  have f:A.units < cLine:=by omega
  have Z:A.in1.units+n < cLine:=by show A.units+1+n < cLine; omega
  have C:∀ (c:D),ba (n+1) c=true→(match c with | .lst _=>False | .tup _=>False | _=>True)→ba n c=true:=fun c h hc=>by cases c <;> first | exact hc.elim | (unfold ba at h ⊢; exact h)
  cases d with
  | lst l=>
   refine f_ (kd) fun a us r R j rl r1=> ?_; subst R
   have hd':=J
   unfold ba at hd'; rw [Bool.and_eq_true] at hd'
   cases e with
   | non=>cases (show v= .none from i); unfold b8; exact ⟨EqAt.list_none j f,RcAt.list_none j f,RcNeAt.list_none j f⟩
   | bl b=>cases (show v= .bool b from i); unfold b8; exact ⟨EqAt.list_bool _ j f,RcAt.list_bool _ j f,RcNeAt.list_bool _ j f⟩
   | int b=>obtain ⟨t,rfl⟩:=i; unfold b8; exact ⟨EqAt.list_int _ _ j f,RcAt.list_int _ _ j f,RcNeAt.list_int _ _ j f⟩
   | str b=>obtain ⟨t,rfl⟩:=i; unfold b8; exact ⟨EqAt.list_str _ _ j f,RcAt.list_str _ _ j f,RcNeAt.list_str _ _ j f⟩
   | lst l2=>
    refine f_ (i) fun b vs ys P q k r2=> ?_; subst P
    have he':=g
    unfold ba at he'; rw [Bool.and_eq_true] at he'
    unfold b8
    refine tW (X:=X) (n:=n) (m:=m) f j q rl k r1 r2 (fun Y=> ?_) fun d' e' x' y' u' v' M L q1 q2 q3 q4=>(N (m - 1) d' e' x' y' u' v' A.in1 (eD hd'.2 M) (eD he'.2 L) q1 q2 q3 q4 Z).1
    subst Y
    have ex:x= .ref a:=by rw [rep_lst] at w; refine kT (w) fun a' _ hS81 _=> ?_; subst hS81; cases E; rfl
    have ey:y= .ref a:=by rw [rep_lst] at B; refine kT (B) fun a' _ hS82 _=> ?_; subst hS82; cases F; rfl
    subst ex ey
    have z:=Rep.inj I hs J g w B
    cases z
    exact eqBL_refl hd'.2
   | tup l2=>
    refine f_ (i) fun b vs ys U q k r2=> ?_; subst U
    unfold b8
    exact ⟨EqAt.list_tuple j q f,RcAt.list_tuple j q f,RcNeAt.list_tuple j q f⟩
   | ins _ _ _=>unfold ba at g; cases g
   | dct _ _=>unfold ba at g; cases g
   | scr _=>unfold ba at g; cases g
   | xc _=>unfold ba at g; cases g
   | fdc _ _=>unfold ba at g; cases g
  | tup l=>
   refine f_ (kd) fun a us r hS84 j rl r1=> ?_; subst hS84
   have hd':=J
   unfold ba at hd'; rw [Bool.and_eq_true] at hd'
   cases e with
   | non=>cases (show v= .none from i); unfold b8; exact ⟨EqAt.tuple_none j f,RcAt.tuple_none j f,RcNeAt.tuple_none j f⟩
   | bl b=>cases (show v= .bool b from i); unfold b8; exact ⟨EqAt.tuple_bool _ j f,RcAt.tuple_bool _ j f,RcNeAt.tuple_bool _ j f⟩
   | int b=>obtain ⟨t,rfl⟩:=i; unfold b8; exact ⟨EqAt.tuple_int _ _ j f,RcAt.tuple_int _ _ j f,RcNeAt.tuple_int _ _ j f⟩
   | str b=>obtain ⟨t,rfl⟩:=i; unfold b8; exact ⟨EqAt.tuple_str _ _ j f,RcAt.tuple_str _ _ j f,RcNeAt.tuple_str _ _ j f⟩
   | tup l2=>
    refine f_ (i) fun b vs ys hS85 q k r2=> ?_; subst hS85
    have he':=g
    unfold ba at he'; rw [Bool.and_eq_true] at he'
    unfold b8
    refine qZ (X:=X) (n:=n) (m:=m) f j q rl k r1 r2 (fun Y=> ?_) fun d' e' x' y' u' v' M L q1 q2 q3 q4=>(N (m - 1) d' e' x' y' u' v' A.in1 (eD hd'.2 M) (eD he'.2 L) q1 q2 q3 q4 Z).1
    subst Y
    have ex:x= .ref a:=by rw [rep_tup] at w; refine kT (w) fun a' _ S _=> ?_; subst S; cases E; rfl
    have ey:y= .ref a:=by rw [rep_tup] at B; refine kT (B) fun a' _ Q _=> ?_; subst Q; cases F; rfl
    subst ex ey
    have z:=Rep.inj I hs J g w B
    cases z
    exact eqBL_refl hd'.2
   | lst l2=>
    refine f_ (i) fun b vs ys O q k r2=> ?_; subst O
    unfold b8
    exact ⟨EqAt.tuple_list j q f,RcAt.tuple_list j q f,RcNeAt.tuple_list j q f⟩
   | ins _ _ _=>unfold ba at g; cases g
   | dct _ _=>unfold ba at g; cases g
   | scr _=>unfold ba at g; cases g
   | xc _=>unfold ba at g; cases g
   | fdc _ _=>unfold ba at g; cases g
  | ins _ _ _=>unfold ba at J; cases J
  | dct _ _=>unfold ba at J; cases J
  | scr _=>unfold ba at J; cases J
  | xc _=>unfold ba at J; cases J
  | fdc _ _=>unfold ba at J; cases J
  | non=>exact N m _ e x y u v A (C _ J trivial) g w B E F (by omega)
  | bl c=>exact N m _ e x y u v A (C _ J trivial) g w B E F (by omega)
  | int c=>exact N m _ e x y u v A (C _ J trivial) g w B E F (by omega)
  | str c=>exact N m _ e x y u v A (C _ J trivial) g w B E F (by omega)
noncomputable def nh (d e:D):Res D:=if ba 20 d=true∧ba 20 e=true then .ok (.bl (b8 d e)) else .bad
noncomputable def k9 (d e:D):Res D:=if ba 20 d=true∧ba 20 e=true then .ok (.bl (!b8 d e)) else .bad
theorem iY (hu:X.A.units+64 < cLine):DOp X E (compareOp .Eq) nh:=by
 intro B s C G H x y f J v u I L z w c D ok
 unfold nh at ok ⊢
 by_cases h:ba 20 f=true∧ba 20 J=true
 ·rw [if_pos h]
  exact (pL I L 20 20 f J x y v u X.A h.1 h.2 z w c D (by omega)).2.1 _ _ _ _ ⟨_,rfl,.bl (b8 f J),G,H,I,rfl,.refl L,rep_bl.mpr rfl⟩
 ·rw [if_neg h] at ok; exact ok.elim
theorem gS (hu:X.A.units+64 < cLine):DOp X E (compareOp .NotEq) k9:=by
 intro B s C G H x y f J v u I L z w c D ok
 unfold k9 at ok ⊢
 by_cases h:ba 20 f=true∧ba 20 J=true
 ·rw [if_pos h]
  exact (pL I L 20 20 f J x y v u X.A h.1 h.2 z w c D (by omega)).2.2 _ _ _ _ ⟨_,rfl,.bl (!b8 f J),G,H,I,rfl,.refl L,rep_bl.mpr rfl⟩
 ·rw [if_neg h] at ok; exact ok.elim
end
section
variable{X:Cx}{E:XK}{pins:List (Addr×Obj)}{σ:St}{G H:Hp}{s:Shared}
open Classical in
noncomputable def zq (K:W.Frag)(G:Hp)(ds:List D)(dx:D)(u:Value):Bool:=decide (∃ d x,d∈ds∧Rep K G d x∧RelV x u∧b8 d dx=true)
theorem j8 (I:Inv X pins σ H s)(hs:Same G H){ds:List D}{dx d:D}{x:V}{u:Value}(hp:plL 19 ds=true)(hd:d∈ds)(rx:Rep X.K G d x)(ru:RelV x u):zq X.K G ds dx u=b8 d dx:=by
 unfold zq
 cases e:b8 d dx with
 | true=>exact @decide_eq_true _ (Classical.propDecidable _) (kZ d x hd rx ru e)
 | false=>
  refine @decide_eq_false _ (Classical.propDecidable _) fun r=> ?_
  refine mH (r) fun L w F v t J=> ?_
  have B:w=x:=RelV.inj t ru
  subst B
  rw [Rep.inj I hs (eD hp F) (eD hp hd) v rx,e] at J
  cases J
theorem lA {ds:List D}{xs:List V}{us:List Value}{f:Value→Bool}{g:D→Bool}:RepL X.K G ds xs→Vals xs us→(∀ d x u,d∈ds→Rep X.K G d x→RelV x u→f u=g d)→us.any f=ds.any g:=by
 intro y
 induction ds generalizing xs us with
 | nil=>intro r _; rw [y.inv0] at r; cases r; rfl
 | cons d ds s=>
  intro r h
  refine bL (y.inv) fun v q w a b=> ?_; subst w
  cases r with
  | cons T k=>
   rw [List.any_cons,List.any_cons,h d v _ List.mem_cons_self a T,s b k fun I t i A=>h I t i (dt A)]
noncomputable def CA (neg:Bool)(d e:D):Res D:=match e with
 | .lst l=>if plL 19 l=true∧ba 19 d=true then .ok (.bl (if neg then !(l.any fun y=>b8 y d) else l.any fun y=>b8 y d)) else .bad
 | .tup l=>if plL 19 l=true∧ba 19 d=true then .ok (.bl (if neg then !(l.any fun y=>b8 y d) else l.any fun y=>b8 y d)) else .bad
 | _=> .bad
theorem oM {ds:List D}{xs:List V}{us:List Value}{u:Value}(rd:RepL X.K G ds xs)(r:Vals xs us)(hu:u∈us):∃ d x,d∈ds∧Rep X.K G d x∧RelV x u:=by
 induction ds generalizing xs us with
 | nil=>rw [rd.inv0] at r; cases r; cases hu
 | cons d ds s=>
  refine bL (rd.inv) fun v q w a b=> ?_; subst w
  cases r with
  | cons T k=>
   rcases List.mem_cons.mp hu with rfl | hu
   ·exact (dL d v List.mem_cons_self a T)
   ·refine bL (s b k hu) fun I t c e A=> ?_
    exact (dL I t (dt c) e A)
theorem Cm (hu:X.A.units+64 < cLine):DOp X E (compareOp .In) (CA false):=by
 intro M s Q G H x y f P v u I L O F i N ok
 unfold CA at ok ⊢
 cases P with
 | lst l=>
  dsimp only at ok ⊢
  by_cases h:plL 19 l=true∧ba 19 f=true
  ·rw [if_pos h]
   rw [rep_lst] at F
   refine bL (F) fun a j C sq c=> ?_; subst C
   cases (show u= .ref a from N)
   obtain ⟨m,r,p⟩:=I.isLst (L.seq sq.sq)
   refine in_listAt (zq X.K G l f) p (fun w g=> ?_) ?_
   ·refine bL (oM c r (by simpa using g)) fun d z e b B=> ?_
    rw [j8 I L h.1 e b B]
    exact (pL I L 19 19 d f z x w v X.A.in1 (eD h.1 e) h.2 b O B i (by show X.A.units+1+19 < cLine; omega)).1
   ·have T:m.toArray.any (zq X.K G l f)=l.any fun y=>b8 y f:=by
     rw [List.any_toArray]
     exact lA c r fun d z w J b B=>j8 I L h.1 J b B
    rw [T]
    exact ⟨_,rfl,.bl (l.any fun y=>b8 y f),G,H,I,rfl,.refl L,rep_bl.mpr rfl⟩
  ·rw [if_neg h] at ok; exact ok.elim
 | tup l=>
  dsimp only at ok ⊢
  by_cases h:plL 19 l=true∧ba 19 f=true
  ·rw [if_pos h]
   rw [rep_tup] at F
   refine bL (F) fun a j D sq c=> ?_; subst D
   cases (show u= .ref a from N)
   obtain ⟨m,r,p⟩:=I.isTup (L.seqT sq.sq)
   refine in_tupleAt (zq X.K G l f) p (fun w g=> ?_) ?_
   ·refine bL (oM c r (by simpa using g)) fun d z e b B=> ?_
    rw [j8 I L h.1 e b B]
    exact (pL I L 19 19 d f z x w v X.A.in1 (eD h.1 e) h.2 b O B i (by show X.A.units+1+19 < cLine; omega)).1
   ·have T:m.toArray.any (zq X.K G l f)=l.any fun y=>b8 y f:=by
     rw [List.any_toArray]
     exact lA c r fun d z w J b B=>j8 I L h.1 J b B
    rw [T]
    exact ⟨_,rfl,.bl (l.any fun y=>b8 y f),G,H,I,rfl,.refl L,rep_bl.mpr rfl⟩
  ·rw [if_neg h] at ok; exact ok.elim
 | _=>exact ok.elim
noncomputable def BQ:D→Option Value
 | .non=>some (.type "NoneType")
 | .bl _=>some (.type "bool")
 | .int _=>some (.type "int")
 | .str _=>some (.type "str")
 | .lst _=>some (.type "list")
 | .tup _=>some (.type "tuple")
 | .ins _ _ _=>none
 | .dct _ _=>none
 | .scr _=>none
 | .xc C=>some (.ref C)
 | .fdc _ _=>none
noncomputable def ej (K:W.Frag)(c:Value)(d:D):Res D:=match BQ d with
 | some t=>match W.kitOne K t c with | some b=> .ok (.bl b) | none=> .bad
 | none=> .bad
theorem vB {A:Around}{u:Value}{c:Value}{d:D}{x:V}{b:Bool}{t:Value}{Q:Value→Shared→Prop}{E':Value→Shared→Prop}(I:Inv X pins σ H s)(hs:Same G H)(rx:Rep X.K G d x)(ru:RelV x u)(ht:BQ d=some t)(e:W.kitOne X.K t c=some b)(h:∀ tk,Q (.bool b) { s with toks:=tk }) :
  wpAny (model X.prog X.w) A (call (.builtin "isinstance") [u,c]) Q E' s:=by
 have B:=jJ I hs rx ru
 cases d with
 | non=>cases ht; cases (show u= .none from B); exact W.kia_one W.kitx_none I.kIn True.intro e (fun z=>nomatch z) h
 | bl y=>cases ht; cases (show u= .bool y from B); exact W.kia_one W.kitx_bool I.kIn True.intro e (fun z=>nomatch z) h
 | int i=>cases ht; obtain ⟨t,rfl⟩:=B; exact W.kia_one W.kitx_int I.kIn True.intro e (fun z=>nomatch z) h
 | str i=>cases ht; obtain ⟨t,rfl⟩:=B; exact W.kia_one W.kitx_str I.kIn True.intro e (fun z=>nomatch z) h
 | lst l=>
  cases ht
  refine cps fun PP J=> ?_
  refine lg (B) fun a m j E F _=> ?_; subst E; obtain ⟨o,f,g,_⟩:=F
  refine J ?_; clear J PP
  exact W.kia_one W.kitx_list I.kIn ⟨o,f,g⟩ e (fun z=>nomatch z) h
 | tup l=>
  cases ht
  refine cps fun PP J=> ?_
  refine lg (B) fun a m j N M _=> ?_; subst N; obtain ⟨o,f,g,_⟩:=M
  refine J ?_; clear J PP
  exact W.kia_one W.kitx_tuple I.kIn ⟨o,f,g⟩ e (fun z=>nomatch z) h
 | ins _ _ _=>cases ht
 | dct _ _=>cases ht
 | scr _=>cases ht
 | fdc _ _=>cases ht
 | xc C=>
  cases ht
  rw [rep_xc] at rx
  refine dr (rx) fun a L P O=> ?_; subst L
  cases (show u=Value.ref a from ru)
  obtain ⟨p,_,_⟩:=(show ObjOk X.prog X.w H s.heap a (kU a (.ref C)) from I.hok a _ (hs a _ P))
  exact W.kia_one (vF O) I.kIn p e (fun z=>nomatch z) h
theorem Bp {a c:Expr}{p pos:Pos}{fa:DS→Res D}{vc:V}(ha:PD X E a fa)(hcl:PE X c (tC vc))(hvc:cV vc≠ .none)(hg:Gl X "isinstance")(hm:X.mg "isinstance" =none)
  (hs1:starEach [a,c] X.env=(false,eval a X.env) :: starEach [c] X.env:=by rfl) (hs2:starEach [c] X.env=(false,eval c X.env) :: starEach [] X.env:=by rfl) (hpl:(backTo pos (starEach [c] X.env)).any (·.1)=false:=by rfl) :
  PD X E (.Call (.Name "isinstance" p) [a,c] [] pos) (fun ρ=>(fa ρ).bind (ej X.K (cV vc))):=by
 intro A s B G H ρ I N l M
 have g:PA X [a,c] (tI (tD X.K E fa) (tI (tC vc) zb)):=bq (dq ha) (bq hcl dh hs2) hs1
 refine wpAny_Call_Name_kw (io I hg hm PyProof.Rows.boot_isinstance ?_ (by decide) (by decide))
 refine PyProof.Rows.callWith_builtin1 (aO (g pos A s B H (fun r R=>∃ d x G',fa ρ= .ok d∧r=[x,vc]∧Ext G H G' R∧Rep X.K G' d x) I ?_) fun m h F=> ?_) hs1 hpl
 ·exact ⟨G,ρ,N,l,M.fst,fun d e v q S u Z=>(iM d v q e rfl u Z)⟩
 ·refine cps fun PP L=> ?_
  obtain ⟨r,S,Q,U,d,x,q,T,w,u,Z⟩:=F
  subst w
  refine bL (wV U) fun i n J Y j=> ?_; subst J
  refine L ?_; clear L PP
  rw [zV j hvc]
  have k:=M.snd T u.hh
  unfold ej at k
  cases f:BQ d with
  | none=>rw [f] at k; exact k.elim
  | some t=>
   rw [f] at k
   dsimp only at k
   cases O:W.kitOne X.K t (cV vc) with
   | none=>rw [O] at k; exact k.elim
   | some b=>exact vB Q u.gh Z Y f O fun P=>⟨.bl b,ao T (by unfold ej; rw [f]; dsimp only; rw [O]),.bl b,q,S,Q.tok P,rfl,u,rep_bl.mpr rfl⟩
end
end L2
namespace L2
open PySem PySem.Spec PyProof.Rows
noncomputable def zk (K:W.Frag)(J:It)(ds:List D)(G:Hp):Prop:=∀ (G2 H2:Hp),Same G G2→Same G2 H2→∀ (i:Nat),
 (∀ d,ds[i]?=some d→J.go i H2∧∀ x H',J.yld i H2 x H'→∃ G',Ext G2 H2 G' H'∧Rep K G' d x)∧(ds.length≤i→J.stop i H2)
inductive tDI (K:W.Frag)(E:XK)(fi:DS→Res (List D))(σ:St)(H:Hp)(R:It→Hp→Prop):Prop
 | mk (G:Hp) (ρ:DS) (s:Same G H) (r:Ro K G σ ρ) (o:OkR E H (fi ρ)) (k:∀ ds,fi ρ= .ok ds→∀ J G' H',Ext G H G' H'→zk K J ds G'→R J H')
section
variable{X:Cx}{E:XK}{tg:Expr}
noncomputable def BK:D→Res (List D)
 | .lst l=> .ok l
 | _=> .bad
noncomputable def BP:D→Res (List D)
 | .tup l=> .ok l
 | _=> .bad
theorem wO {K:W.Frag}{G:Hp}{a:Addr}{xs:List V}{ds:List D}(sq:fR K G a xs)(rl:RepL K G ds xs):zk K (zJ K a) ds G:=by
 intro p j N M i
 have J:fR K j a xs:=M.seq (N.seq sq)
 refine ⟨fun d H=> ?_,fun O=>⟨xs,J,by rw [← rl.length]; exact O⟩⟩
 obtain ⟨v,z,c⟩:=rl.get H
 refine ⟨(kY xs v J z),fun y P L=> ?_⟩
 obtain ⟨e,h⟩:=L
 subst e
 have q:=h xs J
 rw [z] at q; cases q
 exact ⟨p,.refl M,c.mono N⟩
theorem y8 {K:W.Frag}{G:Hp}{a:Addr}{xs:List V}{ds:List D}(sq:lj K G a xs)(rl:RepL K G ds xs):zk K (Ep K a) ds G:=by
 intro p j N M i
 have J:lj K j a xs:=M.seqT (N.seqT sq)
 refine ⟨fun d H=> ?_,fun O=>⟨xs,J,by rw [← rl.length]; exact O⟩⟩
 obtain ⟨v,z,c⟩:=rl.get H
 refine ⟨(kY xs v J z),fun y P L=> ?_⟩
 obtain ⟨e,h⟩:=L
 subst e
 have q:=h xs J
 rw [z] at q; cases q
 exact ⟨p,.refl M,c.mono N⟩
noncomputable def mm (lo:Int)(n:Nat):List D:=(List.range n).map fun (i:Nat)=>D.int (lo+(i:Int))
theorem kz {K:W.Frag}{G:Hp}(lo:Int)(n:Nat):zk K (Cb lo n) (mm lo n) G:=by
 intro p k P O i
 refine ⟨fun d H=> ?_,fun N=>(show n≤i by simpa [mm] using N)⟩
 unfold mm at H
 rw [List.getElem?_map] at H
 cases e:(List.range n)[i]? with
 | none=>rw [e] at H; cases H
 | some j=>
  rw [e] at H
  obtain ⟨o,rfl⟩:=dZ e
  cases H
  have g:i < n:=by simpa using o
  refine ⟨g,fun y Q M=> ?_⟩
  obtain ⟨T,t⟩:=M
  subst T t
  refine ⟨p,.refl O,rep_int.mpr ?_⟩
  rw [List.getElem_range]
theorem b4 {e:Expr}{f:DS→Res D}(h:PD X E e f):PI X tg e (tDI X.K E (fun ρ=>(f ρ).bind BK)):=by
 intro A s B H R I O
 obtain ⟨G,ρ,L,m,F,k⟩:=O
 refine tf (dq h) A s B H R I ⟨G,ρ,L,m,F.fst,fun d e v q S t z=> ?_⟩
 have J:=F.snd e t.hh
 cases d with
 | lst l=>
  rw [rep_lst] at z
  refine bL (z) fun a g N sq b=> ?_; subst N
  exact (iZ a rfl ⟨g,t.gh.seq sq.sq⟩ (k l (ao e rfl) (zJ X.K a) q S t (wO sq.sq b)))
 | _=>exact J.elim
theorem yI {e:Expr}{f:DS→Res D}(h:PD X E e f):PI X tg e (tDI X.K E (fun ρ=>(f ρ).bind BP)):=by
 intro A s B H R I Q
 obtain ⟨G,ρ,L,m,F,k⟩:=Q
 refine Bx (dq h) A s B H R I ⟨G,ρ,L,m,F.fst,fun d e v q S t z=> ?_⟩
 have J:=F.snd e t.hh
 cases d with
 | tup l=>
  rw [rep_tup] at z
  refine bL (z) fun a g P sq b=> ?_; subst P
  exact (iZ a rfl ⟨g,t.gh.seqT sq⟩ (k l (ao e rfl) (Ep X.K a) q S t (y8 sq b)))
 | _=>exact J.elim
noncomputable def cK (i:Int):Bool:=decide (-(2 ^ 62)≤i) && decide (i < 2 ^ 62)
noncomputable def mQ:List D→Res (List D)
 | [.int j]=>if cK j=true then .ok (mm 0 j.toNat) else .bad
 | _=> .bad
noncomputable def wH:List D→Res (List D)
 | [.int i,.int j]=>if (cK i && cK j)=true then .ok (mm i (j - i).toNat) else .bad
 | _=> .bad
theorem e9 {a:Expr}{p pos:Pos}{fs:DS→Res (List D)}(hg:Gl X "range")(hm:X.mg "range" =none)(ha:j0 X E [a] fs)(hs:starEach [a] X.env=[(false,eval a X.env)]:=by rfl):PI X tg (.Call (.Name "range" p) [a] [] pos) (tDI X.K E (fun ρ=>(fs ρ).bind mQ)):=by
 intro A s B H R I T
 obtain ⟨G,ρ,n,l,F,k⟩:=T
 refine nQ hg hm (g_ ha) hs A s B H R I ⟨G,ρ,n,l,F.fst,fun f e u q U t z=> ?_⟩
 have J:=F.snd e t.hh
 unfold mQ at J
 split at J
 ·rename_i j
  refine bL (z.inv) fun v r S c d=> ?_; subst S
  rw [d.inv0]
  rw [rep_int] at c; subst c
  by_cases o:cK j=true
  ·have hj':=o
   unfold cK at hj'
   rw [Bool.and_eq_true] at hj'
   exact (AL j rfl (of_decide_eq_true hj'.1) (of_decide_eq_true hj'.2) (k _ (ao e (if_pos o)) _ q U t (kz 0 j.toNat)))
  ·rw [if_neg o] at J; exact J.elim
 ·exact J.elim
theorem md {a b:Expr}{p pos:Pos}{fs:DS→Res (List D)}(hg:Gl X "range")(hm:X.mg "range" =none)(ha:j0 X E [a,b] fs)(hs:starEach [a,b] X.env=[(false,eval a X.env),(false,eval b X.env)]:=by rfl)(hs2:starEach [b] X.env=[(false,eval b X.env)]:=by rfl):PI X tg (.Call (.Name "range" p) [a,b] [] pos) (tDI X.K E (fun ρ=>(fs ρ).bind wH)):=by
 intro A s B H R I Y
 obtain ⟨G,ρ,n,l,F,k⟩:=Y
 refine uq hg hm (g_ ha) hs hs2 A s B H R I ⟨G,ρ,n,l,F.fst,fun f e u q S t z=> ?_⟩
 have J:=F.snd e t.hh
 unfold wH at J
 split at J
 ·rename_i i j
  refine cps fun PP L=> ?_
  refine bL (z.inv) fun v r T c d=> ?_; subst T
  refine bL (d.inv) fun M m U V W=> ?_; subst U
  refine L ?_; clear L PP
  rw [W.inv0]
  rw [rep_int] at c V; subst c V
  by_cases o:(cK i && cK j)=true
  ·have hj':=o
   unfold cK at hj'
   rw [Bool.and_eq_true,Bool.and_eq_true,Bool.and_eq_true] at hj'
   exact (dL i j rfl (lT (of_decide_eq_true hj'.1.1) (of_decide_eq_true hj'.1.2) (of_decide_eq_true hj'.2.1) (of_decide_eq_true hj'.2.2)) (k _ (ao e (if_pos o)) _ q S t (kz i (j - i).toNat)))
  ·rw [if_neg o] at J; exact J.elim
 ·exact J.elim
noncomputable def bG (t:D→Res Bool)(f:D→Res D):List D→Res (List D)
 | []=> .ok []
 | d :: ds=>match t d with
  | .ok true=>(match f d with
   | .ok e=>(bG t f ds).bind fun es=> .ok (e :: es)
   | _=> .bad)
  | .ok false=>bG t f ds
  | _=> .bad
theorem j4 {t:D→Res Bool}{f:D→Res D}:∀ {as bs es:List D},bG t f (as ++ bs)= .ok es→∃ e1 e2,bG t f as= .ok e1∧bG t f bs= .ok e2∧es=e1 ++ e2
 | [],bs,es,h=>(dL ([]) es rfl h rfl)
 | a :: as,bs,es,h=>by
  rw [List.cons_append] at h
  unfold bG at h
  cases g:t a with
  | bad=>rw [g] at h; cases h
  | exc c=>rw [g] at h; cases h
  | ok b=>
   rw [g] at h
   cases b with
   | false=>
    refine bL (j4 h) fun e1 e2 d i A=> ?_
    exact (dL e1 e2 (by unfold bG; rw [g]; exact d) i A)
   | true=>
    cases K:f a with
    | bad=>rw [K] at h; cases h
    | exc c=>rw [K] at h; cases h
    | ok e=>
     rw [K] at h
     dsimp only at h
     cases P:bG t f (as ++ bs) with
     | bad=>rw [P] at h; cases h
     | exc c=>rw [P] at h; cases h
     | ok j=>
      rw [P] at h
      have h':Res.ok (e :: j)=Res.ok es:=h
      cases h'
      refine bL (j4 P) fun e1 e2 d i A=> ?_
      subst A
      exact (dL (e :: e1) e2 (by unfold bG; rw [g,K]; dsimp only; rw [d]; rfl) i rfl)
theorem j6 {t:D→Res Bool}{f:D→Res D}:∀ {as es:List D},bG t f as= .ok es→es.length≤as.length
 | [],es,h=>by unfold bG at h; cases h; exact Nat.le_refl _
 | a :: as,es,h=>by
  unfold bG at h
  cases i:t a with
  | bad=>rw [i] at h; cases h
  | exc c=>rw [i] at h; cases h
  | ok b=>
   rw [i] at h
   cases b with
   | false=>exact Nat.le_succ_of_le (j6 h)
   | true=>
    cases K:f a with
    | bad=>rw [K] at h; cases h
    | exc c=>rw [K] at h; cases h
    | ok e=>
     rw [K] at h
     dsimp only at h
     cases P:bG t f as with
     | bad=>rw [P] at h; cases h
     | exc c=>rw [P] at h; cases h
     | ok g=>
      rw [P] at h
      have h':Res.ok (e :: g)=Res.ok es:=h
      cases h'
      have:=j6 P
      rw [List.length_cons,List.length_cons]; omega
noncomputable def cI (caps:List (Option Nat))(ρ:DS):DS:=caps.map fun o=>o.bind fun k=>(ρ[k]?).join
theorem xw {K:W.Frag}{G:Hp}{σ:St}{ρ:DS}{caps:List (Option Nat)}(h:Ro K G σ ρ):Ro K G (eO caps σ) (cI caps ρ):=by
 intro i d e
 unfold cI at e
 rw [List.getElem?_map] at e
 unfold eO
 rw [List.getElem?_map]
 cases q:caps[i]? with
 | none=>rw [q] at e; cases e
 | some o=>
  rw [q] at e
  cases o with
  | none=>simp at e
  | some k=>
   simp only [Option.map_some,Option.bind_some,Option.some.injEq] at e ⊢
   cases j:ρ[k]? with
   | none=>rw [j] at e; simp at e
   | some r=>
    rw [j] at e
    simp at e
    subst e
    obtain ⟨v,z,c⟩:=h k d j
    exact ⟨v,by rw [z]; rfl,c⟩
theorem Ro.set {K:W.Frag}{G:Hp}{σ:St}{ρ:DS}{j:Nat}{v:V}{d:D}(h:Ro K G σ ρ)(hj:j < σ.length)(r:Rep K G d v):Ro K G (σ.set j (some v)) (ρ.set j (some d)):=by
 intro i e q
 by_cases g:i=j
 ·subst g
  by_cases N:i < ρ.length
  ·rw [List.getElem?_set_self N] at q
   cases q
   exact ⟨v,List.getElem?_set_self hj,r⟩
  ·rw [List.getElem?_eq_none (by simpa using N)] at q
   cases q
 ·rw [List.getElem?_set_ne (Ne.symm g)] at q ⊢
  exact h i e q
noncomputable abbrev pq:XK:=fun _ _ _=>False
noncomputable def xg (X:Cx)(E:XK)(ifs:List Expr)(f:DS→Res Bool):Prop:=Cd X ifs (tDT X.K E f)
theorem bn:xg X E [] (fun _=> .ok true):=fun A s B H Q I Y=>(by obtain ⟨G,a,L,P,D,k⟩:=Y; exact yK A s B H Q I (k true rfl G H (.refl L)))
end
section
variable{X:Cx}{E:XK}
noncomputable def allInts:List D→Option (List Int)
 | []=>some []
 | .int i :: ds=>(allInts ds).map (i :: ·)
 | _=>none
theorem gs:∀ {ds:List D} {ns:List Int},allInts ds=some ns→ds=ns.map D.int
 | [],ns,h=>by unfold allInts at h; cases h; rfl
 | d :: ds,ns,h=>by
  cases d with
  | int i=>
   unfold allInts at h
   cases q:allInts ds with
   | none=>rw [q] at h; cases h
   | some Z=>rw [q] at h; cases h; rw [gs q]; rfl
  | _=>unfold allInts at h; cases h
theorem fw:∀ (ns:List Int),allInts (ns.map D.int)=some ns
 | []=>rfl
 | n :: ns=>by show (allInts (ns.map D.int)).map (n :: ·)=_; rw [fw ns]; rfl
noncomputable def kg:List Int→Int
 | []=>0
 | [a]=>a
 | a :: as=>min a (kg as)
noncomputable def iw:List Int→Int
 | []=>0
 | [a]=>a
 | a :: as=>max a (iw as)
theorem kh:∀ {ns:List Int},ns≠[]→kg ns∈ns∧∀ a∈ns,kg ns≤a
 | [],h=>absurd rfl h
 | [a],_=>⟨List.mem_singleton.mpr rfl,fun b u=>by rw [List.mem_singleton.mp u]; exact Int.le_refl _⟩
 | a :: b :: r,_=>by
  obtain ⟨d,e⟩:=kh (ns:=b :: r) (by simp)
  show min a (kg (b :: r))∈_∧_
  refine ⟨?_,fun c hc=> ?_⟩
  ·by_cases h:a≤kg (b :: r)
   ·rw [Int.min_eq_left h]; exact List.mem_cons_self
   ·rw [Int.min_eq_right (by omega)]; exact dt d
  ·show min a (kg (b :: r))≤c
   rcases List.mem_cons.mp hc with rfl | hc
   ·exact Int.min_le_left _ _
   ·exact Int.le_trans (Int.min_le_right _ _) (e c hc)
theorem nF:∀ {ns:List Int},ns≠[]→iw ns∈ns∧∀ a∈ns,a≤iw ns
 | [],h=>absurd rfl h
 | [a],_=>⟨List.mem_singleton.mpr rfl,fun b u=>by rw [List.mem_singleton.mp u]; exact Int.le_refl _⟩
 | a :: b :: r,_=>by
  obtain ⟨d,e⟩:=nF (ns:=b :: r) (by simp)
  show max a (iw (b :: r))∈_∧_
  refine ⟨?_,fun c hc=> ?_⟩
  ·by_cases h:iw (b :: r)≤a
   ·rw [Int.max_eq_left h]; exact List.mem_cons_self
   ·rw [Int.max_eq_right (by omega)]; exact dt d
  ·show c≤max a (iw (b :: r))
   rcases List.mem_cons.mp hc with rfl | hc
   ·exact Int.le_max_left _ _
   ·exact Int.le_trans (e c hc) (Int.le_max_right _ _)
noncomputable def mP:List D→Res D
 | [.lst l]=>match allInts l with | some (n :: ns)=> .ok (.int (kg (n :: ns))) | _=> .bad
 | _=> .bad
noncomputable def l8:List D→Res D
 | [.lst l]=>match allInts l with | some (n :: ns)=> .ok (.int (iw (n :: ns))) | _=> .bad
 | _=> .bad
theorem tR (hc:X.calm=true):d8 X (.builtin "min") (fun xs H Q=>∃ p ns,xs=[.ref p]∧fR X.K H p (ns.map V.int)∧ns≠[]∧Q (.int (kg ns)) H):=by
 intro A s F H xs Z Q I r h
 refine cps fun PP G=> ?_
 refine mH (h) fun p ns a sq W q=> ?_; subst a
 obtain ⟨u,rfl,D⟩:=jW r
 refine G ?_; clear G PP
 cases (show u= .ref p from D)
 refine dr (I.list sq) fun m l w _=> ?_
 have g:=gF l
 obtain ⟨E,e⟩:=g.allInts.items
 have k:ns=E.toList.map (·.1):=by rw [← g.numsOf,← nums_intItems,← e]
 have Y:0 < E.size:=by
  have B:0 < ns.length:=List.length_pos_iff.mpr W
  rw [k,List.length_map,Array.length_toList] at B; exact B
 have N:=w.isList
 rw [e] at N
 refine min_intList (I.ok.hd hc) N Y fun v o J z O=> ?_
 obtain ⟨t,rfl⟩:=intItems_at z
 obtain ⟨x,f⟩:=argBest_lt (numAt E) (E.size - 1)
 have C:numAt E (argBest (fun i j=>decide (numAt E i < numAt E j)) (E.size - 1))=kg ns:=by
  obtain ⟨c,d⟩:=kh W
  refine Int.le_antisymm ?_ (d _ ?_)
  ·rw [k] at c
   obtain ⟨j,n,b⟩:=mem_getD c
   rw [List.length_map,Array.length_toList] at n
   rw [← k] at b
   rw [← b,k,← numAt_eq]; exact f j (by omega)
  ·rw [k,numAt_eq]; exact getD_mem (by rw [List.length_map,Array.length_toList]; omega)
 rw [C]
 exact ⟨.int (kg ns),H,I.kept O,⟨t,rfl⟩,q⟩
theorem tQ (hc:X.calm=true):d8 X (.builtin "max") (fun xs H Q=>∃ p ns,xs=[.ref p]∧fR X.K H p (ns.map V.int)∧ns≠[]∧Q (.int (iw ns)) H):=by
 intro A s F H xs Z Q I r h
 refine cps fun PP G=> ?_
 refine mH (h) fun p ns c sq W q=> ?_; subst c
 obtain ⟨u,rfl,D⟩:=jW r
 refine G ?_; clear G PP
 cases (show u= .ref p from D)
 refine dr (I.list sq) fun m n w _=> ?_
 have g:=gF n
 obtain ⟨E,e⟩:=g.allInts.items
 have k:ns=E.toList.map (·.1):=by rw [← g.numsOf,← nums_intItems,← e]
 have Y:0 < E.size:=by
  have B:0 < ns.length:=List.length_pos_iff.mpr W
  rw [k,List.length_map,Array.length_toList] at B; exact B
 have N:=w.isList
 rw [e] at N
 refine max_intList (I.ok.hd hc) N Y fun v x J z O=> ?_
 obtain ⟨t,rfl⟩:=intItems_at z
 obtain ⟨a,l⟩:=argBest_gt (numAt E) (E.size - 1)
 have C:numAt E (argBest (fun i j=>decide (numAt E i > numAt E j)) (E.size - 1))=iw ns:=by
  obtain ⟨d,f⟩:=nF W
  refine Int.le_antisymm (f _ ?_) ?_
  ·rw [k,numAt_eq]; exact getD_mem (by rw [List.length_map,Array.length_toList]; omega)
  ·rw [k] at d
   obtain ⟨j,o,b⟩:=mem_getD d
   rw [List.length_map,Array.length_toList] at o
   rw [← k] at b
   rw [← b,k,← numAt_eq]; exact l j (by omega)
 rw [C]
 exact ⟨.int (iw ns),H,I.kept O,⟨t,rfl⟩,q⟩
theorem xC {K:W.Frag}:w9 K E (fun xs H Q=>∃ p ns,xs=[.ref p]∧fR K H p (ns.map V.int)∧ns≠[]∧Q (.int (kg ns)) H) mP:=by
 intro G H s g Q L a ok k
 unfold mP at ok k
 split at ok
 ·rename_i l
  obtain ⟨v,r,rfl,w,d⟩:=a.inv
  rw [d.inv0]
  rw [rep_lst] at w
  obtain ⟨p,xs,rfl,sq,w⟩:=w
  dsimp only at k
  cases q:allInts l with
  | none=>rw [q] at ok; exact ok.elim
  | some ns=>
   cases ns with
   | nil=>rw [q] at ok; exact ok.elim
   | cons n ns=>
    rw [q] at k
    have e:=gs q
    subst e
    have f:=w.ints
    subst f
    exact ⟨p,n :: ns,rfl,L.seq sq.sq,by simp,k _ _ G H rfl (.refl L) (rep_int.mpr rfl)⟩
 ·exact ok.elim
theorem xB {K:W.Frag}:w9 K E (fun xs H Q=>∃ p ns,xs=[.ref p]∧fR K H p (ns.map V.int)∧ns≠[]∧Q (.int (iw ns)) H) l8:=by
 intro G H s g Q L a ok k
 unfold l8 at ok k
 split at ok
 ·rename_i l
  obtain ⟨v,r,rfl,w,d⟩:=a.inv
  rw [d.inv0]
  rw [rep_lst] at w
  obtain ⟨p,xs,rfl,sq,w⟩:=w
  dsimp only at k
  cases q:allInts l with
  | none=>rw [q] at ok; exact ok.elim
  | some ns=>
   cases ns with
   | nil=>rw [q] at ok; exact ok.elim
   | cons n ns=>
    rw [q] at k
    have e:=gs q
    subst e
    have f:=w.ints
    subst f
    exact ⟨p,n :: ns,rfl,L.seq sq.sq,by simp,k _ _ G H rfl (.refl L) (rep_int.mpr rfl)⟩
 ·exact ok.elim
noncomputable def oX (hi:Int)(n:Nat):List D:=(List.range n).map fun (i:Nat)=>D.int (hi - (i:Int))
theorem mM {a b c:Int}{t u v:Tok}{n:Nat}{r:Addr}{pins:List (Addr×Obj)}{σ:St}{H:Hp}{s:Shared}{Q:VK}(hc:X.calm=true)(I:Inv X pins σ H s)(hr:IsRange s.heap r a b c t u v)(hsm:Builtin.Range.small a b c=true)(hn:Builtin.Range.rangeSize a b c=n)(hz:n≤100000)
  (q:∀ p,H p=none→Q (.ref p) (bu H p (.lst ((List.range n).map fun (i:Nat)=>V.int (a+(i:Int) * c))))):wpAny (model X.prog X.w) X.A (call (.type "list") [.ref r]) (EP X pins σ Q) X.xe s:=by
 refine call_list_range (I.ok.hd hc) hr hsm hn (Nat.le_trans hz (by decide)) fun F G y B O J k=> ?_
 obtain ⟨D,E⟩:=k
 have C:Vals ((List.range n).map fun (i:Nat)=>V.int (a+(i:Int) * c)) y.toList:=by
  have d:∀ (m:Nat) (f:Nat→V) (l:List Value),l.length=m→(∀ j u,l[j]?=some u→RelV (f j) u)→Vals ((List.range m).map f) l:=by
   intro m
   induction m with
   | zero=>
    intro f l N _
    cases l with
    | nil=>exact .nil
    | cons x g=>simp at N
   | succ m z=>
    intro f l N h
    cases l with
    | nil=>simp at N
    | cons x g=>
     rw [List.range_succ_eq_map,List.map_cons,List.map_map]
     exact .cons (h 0 x rfl) (z (f ∘ Nat.succ) g (by simpa using N) fun j u e=>h (j+1) u (by simpa using e))
  refine d n _ y.toList (by simpa using D) fun j u e=> ?_
  obtain ⟨P,rfl⟩:=E j u (by simpa using e)
  exact ⟨P,rfl⟩
 refine ⟨.ref s.heap.objs.size,_,I.laid (o:= .lst ((List.range n).map fun (i:Nat)=>V.int (a+(i:Int) * c))) O (Nat.le_refl _) (lQ ?_ y.toList B C ?_),rfl,q _ (I.hok.fresh (Nat.le_refl _))⟩
 ·rw [List.length_map,List.length_range]
  exact Nat.le_trans hz (by decide)
 ·rw [J]
theorem ik {i:Int}(h1: -(2 ^ 62)≤i)(h2:i≤2 ^ 62):Builtin.Range.rangeFitsLong i=true:=by
 unfold Builtin.Range.rangeFitsLong
 simp only [Bool.and_eq_true,decide_eq_true_eq]
 omega
theorem nV {a b:Int}:Builtin.Range.rangeSize a b (-1)=((a - b).toNat:Int):=by
 unfold Builtin.Range.rangeSize
 rw [if_neg (by decide)]
 split
 ·have:(-(-1:Int))=1:=by decide
  rw [this,Int.ediv_one]; omega
 ·omega
theorem nW {a b c:Int}(h1: -(2 ^ 60)≤a)(h2:a < 2 ^ 60)(h3: -(2 ^ 60)≤b)(h4:b < 2 ^ 60)(hc:c=1∨c= -1):Builtin.Range.small a b c=true:=by
 rcases hc with rfl | rfl
 ·exact small_one (by omega) (by omega) (by omega) (by omega)
 ·unfold Builtin.Range.small
  rw [nV,ik (i:=a) (by omega) (by omega),ik (i:=b) (by omega) (by omega),ik (i:= -1) (by decide) (by decide),ik (i:=((a - b).toNat:Int)) (by omega) (by omega)]
  rw [if_neg (by decide),ik (i:=b+(-1+1)) (by omega) (by omega)]
  simp
noncomputable def qT (p:Addr)(a b c:Int):HO:= .ext fun h=>∃ t u v,IsRange h p a b c t u v
theorem Inv.rng {pins:List (Addr×Obj)}{σ:St}{H:Hp}{s:Shared}{a b c:Int}{t u v:Tok}{tk:Nat}(I:Inv X pins σ H s):Inv X pins σ (bu H s.heap.objs.size (qT s.heap.objs.size a b c)) { s with heap:=s.heap.push { cls:= .type "range",data:= .fields #[.int a t,.int b u,.int c v] },toks:=tk }:=
 I.laid (fun b o e=>Heap.get?_push_of_some _ e) (Nat.le_refl _) ⟨⟨t,u,v,Heap.get?_push_size _ rfl⟩,⟨_,Heap.get?_push_size _ rfl⟩,fun h1 h2 ⟨t,u,v,e⟩ k=>⟨t,u,v,k _ e⟩⟩
theorem pF:d8 X (.type "range") (fun xs H Q=>∃ i j,xs=[.int i,.int j]∧∀ p,H p=none→Q (.ref p) (bu H p (qT p i j 1))):=by
 intro A s B H xs W Q I r h
 refine cps fun PP G=> ?_
 refine kT (h) fun i j g q=> ?_; subst g
 refine bL (wV r) fun J K e f k=> ?_; subst e; obtain ⟨l,rfl⟩:=f; obtain ⟨m,rfl⟩:=k
 refine G ?_; clear G PP
 exact call_range_2 ⟨.ref s.heap.objs.size,_,I.rng,rfl,q _ (I.hok.fresh (Nat.le_refl _))⟩
theorem Eh {x y z:V}{us:List Value}(r:Vals [x,y,z] us):∃ u v w,us=[u,v,w]∧RelV x u∧RelV y v∧RelV z w:=by
 cases r with
 | cons a b=>cases b with
  | cons c d=>cases d with
   | cons e f=>cases f; exact (iM _ _ _ rfl a c e)
theorem pG:d8 X (.type "range") (fun xs H Q=>∃ i j,xs=[.int i,.int j,.int (-1)]∧∀ p,H p=none→Q (.ref p) (bu H p (qT p i j (-1)))):=by
 intro A s B H xs W Q I r h
 refine cps fun PP G=> ?_
 refine kT (h) fun i j l q=> ?_; subst l
 refine f_ (Eh r) fun J K u m k o n=> ?_; subst m; obtain ⟨t,rfl⟩:=k; obtain ⟨v,rfl⟩:=o; obtain ⟨w,rfl⟩:=n
 refine G ?_; clear G PP
 exact call_range_3 (by decide) ⟨.ref s.heap.objs.size,_,I.rng (tk:=s.toks),rfl,q _ (I.hok.fresh (Nat.le_refl _))⟩ (.inl (PyProof.noPylong_small (by decide)))
theorem jw (hc:X.calm=true):d8 X (.type "list") (fun xs H Q=>∃ p a b c n,xs=[.ref p]∧H p=some (qT p a b c)∧Builtin.Range.small a b c=true∧Builtin.Range.rangeSize a b c=((n:Nat):Int)∧n≤100000∧∀ l,H l=none→Q (.ref l) (bu H l (.lst ((List.range n).map fun (i:Nat)=>V.int (a+(i:Int) * c))))):=by
 intro A s B H xs W Q I r h
 refine cps fun PP G=> ?_
 refine BY (h) fun p a b c n x Z o y D q=> ?_; subst x
 obtain ⟨u,rfl,E⟩:=jW r
 refine G ?_; clear G PP
 cases (show u= .ref p from E)
 obtain ⟨⟨t,u,v,e⟩,_,_⟩:=(show ObjOk X.prog X.w H s.heap p (qT p a b c) from I.hok p _ Z)
 exact mM hc I e o y D q
noncomputable def gW (i:Int):Bool:=decide (-(2 ^ 60)≤i) && decide (i < 2 ^ 60)
noncomputable def nB:List D→Res D
 | [.int i,.int j]=>if (gW i && gW j && aN (j - i).toNat)=true then .ok (.lst (mm i (j - i).toNat)) else .bad
 | _=> .bad
noncomputable def nC:List D→Res D
 | [.int i,.int j,.int k]=>if (gW i && gW j && aN (i - j).toNat && decide (k= -1))=true then .ok (.lst (oX i (i - j).toNat)) else .bad
 | _=> .bad
theorem ml {K:W.Frag}{G:Hp}{f:Nat→D}{g:Nat→V}(h:∀ i,Rep K G (f i) (g i)):∀ (l:List Nat),RepL K G (l.map f) (l.map g)
 | []=> .nil
 | a :: r=> .cons (h a) (ml h r)
theorem rG {a b:Expr}{p1 p2 pos1 pos2:Pos}{fs:DS→Res (List D)}(hc:X.calm=true)(hgl:Gl X "list")(hml:X.mg "list" =none)(hg:Gl X "range")(hm:X.mg "range" =none)(ha:j0 X E [a,b] fs)
  (hs:starEach [a,b] X.env=(false,eval a X.env) :: starEach [b] X.env:=by rfl) (hpl:(backTo pos2 (starEach [b] X.env)).any (·.1)=false:=by rfl)
  (hs3:starEach [.Call (.Name "range" p2) [a,b] [] pos2] X.env=(false,eval (.Call (.Name "range" p2) [a,b] [] pos2) X.env) :: starEach [] X.env:=by rfl) :
  PD X E (.Call (.Name "list" p1) [.Call (.Name "range" p2) [a,b] [] pos2] [] pos1) (bv fs nB):=by
 intro A s S G H f I n m F
 have he:=eH (pos:=pos1) (p:=p1) (jw hc) hgl hml PyProof.Rows.boot_list (bq (eH (pos:=pos2) (p:=p2) pF hg hm boot_range (g_ ha) (by decide) (by decide) hs hpl) dh hs3) (by decide) (by decide) hs3 rfl
 refine aO (he A s S H (fun v O=>∃ d c,bv fs nB f= .ok d∧Ext G H c O∧Rep X.K c d v) I ?_) fun u s' x=>(by obtain ⟨v,O,T,r,d,c,e,q,Z⟩:=x; exact ⟨d,e,v,c,O,T,r,q,Z⟩)
 refine ⟨G,f,n,m,F.fst,fun ds e vs G1 H1 y p1=> ?_⟩
 have J:=F.snd e y.hh
 unfold nB at J
 split at J
 ·rename_i i j
  refine cps fun PP L=> ?_
  refine bL (p1.inv) fun v r t g h=> ?_; subst t
  refine bL (h.inv) fun v2 r2 w W Y=> ?_; subst w
  refine L ?_; clear L PP
  rw [Y.inv0]
  rw [rep_int] at g W; subst g W
  by_cases o:(gW i && gW j && aN (j - i).toNat)=true
  ·have hj':=o
   unfold gW at hj'
   simp only [Bool.and_eq_true,decide_eq_true_eq] at hj'
   obtain ⟨⟨⟨C,N⟩,U,R⟩,M⟩:=hj'
   refine (kY i j rfl (fun p P=>(AM p i j 1 ((j - i).toNat) rfl az (nW C N U R (.inl rfl)) (by rw [rangeSize_one]; split <;> omega) (of_decide_eq_true M) (fun l Q=> ?_))))
   have z:=y.trans (Ext.new y.gh P (qT p i j 1))
   have B:=z.trans (Ext.new z.gh Q (.lst ((List.range (j - i).toNat).map fun (k:Nat)=>V.int (i+(k:Int) * 1))))
   refine (dL _ _ (ao e (if_pos o)) B (rep_lst.mpr (dL l _ rfl (.of az) (ml (fun k=>rep_int.mpr (by rw [Int.mul_one])) _))))
  ·rw [if_neg o] at J; exact J.elim
 ·exact J.elim
theorem rH {a b c:Expr}{p1 p2 pos1 pos2:Pos}{fs:DS→Res (List D)}(hc:X.calm=true)(hgl:Gl X "list")(hml:X.mg "list" =none)(hg:Gl X "range")(hm:X.mg "range" =none)(ha:j0 X E [a,b,c] fs)
  (hs:starEach [a,b,c] X.env=(false,eval a X.env) :: starEach [b,c] X.env:=by rfl) (hpl:(backTo pos2 (starEach [b,c] X.env)).any (·.1)=false:=by rfl)
  (hs3:starEach [.Call (.Name "range" p2) [a,b,c] [] pos2] X.env=(false,eval (.Call (.Name "range" p2) [a,b,c] [] pos2) X.env) :: starEach [] X.env:=by rfl) :
  PD X E (.Call (.Name "list" p1) [.Call (.Name "range" p2) [a,b,c] [] pos2] [] pos1) (bv fs nC):=by
 intro B s σ G H g I n m F
 have he:=eH (pos:=pos1) (p:=p1) (jw hc) hgl hml PyProof.Rows.boot_list (bq (eH (pos:=pos2) (p:=p2) pG hg hm boot_range (g_ ha) (by decide) (by decide) hs hpl) dh hs3) (by decide) (by decide) hs3 rfl
 refine aO (he B s σ H (fun v O=>∃ d f,bv fs nC g= .ok d∧Ext G H f O∧Rep X.K f d v) I ?_) fun u s' x=>(by obtain ⟨v,O,I',r,d,f,e,S,Z⟩:=x; exact ⟨d,e,v,f,O,I',r,S,Z⟩)
 refine ⟨G,g,n,m,F.fst,fun ds e vs G1 H1 t p1=> ?_⟩
 have J:=F.snd e t.hh
 unfold nC at J
 split at J
 ·rename_i i j k
  refine cps fun PP L=> ?_
  refine bL (p1.inv) fun v r y h P=> ?_; subst y
  refine bL (P.inv) fun v2 r2 z W Y=> ?_; subst z
  refine bL (Y.inv) fun v3 r3 A q C=> ?_; subst A
  refine L ?_; clear L PP
  rw [C.inv0]
  rw [rep_int] at h W q; subst h W q
  by_cases o:(gW i && gW j && aN (i - j).toNat && decide (k= -1))=true
  ·have hj':=o
   unfold gW at hj'
   simp only [Bool.and_eq_true,decide_eq_true_eq] at hj'
   obtain ⟨⟨⟨⟨Q,R⟩,b1,b2⟩,M⟩,rfl⟩:=hj'
   refine ⟨i,j,rfl,fun p T=>⟨p,i,j,-1,(i - j).toNat,rfl,az,nW Q R b1 b2 (.inr rfl),nV,of_decide_eq_true M,fun l U=> ?_⟩⟩
   have w:=t.trans (Ext.new t.gh T (qT p i j (-1)))
   have N:=w.trans (Ext.new w.gh U (.lst ((List.range (i - j).toNat).map fun (k:Nat)=>V.int (i+(k:Int) * (-1)))))
   refine (dL _ _ (ao e (if_pos o)) N (rep_lst.mpr (dL l _ rfl (.of az) (ml (fun k=>rep_int.mpr (by congr 1; omega)) _))))
  ·rw [if_neg o] at J; exact J.elim
 ·exact J.elim
noncomputable def xy (l:List D)(lo hi:Option Int):List D:=(l.drop (HT.cH l.length 0 lo)).take (HT.cH l.length l.length hi - HT.cH l.length 0 lo)
theorem sv {K:W.Frag}{G:Hp}{ds:List D}{xs:List V}(h:RepL K G ds xs)(lo hi:Option Int):RepL K G (xy ds lo hi) (pI xs lo hi):=by
 unfold xy pI
 rw [← h.length]
 exact (h.drop _).take _
noncomputable def ky (lo hi:Option Int):D→Res D
 | .lst l=> .ok (.lst (xy l lo hi))
 | .tup l=>if HT.cH l.length 0 lo=0∧HT.cH l.length l.length hi=l.length then .bad else .ok (.tup (xy l lo hi))
 | _=> .bad
inductive tPO (K:W.Frag)(E:XK)(f:DS→Res (Option Int))(σ:St)(H:Hp)(Q:Option Int→Hp→Prop):Prop
 | mk (G:Hp) (ρ:DS) (s:Same G H) (r:Ro K G σ ρ) (ok:OkR E H (f ρ)) (k:∀ o,f ρ= .ok o→∀ G' H',Ext G H G' H'→Q o H')
noncomputable def Cc (X:Cx)(E:XK)(e:Option Expr)(f:DS→Res (Option Int)):Prop:=PO X e (tPO X.K E f)
theorem qm:Cc X E none (fun _=> .ok none):=fun A s B H Q I C=>(by obtain ⟨G,a,L,P,D,k⟩:=C; exact yM A s B H Q I (k none rfl G H (.refl L)))
noncomputable def EI:D→Res (Option Int)
 | .int i=> .ok (some i)
 | _=> .bad
theorem qo {e:Expr}{f:DS→Res D}(h:PD X E e f):Cc X E (some e) (fun ρ=>(f ρ).bind EI):=by
 intro A s B H Q I F
 obtain ⟨G,ρ,L,P,J,k⟩:=F
 refine yN (dq h) A s B H Q I ⟨G,ρ,L,P,J.fst,fun d e v q S t z=> ?_⟩
 have K:=J.snd e t.hh
 cases d with
 | int i=>rw [rep_int] at z; exact ⟨i,z,k (some i) (ao e rfl) q S t⟩
 | _=>exact K.elim
noncomputable def Eb (f:DS→Res D)(lo hi:DS→Res (Option Int)):DS→Res D:=fun ρ=>(f ρ).bind fun d=>(lo ρ).bind fun l=>(hi ρ).bind fun u=>ky l u d
theorem ql {e:Expr}{lo hi:Option Expr}{p2 pos:Pos}{f:DS→Res D}{fl fh:DS→Res (Option Int)}(he:PD X E e f)(hl:Cc X E lo fl)(hh:Cc X E hi fh):PD X E (.Subscript e (.Slice lo hi none p2) pos) (Eb f fl fh):=by
 intro A s S G H b I n k Q
 have Z:=wg (pos:=pos) (p2:=p2) (sl_list.or BL) (dq he) hl hh
 refine aO (Z A s S H (fun v O=>∃ d h,Eb f fl fh b= .ok d∧Ext G H h O∧Rep X.K h d v) I ?_) fun u W J=>(by obtain ⟨v,O,T,r,d,h,e,o,m⟩:=J; exact ⟨d,e,v,h,O,T,r,o,m⟩)
 refine ⟨G,b,n,k,Q.fst,fun d e v C V t R=> ?_⟩
 have Y:=Q.snd e t.hh
 refine ⟨C,b,t.gh,k.mono t.gg,Y.fst,fun l N q U y=> ?_⟩
 have z:=Y.snd N y.hh
 refine ⟨q,b,y.gh,(k.mono t.gg).mono y.gg,z.fst,fun u P G3 H3 w=> ?_⟩
 have x:=z.snd P w.hh
 have M:=(t.trans y).trans w
 have B:=R.mono (y.gg.trans w.gg)
 cases d with
 | lst g=>
  rw [rep_lst] at B
  refine bL (B) fun a i L sq c=> ?_; subst L
  exact .inl (dL a i rfl (w.gh.seq sq.sq) (fun p Z=>(dL _ _ (ao e (ao N (ao P rfl))) (M.trans (.new w.gh Z _)) (rep_lst.mpr (dL p _ rfl (.of az) ((sv c l u).mono (Ext.new w.gh Z _).gg))))))
 | tup g=>
  rw [rep_tup] at B
  refine bL (B) fun a i F sq c=> ?_; subst F
  unfold ky at x
  dsimp only at x
  by_cases j:HT.cH g.length 0 l=0∧HT.cH g.length g.length u=g.length
  ·rw [if_pos j] at x; exact x.elim
  ·exact .inr (kZ a i rfl (w.gh.seqT sq) (by rw [← c.length]; exact j) (fun p Z=>(dL _ _ (ao e (ao N (ao P (if_neg j)))) (M.trans (.new w.gh Z _)) (rep_tup.mpr (dL p _ rfl (.of az) ((sv c l u).mono (Ext.new w.gh Z _).gg))))))
 | _=>exact x.elim
end
inductive Out where
 | nx (ρ:DS) | rt (d:D) | bk (ρ:DS) | ct (ρ:DS) | exc (c:Addr) | bad
noncomputable def OkO (E:XK)(H:Hp):Out→Prop
 | .exc c=>∀ H',Same H H'→E (.ref c) none H'
 | .bad=>False
 | _=>True
noncomputable def Out.then:Out→(DS→Out)→Out
 | .nx ρ,f=>f ρ
 | o,_=>o
noncomputable def Res.out {α:Type}:Res α→(α→Out)→Out
 | .ok a,f=>f a
 | .exc c,_=> .exc c
 | .bad,_=> .bad
noncomputable def SO (X:Cx)(pins:List (Addr×Obj))(G H:Hp)(o:Out)(fl:Flow)(s':Shared):Prop:=
 match fl with
 | .next=>∃ ρ' σ' G' H',o= .nx ρ'∧Inv X pins σ' H' s'∧Ext G H G' H'∧Ro X.K G' σ' ρ'
 | .brk=>∃ ρ' σ' G' H',o= .bk ρ'∧Inv X pins σ' H' s'∧Ext G H G' H'∧Ro X.K G' σ' ρ'
 | .cont=>∃ ρ' σ' G' H',o= .ct ρ'∧Inv X pins σ' H' s'∧Ext G H G' H'∧Ro X.K G' σ' ρ'
 | .ret u=>∃ d v σ' G' H',o= .rt d∧Inv X pins σ' H' s'∧RelV v u∧Ext G H G' H'∧Rep X.K G' d v
noncomputable def zN (X:Cx)(E:XK)(st:Stmt)(F:DS→Out):Prop:=
 ∀ (pins:List (Addr×Obj)) (s:Shared) (σ:St) (G H:Hp) (ρ:DS),Inv X pins σ H s→Same G H→Ro X.K G σ ρ→OkO E H (F ρ)→
  wpAny (model X.prog X.w) X.A (exec st X.env) (SO X pins G H (F ρ)) X.xe s
noncomputable def EG (X:Cx)(E:XK)(sts:List Stmt)(F:DS→Out):Prop:=
 ∀ (pins:List (Addr×Obj)) (s:Shared) (σ:St) (G H:Hp) (ρ:DS),Inv X pins σ H s→Same G H→Ro X.K G σ ρ→OkO E H (F ρ)→
  wpAny (model X.prog X.w) X.A (execs sts X.env) (SO X pins G H (F ρ)) X.xe s
theorem OkO.fst {E:XK}{H:Hp}{o:Out}{f:DS→Out}(h:OkO E H (o.then f)):OkO E H o:=by cases o <;> first | exact h | trivial
theorem OkO.snd {E:XK}{H H1:Hp}{o:Out}{f:DS→Out}{ρ:DS}(h:OkO E H (o.then f))(e:o= .nx ρ)(s:Same H H1):OkO E H1 (f ρ):=by
 subst e
 have h':OkO E H (f ρ):=h
 cases q:f ρ with
 | exc c=>rw [q] at h'; exact fun O V=>h' O (s.trans V)
 | bad=>rw [q] at h'; exact h'
 | nx _=>trivial
 | rt _=>trivial
 | bk _=>trivial
 | ct _=>trivial
theorem OkO.le {E:XK}{H H1:Hp}{o:Out}(h:OkO E H o)(s:Same H H1):OkO E H1 o:=by
 cases o with
 | exc c=>exact fun O V=>h O (s.trans V)
 | bad=>exact h
 | _=>trivial
theorem OkO.res {α:Type}{E:XK}{H:Hp}{x:Res α}{f:α→Out}(h:OkO E H (x.out f)):OkR E H x:=by cases x <;> first | exact h | trivial
theorem OkO.res2 {α:Type}{E:XK}{H H1:Hp}{x:Res α}{f:α→Out}{a:α}(h:OkO E H (x.out f))(e:x= .ok a)(s:Same H H1):OkO E H1 (f a):=by
 subst e
 exact OkO.le (show OkO E H (f a) from h) s
theorem aZ {α:Type}{x:Res α}{f:α→Out}{a:α}(e:x= .ok a):x.out f=f a:=by subst e; rfl
section
variable{X:Cx}{E:XK}
noncomputable def ay (F R:DS→Out):DS→Out:=fun ρ=>(F ρ).then R
theorem tw {st:Stmt}{F:DS→Out}(h1:zN X E st F):EG X E [st] F:=by
 intro A s B G H a I L P D
 refine wpAny_execs_cons (aO (h1 A s B G H a I L P D) fun r N q=> ?_)
 cases r with
 | next=>exact wpAny_execs_nil q
 | brk=>exact q
 | cont=>exact q
 | ret u=>exact q
noncomputable def br (f:DS→Res D):DS→Out:=fun ρ=>(f ρ).out .rt
theorem wA {e:Expr}{pos:Pos}{f:DS→Res D}(h:PD X E e f):zN X E (.Return (some e) pos) (br f):=by
 intro A s B G H a I L P F
 refine aO (mi (pos:=pos) (dq h) A s B H { nx:=fun _ _=>False,bk:=fun _ _=>False,ct:=fun _ _=>False,rt:=fun v O=>∃ d b,f a= .ok d∧Ext G H b O∧Rep X.K b d v } I ⟨G,a,L,P,F.res,fun d e v b O x Z=>(dL d b e x Z)⟩) fun r N q=> ?_
 cases r with
 | next=>obtain ⟨_,_,_,q⟩:=q; exact q.elim
 | brk=>obtain ⟨_,_,_,q⟩:=q; exact q.elim
 | cont=>obtain ⟨_,_,_,q⟩:=q; exact q.elim
 | ret u=>
  obtain ⟨v,M,O,y,c,d,b,e,x,Z⟩:=q
  exact (ym d v M b O (aZ e) y c x Z)
noncomputable def aQ (i:Nat)(f:DS→Res D):DS→Out:=fun ρ=>(f ρ).out fun d=> .nx (ρ.set i (some d))
noncomputable def dn (fc:DS→Res Bool)(Fa Fb:DS→Out):DS→Out:=fun ρ=>(fc ρ).out fun k=>if k=true then Fa ρ else Fb ρ
noncomputable def fL (C:Addr)(ok:DS→Bool):DS→Out:=fun ρ=>if ok ρ=true then .exc C else .bad
theorem wz {x:Str}{np cpos pos:Pos}{e:Expr}{es:List Expr}{C:Addr}{t:TA}(hR:lz X E)(hc:X.calm=true)(Gx:ExcC X.K X.mg x C)(hg:Gl X x)(ha:PA X (e :: es) t)(ok:DS→Bool)
  (ht:∀ σ G H ρ,Same G H→Ro X.K G σ ρ→ok ρ=true→t σ H fun vs H1=>vs.length≤sizeLine∧H1=H)
  (he:starEach (e :: es) X.env=(false,eval e X.env) :: starEach es X.env:=by rfl) (hpl:(backTo cpos (starEach es X.env)).any (·.1)=false:=by rfl) (hdb:(x == ("__debug__" :Str))=false:=by decide)
  (hmono:∀ σ H Q Q',(∀ vs H1,Q vs H1→Q' vs H1)→t σ H Q→t σ H Q') :
  zN X E (.Raise (some (.Call (.Name x np) (e :: es) [] cpos)) none pos) (fL C ok):=by
 intro A s σ G H ρ I M P D
 unfold fL at D ⊢
 by_cases O:ok ρ=true
 ·rw [if_pos O] at D ⊢
  refine wpAny_mono (wD hR hc Gx hg ha he hpl hdb A s σ H { nx:=fun _ _=>False,bk:=fun _ _=>False,ct:=fun _ _=>False,rt:=fun _ _=>False } I (hmono _ _ _ _ (fun vs H1 L=>(by obtain ⟨a,b⟩:=L; exact ⟨a,by subst b; exact D _ (.refl _)⟩)) (ht σ G H ρ M P O))) (fun r N q=> ?_) fun _ _ z=>z
  cases r with
  | next=>obtain ⟨_,_,_,q⟩:=q; exact q.elim
  | brk=>obtain ⟨_,_,_,q⟩:=q; exact q.elim
  | cont=>obtain ⟨_,_,_,q⟩:=q; exact q.elim
  | ret u=>obtain ⟨_,_,_,_,_,q⟩:=q; exact q.elim
 ·rw [if_neg O] at D; exact D.elim
noncomputable def yd (j:Nat)(F:DS→Out):List D→DS→Out
 | [],ρ=> .nx ρ
 | d :: ds,ρ=>match F (ρ.set j (some d)) with
  | .nx ρ'=>yd j F ds ρ'
  | .ct ρ'=>yd j F ds ρ'
  | .bk ρ'=> .nx ρ'
  | .rt d=> .rt d
  | .exc c=> .exc c
  | .bad=> .bad
noncomputable def EK (fi:DS→Res (List D))(j:Nat)(F:DS→Out):DS→Out:=fun ρ=>(fi ρ).out fun ds=>yd j F ds ρ
end
noncomputable def e8:Out→Res D
 | .rt d=> .ok d
 | .nx _=> .ok .non
 | .exc c=> .exc c
 | _=> .bad
noncomputable def aA (N:List Str)(ds:List D):DS:=ds.map some ++ List.replicate (N.length - ds.length) none
theorem qy {K:W.Frag}{G:Hp}{N:List Str}{ds:List D}{vs:List V}(h:RepL K G ds vs):Ro K G (cP N vs) (aA N ds):=by
 intro i d e
 unfold aA at e
 unfold cP
 by_cases g:i < ds.length
 ·rw [List.getElem?_append_left (by simpa using g),List.getElem?_map] at e
  cases q:ds[i]? with
  | none=>rw [q] at e; cases e
  | some I=>
   rw [q] at e; cases e
   obtain ⟨v,z,c⟩:=h.get q
   have L:i < vs.length:=(dZ z).1
   exact ⟨v,by rw [List.getElem?_append_left (by simpa using L),List.getElem?_map,z]; rfl,c⟩
 ·rw [List.getElem?_append_right (by simpa using g),List.getElem?_replicate] at e
  split at e <;> cases e
section
variable{P:Program}{w:World}{K:W.Frag}{mg:Str→Option Value}{base:Heap}
noncomputable abbrev qQ (P:Program)(w:World)(K:W.Frag)(mg:Str→Option Value)(base:Heap)(N:List Str)(qual:Str)(scope:Scope)(f:Addr)(cdv:Value)(A:Around)(outer:List Env)(s:Shared)(H:Hp)(E:XK):Cx:=mK (CXF P w) P w K mg base N qual scope f cdv A outer s H E
theorem Fun.okF {x qual:Str}{st:Stmt}{f:Addr}{fd:FuncData}{N ps:List Str}{k:Nat}{sp:Sp}(F:Fun K x qual st f fd)(S:FnScope N ps (ah st))(len:∀ vs H Q E,sp vs H Q E→vs.length=ps.length)
  (hbody:∀ (cdv:Value) (A:Around) (outer:List Env) (s:Shared) (H:Hp) (vs:List V) (Q:VK) (E:XK),Room k (A.deeper (envOfC qual (ah st) s.heap.objs.size f cdv))→sp vs H Q E→
   ∃ t,BZ (qQ P w K mg base N qual (ah st) f cdv A outer s H E) (b_ st) t∧t { nx:=fun _ H'=>Q .non H',rt:=Q } (cP N vs) H):FnOk P w K mg base (CXF P w) (k+1) f fd ps sp:=by
 refine wZ (F.ex) fun h n kV c pm T cdv O e M g G=> ?_; subst M
 exact sM g G S len fun A outer s H vs Q E R C=>hbody cdv A outer s H vs Q E R C
theorem Fun.pure {x qual:Str}{st:Stmt}{f:Addr}{fd:FuncData}{N ps:List Str}{k:Nat}{m:List D→Res D}(F:Fun K x qual st f fd)(S:FnScope N ps (ah st))(len:∀ ds,m ds≠ .bad→ds.length=ps.length)
  (hbody:∀ (cdv:Value) (A:Around) (outer:List Env) (s:Shared) (H:Hp) (E:XK),Room k (A.deeper (envOfC qual (ah st) s.heap.objs.size f cdv))→
   ∃ Fb,EG (qQ P w K mg base N qual (ah st) f cdv A outer s H E) E (b_ st) Fb∧∀ ds,m ds≠ .bad→e8 (Fb (aA N ds))=m ds):FnOk P w K mg base (CXF P w) (k+1) f fd ps (pureSp K m):=by
 have C:∀ {E:XK} {H:Hp} {r:Res D},OkR E H r→r≠ .bad:=fun h z=>by rw [z] at h; exact h
 refine wZ (F.ex) fun oc od kV doc pm an cdv ct osl T lk L=> ?_; subst T
 refine sM lk L S (fun t H Q E U=>(by obtain ⟨ds,G,_,a,J,_⟩:=U; rw [← a.length]; exact len ds (C J))) fun A outer s H t Q E hr Z=> ?_
 refine cps fun PP g=> ?_
 obtain ⟨ds,G,l,a,J,k⟩:=Z
 obtain ⟨Fb,hb,hm⟩:=hbody cdv A outer s H E hr
 refine g ?_; clear g PP
 have R:=hm ds (C J)
 have X:OkO E H (Fb (aA N ds)):=by
  rw [← R] at J
  cases q:Fb (aA N ds) with
  | exc c=>rw [q] at J; exact J
  | bad=>rw [q] at J; exact J
  | _=>trivial
 refine ⟨fun D i Y=>(i=cP N t∧Y=H∧(D.nx=fun _ O=>Q .non O)∧D.rt=Q),?_,rfl,rfl,rfl,rfl⟩
 intro B p i Y D I W
 refine lf (W) fun n o e3 e4=> ?_
 subst n o
 refine aO (hb B p _ G Y (aA N ds) I l (qy a) X) fun fl s2 q=> ?_
 cases fl with
 | next=>
  refine lh (q) fun V M b O e y x r=> ?_
  refine ⟨M,O,y,?_⟩
  rw [e3]
  exact k .non (by rw [← R,e]; rfl) .non b O x (rep_non.mpr rfl)
 | brk=>
  refine lh (q) fun V M b O e y x r=> ?_
  rw [e] at R
  exact absurd R.symm (C J)
 | cont=>
  refine lh (q) fun V M b O e y x r=> ?_
  rw [e] at R
  exact absurd R.symm (C J)
 | ret u=>
  refine w6 (q) fun d v M b O e y rv x j=> ?_
  refine ⟨v,M,O,y,rv,?_⟩
  rw [e4]
  exact k d (by rw [← R,e]; rfl) v b O x j
end
section
variable{X:Cx}{E:XK}
noncomputable def ac (i:Nat):DS→Res D:=fun ρ=>match ρ[i]? with | some (some d)=> .ok d | _=> .bad
theorem dv (i:Nat){x:Str}{pos:Pos}(hN:X.N[i]?=some x:=by rfl)(hv:oe X.env.scope x:=by first | exact Or.inl rfl | exact Or.inr (Or.inl rfl) | exact Or.inr (Or.inr rfl))(hd:(x == ("__debug__" :Str))=false:=by decide)
  (hcd:(x == ("__classdict__" :Str))=false:=by decide):PD X E (.Name x pos) (ac i):=Bs hN hv hd hcd
end
section
variable{α β:Type}{a:α}{f:α→Res β}{g:α→Out}{c:Addr}
theorem aq:(Res.ok a).bind f=f a:=id rfl
theorem pQ:(Res.exc c:Res α).bind f= .exc c:=id rfl
theorem aU:(Res.ok a).out g=g a:=id rfl
theorem q0:(Res.exc c:Res α).out g= .exc c:=id rfl
end
section
variable{ρ:DS}{R:DS→Out}{d e:D}{i j:Int}{l:List D}{c:Addr}{F F':DS→Out}{f f':DS→Res D}{fc:DS→Res Bool}{b:Bool}
theorem cg:(Out.nx ρ).then R=R ρ:=id rfl
theorem rb:(Out.rt d).then R= .rt d:=id rfl
theorem pT:(Out.exc c).then R= .exc c:=id rfl
theorem de:ay F R ρ=(F ρ).then R:=id rfl
theorem lJ {k:Nat}:aQ k f ρ=(f ρ).out fun d=> .nx (ρ.set k (some d)):=id rfl
theorem q_:br f ρ=(f ρ).out .rt:=id rfl
theorem zn:dn fc F F' ρ=(fc ρ).out fun k=>if k=true then F ρ else F' ρ:=id rfl
theorem zp {o:D→D→Res D}:ae f f' o ρ=(f ρ).bind fun a=>(f' ρ).bind fun b=>o a b:=id rfl
theorem Cn {fs:DS→Res (List D)}{g:List D→Res D}:bv fs g ρ=(fs ρ).bind g:=id rfl
theorem Ae:cQ f ρ=(f ρ).bind fun d=>match d with | .bl b=> .ok b | _=> .bad:=id rfl
theorem xZ:ac 0 (some d :: ρ)= .ok d:=id rfl
theorem x6 {k:Nat}{o:Option D}:ac (k+1) (o :: ρ)=ac k ρ:=id rfl
theorem xT {o o':Option D}:(o :: ρ).set 0 o'=o' :: ρ:=id rfl
theorem xV {k:Nat}{o o':Option D}:(o :: ρ).set (k+1) o'=o :: ρ.set k o':=id rfl
theorem ve:e8 (.rt d)= .ok d:=id rfl
theorem vd:e8 (.nx ρ)= .ok .non:=id rfl
theorem t5:e8 (.exc c)= .exc c:=id rfl
theorem Ab:uR (.int i) (.int j)= .ok (.int (i+j)):=id rfl
theorem AF:pe (.int i) (.int j)= .ok (.int (i - j)):=id rfl
theorem xN (h1: -(2 ^ 64) < j)(h2:j < 2 ^ 64):um (.int i) (.int j)= .ok (.int (i * j)):=by
 unfold um gY; dsimp only; rw [if_pos (decide_eq_true (show CMul i j from Or.inr ⟨h1,h2⟩))]
theorem xM (h1: -(2 ^ 64) < i)(h2:i < 2 ^ 64):um (.int i) (.int j)= .ok (.int (i * j)):=by
 unfold um gY; dsimp only; rw [if_pos (decide_eq_true (show CMul i j from Or.inl ⟨h1,h2⟩))]
theorem ox (h:0 < j):oO (.int i) (.int j)= .ok (.int (i % j)):=by
 unfold oO gY; dsimp only; rw [if_pos (decide_eq_true h)]
theorem sA (h1:0 < j)(h2:j < 1073741824):sK (.int i) (.int j)= .ok (.int (i / j)):=by
 unfold sK gY; dsimp only; rw [if_pos (decide_eq_true (show uO i j from ⟨h1,h2⟩))]
theorem Cq:qd (.int i) (.int j)= .ok (.bl (decide (i < j))):=id rfl
theorem zo:qP (.int i) (.int j)= .ok (.bl (decide (i≤j))):=id rfl
theorem Cp:EM (.int i) (.int j)= .ok (.bl (decide (j < i))):=id rfl
theorem Co:FW (.int i) (.int j)= .ok (.bl (decide (j≤i))):=id rfl
theorem sC:bj [.lst l]= .ok (.int l.length):=id rfl
theorem xI:bj [.tup l]= .ok (.int l.length):=id rfl
theorem ji {d:D}(h:atI l i=some d):av (.lst l) (.int i)= .ok d:=by unfold av; dsimp only; rw [h]
theorem oq {d:D}(h:atI l i=some d):av (.tup l) (.int i)= .ok d:=by unfold av; dsimp only; rw [h]
theorem hV {α:Type}{xs:List α}{i:Int}{v:α}(h0:0≤i)(h:xs[i.toNat]?=some v):atI xs i=some v:=by
 have:=sk (j:=i.toNat) h
 rwa [Int.toNat_of_nonneg h0] at this
theorem xL:DF [.int i,.int j]= .ok (.int (min i j)):=id rfl
theorem xJ:nE [.int i,.int j]= .ok (.int (max i j)):=id rfl
end
section
variable{X:Cx}{E:XK}
noncomputable def pU (f:DS→Res D):DS→Out:=fun ρ=>(f ρ).out fun _=> .nx ρ
theorem uu {x:Str}{np cpos pos jp:Pos}{y:Str}{j:Nat}{C:Addr}(hR:lz X E)(hc:X.calm=true)(Gx:ExcC X.K X.mg x C)(hg:Gl X x)
  (he:starEach [.Constant (.str y) j jp] X.env=(false,eval (.Constant (.str y) j jp) X.env) :: starEach [] X.env:=by rfl) (hdb:(x == ("__debug__" :Str))=false:=by decide) :
  zN X E (.Raise (some (.Call (.Name x np) [.Constant (.str y) j jp] [] cpos)) none pos) (fL C fun _=>true):=
 wz hR hc Gx hg (bq Bw dh he) (fun _=>true) (fun B G H a M P O=>⟨by show 1≤sizeLine; decide,rfl⟩) he rfl hdb fun B H Q L d h=>d _ _ h
noncomputable def oD (K:W.Frag)(C:Addr)(m:List D→Res D):Sp:=fun vs H Q E=>∃ p dx rest ds G,vs= .ref p :: rest∧H p=some (.ins C dx [])∧Same G H∧G p=none∧RepL K G ds rest∧OkR E H (m ds)∧
 ∀ ns fds,m ds= .ok (.ins C ns fds)→∀ fs G' H',fs.map (·.1)=ns→RepL K G' fds (fs.map (·.2))→H' p=some (.ins C dx fs)→(∀ b o,H b=some o→b≠p→H' b=some o)→Same G G'→Same G' H'→(∀ b o,G' b=some o→G b=some o∨H b=none∨lW o)→G' p=none→Q .non H'
noncomputable def zK (C:Addr)(m:List D→Res D):Prop:=∀ ds d,m ds= .ok d→∃ ns fds,d= .ins C ns fds
theorem yB {CX:pw}{k:Nat}{f C:Addr}{fd:FuncData}{ps:List Str}{m:List D→Res D}{x:Str}{p pos:Pos}{e:Expr}{es:List Expr}{fs:DS→Res (List D)}(M:Mk X.K C f)(F:FnOk X.prog X.w X.K X.mg X.base CX k f fd ps (oD X.K C m))(hmk:zK C m)(hr:Room (k+1) X.A)(hg:Gl X x)(hm:X.mg x=some (.ref C))(hb:Binds X.K fd ps [])(hx:cv CX X E)
  (ha:j0 X E (e :: es) fs) (hpe:∀ t,PA X (e :: es) t→PE X (.Call (.Name x p) (e :: es) [] pos) (zG C (oD X.K C m) [] E t)) :
  PD X E (.Call (.Name x p) (e :: es) [] pos) (bv fs m):=by
 intro N s σ G H n I hs l P
 refine aO (hpe _ (g_ ha) N s σ H (fun v O=>∃ d c,bv fs m n= .ok d∧Ext G H c O∧Rep X.K c d v) I ?_) fun u s' W=>(by obtain ⟨v,O,I',r',d,c,e,x,rp⟩:=W; exact ⟨d,e,v,c,O,I',r',x,rp⟩)
 refine ⟨G,n,hs,l,P.fst,fun ds T R r S z p1 y L B h hne=> ?_⟩
 have U:=P.snd T z.hh
 have V:Same S (bu (bu S L (.own y)) y (.ins C L [])):=fun b o J=>by rw [am (aw J B),am (aw J h)]; exact J
 have g:∀ b,(bu (bu S L (.own y)) y (.ins C L [])) b=none→S b=none:=fun b J=>V.free J
 have Z:r y=none:=by
  cases q:r y with
  | none=>rfl
  | some o=>rw [z.gh y o q] at B; cases B
 refine (CG y L R ds r (by rw [List.append_nil]) az (z.gh.trans V) Z p1 (U.le V) (fun ns a em Y c O hn rl hp kp j sh nw i=>⟨rfl,?_⟩))
 refine (dL (.ins C ns a) (bu c y (.ins C L Y)) (ao T em) (z.trans ⟨?_,?_,?_,?_⟩) (rep_ins.mpr (iM y L Y rfl az hn (rl.mono ?_))))
 ·exact fun b o J=>kp b o (V b o J) (aw J B)
 ·exact fun b o J=>by rw [am (aw (j b o J) i)]; exact j b o J
 ·intro b o J
  by_cases Q:b=y
  ·subst Q; rw [az] at J; cases J; exact hp
  ·rw [am Q] at J; exact sh b o J
 ·intro b o J
  by_cases Q:b=y
  ·subst Q; exact .inr (.inl B)
  ·rw [am Q] at J
   exact (nw b o J).imp id (Or.imp (g b) id)
 ·exact fun b o J=>by rw [am (aw J i)]; exact J
noncomputable def Ft (F:DS→Out)(g:Addr→Option D):DS→Out:=fun ρ=>match F ρ with
 | .exc c=>(match g c with | some d=> .rt d | none=> .bad)
 | o=>o
end
theorem ll:bootBuiltins "list" =some (.type "list"):=by decide +kernel
theorem uW:bootBuiltins "tuple" =some (.type "tuple"):=by decide +kernel
theorem zT:bootBuiltins "int" =some (.type "int"):=by decide +kernel
theorem xt:bootBuiltins "bool" =some (.type "bool"):=by decide +kernel
theorem Cj:bootBuiltins "ValueError" =some (.type "ValueError"):=by decide +kernel
theorem uV:bootBuiltins "min" =some (.builtin "min"):=by decide +kernel
theorem uU:bootBuiltins "max" =some (.builtin "max"):=by decide +kernel
section
variable{X:Cx}{E:XK}
theorem qk {x:Str}{i:Int}{pos:Pos}(hm:∃ t,X.mg x=some (.int i t))(hg:Gl X x:=by rfl)(hd:(x == ("__debug__" :Str))=false:=by decide):PD X E (.Name x pos) (fun _=> .ok (.int i)):=by
 obtain ⟨t,hm⟩:=hm
 exact v8 hg hm ⟨t,rfl⟩ hd
end
section
variable{ρ:DS}{fa fb fc:DS→Res D}{f g:DS→Res Bool}{b:Bool}{c:Addr}{F:DS→Out}{j:Nat}{d:D}{ds:List D}
theorem Ac:xl f g ρ=(f ρ).bind fun b=>if b=true then g ρ else .ok false:=id rfl
theorem Cr:vW f g ρ=(f ρ).bind fun b=>if b=true then .ok true else g ρ:=id rfl
theorem AC:fY f ρ=(f ρ).bind fun b=> .ok (!b):=id rfl
theorem xG:pU fa ρ=(fa ρ).out fun _=> .nx ρ:=id rfl
theorem Al {fi:DS→Res (List D)}:EK fi j F ρ=(fi ρ).out fun ds=>yd j F ds ρ:=id rfl
theorem Az {a b:Int}:k9 (.int a) (.int b)= .ok (.bl (!(a == b))):=id rfl
theorem Aj {a b:Int}:nh (.int a) (.int b)= .ok (.bl (a == b)):=id rfl
theorem xF:xo fa fb ρ=(fa ρ).bind fun d=>match d with | .bl true=>fb ρ | .bl false=> .ok (.bl false) | _=> .bad:=id rfl
theorem xO:AZ fa ρ=(fa ρ).bind fun d=>match d with | .bl b=> .ok (.bl (!b)) | _=> .bad:=id rfl
theorem sD {fs:DS→Res (List D)}:cw fs ρ=(fs ρ).bind fun ds=>if aN ds.length=true then .ok (.lst ds) else .bad:=id rfl
theorem xX {fs:DS→Res (List D)}:jV fs ρ=(fs ρ).bind fun ds=>if aN ds.length=true then .ok (.tup ds) else .bad:=id rfl
theorem xK {C:Addr}{m:Str}{gm:List D→Res D}:iz C m fa gm ρ=(fa ρ).bind fun o=>if kG C m o=true then gm [o] else .bad:=id rfl
theorem vf {lo hi:DS→Res (Option Int)}:Eb fa lo hi ρ=(fa ρ).bind fun d=>(lo ρ).bind fun l=>(hi ρ).bind fun u=>ky l u d:=id rfl
theorem AG {F:DS→Out}{gx:Addr→Option D}:Ft F gx ρ=match F ρ with | .exc c=>(match gx c with | some d=> .rt d | none=> .bad) | o=>o:=id rfl
theorem Ar {d:D}:EW d .non= .ok (.bl (Ey d)):=id rfl
theorem xP {d:D}:DH d .non= .ok (.bl (!Ey d)):=id rfl
end
section
variable{X:Cx}{E:XK}
theorem DW {x:Str}{np cpos pos jp:Pos}{y:Str}{j:Nat}{C:Addr}(Gx:ExcC X.K X.mg x C)(hR:lz X E:=by exact uz fun _ _ _ h=>h)(hc:X.calm=true:=by rfl)(hg:Gl X x:=by rfl)
  (he:starEach [.Constant (.str y) j jp] X.env=(false,eval (.Constant (.str y) j jp) X.env) :: starEach [] X.env:=by rfl) (hdb:(x == ("__debug__" :Str))=false:=by decide) :
  zN X E (.Raise (some (.Call (.Name x np) [.Constant (.str y) j jp] [] cpos)) none pos) (fL C fun _=>true):=uu hR hc Gx hg he hdb
theorem DO {pl:Sem Bool}{k:Nat}{f C:Addr}{fd:FuncData}{ps:List Str}{g:List D→Res D}{m:Str}{apos pos:Pos}{o:Expr}{fo:DS→Res D}(hoo:PD X E o fo)(c:Cls X.K C)(hm:Meth X.K C m f)(F:FnOk X.prog X.w X.K X.mg X.base (CXF X.prog X.w) k f fd ps (pureSp X.K g))(hr:Room k X.A)(hb:Binds X.K fd ps [])
  (hx:cv (CXF X.prog X.w) X E:=by exact fT fun _ _ _ h=>h)
  (ht:eval (.Call (.Attribute o m apos) [] [] pos) X.env=(do
   let ov ← eval o X.env
   standAt apos.atName
   let (f,first) ← holding [ov] (getMethod ov m pl)
   callWith pos f first (backTo pos (starEach [] X.env)) (backToKw pos (keywordEach [] X.env))):=by rfl):PD X E (.Call (.Attribute o m apos) [] [] pos) (iz C m fo g):=
 v_ (pl:=pl) hoo c hm F hr hb hx (wf (pl:=pl) (dq hoo) c hm F hr hb .nil hx ht)
end
section
variable{X:Cx}{E:XK}{e e2:Expr}{p pos:Pos}{f f2:DS→Res D}
theorem aR (hm:X.mg "len" =none)(h:PD X E e f)(hg:Gl X "len" :=by rfl)(he:starEach [e] X.env=(false,eval e X.env) :: starEach [] X.env:=by rfl):PD X E (.Call (.Name "len" p) [e] [] pos) (fun ρ=>(f ρ).bind fun a=>bj [a]):=by
 have q:=fZ (X:=X) (E:=E) (p:=p) (pos:=pos) ol zX hg hm PySem.boot_len (aa h ag he) (by decide) (by decide) he rfl
 have e:bv (fun ρ=>(f ρ).bind fun d=>(Res.ok []:Res (List D)).bind fun g=> .ok (d :: g)) bj=fun ρ=>(f ρ).bind fun a=>bj [a]:=funext fun ρ=>by
  show ((f ρ).bind _).bind _=_
  cases f ρ <;> rfl
 exact e ▸ q
theorem wc (hm:X.mg "tuple" =none)(h:PD X E e f)(hg:Gl X "tuple" :=by rfl)(he:starEach [e] X.env=(false,eval e X.env) :: starEach [] X.env:=by rfl):PD X E (.Call (.Name "tuple" p) [e] [] pos) (fun ρ=>(f ρ).bind fun a=>mD [a]):=by
 have q:=nN (X:=X) (E:=E) (p:=p) (pos:=pos) mI u2 hg hm uW (aa h ag he) (by decide) (by decide) he rfl
 have e:bv (fun ρ=>(f ρ).bind fun d=>(Res.ok []:Res (List D)).bind fun g=> .ok (d :: g)) mD=fun ρ=>(f ρ).bind fun a=>mD [a]:=funext fun ρ=>by
  show ((f ρ).bind _).bind _=_
  cases f ρ <;> rfl
 exact e ▸ q
theorem yD (hm:X.mg "min" =none)(h:PD X E e f)(hc:X.calm=true:=by rfl)(hg:Gl X "min" :=by rfl)(he:starEach [e] X.env=(false,eval e X.env) :: starEach [] X.env:=by rfl):PD X E (.Call (.Name "min" p) [e] [] pos) (fun ρ=>(f ρ).bind fun a=>mP [a]):=by
 have q:=fZ (X:=X) (E:=E) (p:=p) (pos:=pos) (tR hc) xC hg hm uV (aa h ag he) (by decide) (by decide) he rfl
 have e:bv (fun ρ=>(f ρ).bind fun d=>(Res.ok []:Res (List D)).bind fun g=> .ok (d :: g)) mP=fun ρ=>(f ρ).bind fun a=>mP [a]:=funext fun ρ=>by
  show ((f ρ).bind _).bind _=_
  cases f ρ <;> rfl
 exact e ▸ q
theorem sX (hm:X.mg "max" =none)(h:PD X E e f)(hc:X.calm=true:=by rfl)(hg:Gl X "max" :=by rfl)(he:starEach [e] X.env=(false,eval e X.env) :: starEach [] X.env:=by rfl):PD X E (.Call (.Name "max" p) [e] [] pos) (fun ρ=>(f ρ).bind fun a=>l8 [a]):=by
 have q:=fZ (X:=X) (E:=E) (p:=p) (pos:=pos) (tQ hc) xB hg hm uU (aa h ag he) (by decide) (by decide) he rfl
 have e:bv (fun ρ=>(f ρ).bind fun d=>(Res.ok []:Res (List D)).bind fun g=> .ok (d :: g)) l8=fun ρ=>(f ρ).bind fun a=>l8 [a]:=funext fun ρ=>by
  show ((f ρ).bind _).bind _=_
  cases f ρ <;> rfl
 exact e ▸ q
theorem yC {fs:DS→Res (List D)}(hm:X.mg "max" =none)(h:j0 X E [e,e2] fs)(hc:X.calm=true:=by rfl)(hg:Gl X "max" :=by rfl)(he:starEach [e,e2] X.env=(false,eval e X.env) :: starEach [e2] X.env:=by rfl)(hpl:(backTo pos (starEach [e2] X.env)).any (·.1)=false:=by rfl):PD X E (.Call (.Name "max" p) [e,e2] [] pos) (bv fs nE):=
 fZ (tP hc) xA hg hm uU h (by decide) (by decide) he hpl
theorem wh {x:Str}{n:String}{pos:Pos}(hm:X.mg x=none)(hv:bootBuiltins x=some (.type n))(hg:Gl X x:=by rfl)(hn:x≠ "__name__" :=by decide)(hd:(x == ("__debug__" :Str))=false:=by decide):PE X (.Name x pos) (tC (.ty n)):=oQ hg hm hv rfl hn hd
theorem rL {x:Str}{C:Addr}{pos:Pos}(hm:X.mg x=some (.ref C))(hg:Gl X x:=by rfl)(hd:(x == ("__debug__" :Str))=false:=by decide):PE X (.Name x pos) (tC (.ref C)):=s9 hg hm rfl hd
theorem kM {a c:Expr}{p pos:Pos}{fa:DS→Res D}{vc:V}(hm:X.mg "isinstance" =none)(ha:PD X E a fa)(hcl:PE X c (tC vc))(hvc:cV vc≠ .none:=by exact fun z=>nomatch z)(hg:Gl X "isinstance" :=by rfl)
  (hs1:starEach [a,c] X.env=(false,eval a X.env) :: starEach [c] X.env:=by rfl) (hs2:starEach [c] X.env=(false,eval c X.env) :: starEach [] X.env:=by rfl) (hpl:(backTo pos (starEach [c] X.env)).any (·.1)=false:=by rfl) :
  PD X E (.Call (.Name "isinstance" p) [a,c] [] pos) (fun ρ=>(fa ρ).bind (ej X.K (cV vc))):=Bp ha hcl hvc hg hm hs1 hs2 hpl
end
section
variable{ρ:DS}{fa fb fc:DS→Res D}{c:Addr}{l:List D}{i:Int}
noncomputable def Ez:D→D→Res D→Res Bool
 | .int a,.int b,z=>if a≤b then z.bind fun c=>(match c with | .int c=> .ok (decide (b≤c)) | _=> .bad) else .ok false
 | _,_,_=> .bad
theorem At {x y z:Int}:Ez (.int x) (.int y) (.ok (.int z))= .ok (decide (x≤y) && decide (y≤z)):=by
 unfold Ez
 dsimp only
 by_cases h:x≤y
 ·rw [if_pos h,decide_eq_true h]; rfl
 ·rw [if_neg h,decide_eq_false h]; rfl
theorem tX:gw fa fb fc qP qP ρ=(fa ρ).bind fun a=>(fb ρ).bind fun b=>Ez a b (fc ρ):=by
 unfold gw
 cases fa ρ with
 | ok a=>
  cases fb ρ with
  | ok b=>
   rw [aq,aq,aq,aq]
   cases a with
   | int x=>
    cases b with
    | int y=>
     rw [zo,aq]
     unfold Ez
     dsimp only
     by_cases h:x≤y
     ·rw [decide_eq_true h,if_pos h]
      dsimp only
      cases fc ρ with
      | ok c=>
       rw [aq,aq]
       cases c <;> rfl
      | _=>rfl
     ·rw [decide_eq_false h,if_neg h]
    | _=>rfl
   | _=>cases b <;> rfl
  | _=>rfl
 | _=>rfl
theorem Af:EI (.int i)= .ok (some i):=id rfl
theorem xY:BP (.tup l)= .ok l:=id rfl
theorem xS:BK (.lst l)= .ok l:=id rfl
theorem Cs:fL c (fun _=>true) ρ= .exc c:=id rfl
theorem AB:yt (.int i)= .ok (.int (-i)):=id rfl
theorem xW {x y z:D}:(([x,y,z]:List D).length:Int)=3:=id rfl
theorem no {x:D}{r:List D}:av (.tup (x :: r)) (.int 0)= .ok x:=oq (hV (by decide) rfl)
theorem sG {x y:D}{r:List D}:av (.tup (x :: y :: r)) (.int 1)= .ok y:=oq (hV (by decide) rfl)
theorem pS {x y z:D}{r:List D}:av (.tup (x :: y :: z :: r)) (.int 2)= .ok z:=oq (hV (by decide) rfl)
theorem nj {x:D}{r:List D}:av (.lst (x :: r)) (.int 0)= .ok x:=ji (hV (by decide) rfl)
theorem nk {x y:D}{r:List D}:av (.lst (x :: y :: r)) (.int 1)= .ok y:=ji (hV (by decide) rfl)
theorem Au {α:Type}:aN ([]:List α).length=true:=decide_eq_true (by show 0≤100000; decide)
theorem Av {α:Type}{a:α}:aN [a].length=true:=decide_eq_true (by show 1≤100000; decide)
theorem u_ {α:Type}{a b:α}:aN [a,b].length=true:=decide_eq_true (by show 2≤100000; decide)
theorem Aw {α:Type}{a b c:α}:aN [a,b,c].length=true:=decide_eq_true (by show 3≤100000; decide)
theorem Ax {α:Type}{a b c d:α}:aN [a,b,c,d].length=true:=decide_eq_true (by show 4≤100000; decide)
theorem AE {x y z:D}:ky none (some 2) (.tup [x,y,z])= .ok (.tup [x,y]):=by
 unfold ky
 dsimp only
 rw [if_neg (by simp [HT.cH])]
 rfl
end
theorem dU {P:Program}{w:World}{X:Cx}:cv (CXF P w) X pq:=by
 intro A B H s e V I h
 obtain ⟨_,_,_,_,_,_,_,_,_,_,_,_,_,_,q⟩:=h
 exact q.elim
section
variable{X:Cx}{E:XK}
end
section
variable{X:Cx}{E:XK}
noncomputable def uS:D→D→Res D
 | .str a,.str b=>if aN (a.length+b.length)=true then .ok (.str (a ++ b)) else .bad
 | _,_=> .bad
theorem do_addS:DOp X E (binaryOp .Add) uS:=DOp.of rE fun G H x y f I L w v ok=>by
 unfold uS at ok ⊢
 split at ok
 ·rename_i a b
  rw [rep_str] at w v
  subst w v
  by_cases D:aN (a.length+b.length)=true
  ·rw [if_pos D]
   exact (Di a b rfl rfl (bY D) _ G rfl (.refl L) (rep_str.mpr rfl))
  ·rw [if_neg D] at ok; exact ok.elim
 ·exact ok.elim
noncomputable def tT:D→D→Res D
 | .lst a,.lst b=>if aN (a.length+b.length)=true then .ok (.lst (a ++ b)) else .bad
 | _,_=> .bad
theorem zY:DOp X E (binaryOp .Add) tT:=DOp.of Bf fun G H x y i J L w v ok=>by
 unfold tT at ok ⊢
 split at ok
 ·rename_i a b
  rw [rep_lst] at w v
  refine cps fun PP I=> ?_
  refine bL (w) fun p d f K T=> ?_; subst f
  refine bL (v) fun q F e O k=> ?_; subst e
  refine I ?_; clear I PP
  by_cases D:aN (a.length+b.length)=true
  ·rw [if_pos D]
   refine (rk p q d F rfl rfl (L _ _ K.h) (L _ _ O.h) (by rw [← T.length,← k.length]; exact bY D) (fun t g=>(dL _ _ rfl (.new L g _) ?_)))
   exact rep_lst.mpr (dL t _ rfl (.of az) ((T.append k).mono (Ext.new L g _).gg))
  ·rw [if_neg D] at ok; exact ok.elim
 ·exact ok.elim
theorem RepL.flat {K:W.Frag}{G:Hp}{ds:List D}{vs:List V}(h:RepL K G ds vs):∀ n:Nat,RepL K G (List.replicate n ds).flatten (List.replicate n vs).flatten
 | 0=> .nil
 | n+1=>by rw [List.replicate_succ,List.replicate_succ,List.flatten_cons,List.flatten_cons]; exact h.append (RepL.flat h n)
noncomputable def BG:D→D→Res D
 | .lst a,.int k=>if (decide (-1000000≤k) && decide (k≤1000000) && aN (a.length * k.toNat))=true then .ok (.lst (List.replicate k.toNat a).flatten) else .bad
 | _,_=> .bad
theorem zZ:DOp X E (binaryOp .Mult) BG:=DOp.of Bj fun G H x y f I L w v ok=>by
 unfold BG at ok ⊢
 split at ok
 ·rename_i a k
  rw [rep_lst] at w
  rw [rep_int] at v
  subst v
  refine bL (w) fun p d g K T=> ?_; subst g
  by_cases D:(decide (-1000000≤k) && decide (k≤1000000) && aN (a.length * k.toNat))=true
  ·rw [if_pos D]
   simp only [Bool.and_eq_true,decide_eq_true_eq] at D
   refine (CH p k d rfl rfl (L _ _ K.h) (by omega) (by omega) (by rw [← T.length]; exact bY D.2) (fun t e=>(dL _ _ rfl (.new L e _) ?_)))
   exact rep_lst.mpr (dL t _ rfl (.of az) ((T.flat _).mono (Ext.new L e _).gg))
  ·rw [if_neg D] at ok; exact ok.elim
 ·exact ok.elim
noncomputable def zD (g1 g2:D→D→Res D)(a b:D):Res D:=match g1 a b with
 | .bad=>g2 a b
 | r=>r
theorem DOp.or {f:Value→Value→Sem Value}{g1 g2:D→D→Res D}(h1:DOp X E f g1)(h2:DOp X E f g2):DOp X E f (zD g1 g2):=by
 intro A s B G H x y g J v u I L z w e F ok
 unfold zD at ok ⊢
 cases q:g1 g J with
 | bad=>
  rw [q] at ok
  exact h2 A s B G H x y g J v u I L z w e F ok
 | ok d=>
  rw [q] at ok
  have:=h1 A s B G H x y g J v u I L z w e F (by rw [q]; exact ok)
  rw [q] at this
  exact this
 | exc c=>
  rw [q] at ok
  have:=h1 A s B G H x y g J v u I L z w e F (by rw [q]; exact ok)
  rw [q] at this
  exact this
noncomputable def a_:D→D→Res D:=zD uR (zD uS tT)
noncomputable def iB:D→D→Res D:=zD um BG
theorem aC:DOp X E (binaryOp .Add) a_:=do_add.or (do_addS.or zY)
theorem dc:DOp X E (binaryOp .Mult) iB:=do_mul.or zZ
theorem u4 {i j:Int}:a_ (.int i) (.int j)= .ok (.int (i+j)):=id rfl
theorem u5 {a b:List D}(h:aN (a.length+b.length)=true):a_ (.lst a) (.lst b)= .ok (.lst (a ++ b)):=by
 show tT (.lst a) (.lst b)=_
 exact if_pos h
end
section
variable{X:Cx}{E:XK}{tg:Expr}
end
section
variable{X:Cx}{E:XK}
end
section
variable{X:Cx}{E:XK}
end
section
variable{X:Cx}{E:XK}{pins:List (Addr×Obj)}{σ:St}{H:Hp}{s:Shared}
end
section
variable{X:Cx}{E:XK}{pins:List (Addr×Obj)}{σ:St}{H:Hp}{s:Shared}
end
section
variable{X:Cx}{pins:List (Addr×Obj)}{σ:St}{H:Hp}{s:Shared}{scope:Scope}{N:List Str}{caps:List (Option Nat)}
end
section
variable{X:Cx}{pins:List (Addr×Obj)}{σ:St}{H:Hp}{s:Shared}{scope:Scope}{N:List Str}{caps:List (Option Nat)}{E:XK}
end
section
variable{X:Cx}{E:XK}
end
section
variable{X:Cx}{CX:pw}{k:Nat}{f C:Addr}{fd:FuncData}{ps:List Str}{sp:Sp}{dvs:List V}{ds:List Value}{E:XK}
theorem BI {pins:List (Addr×Obj)}{σ:St}{H:Hp}{s:Shared}{Q:VK}{us:List Value}{vs:List V}(F:FnOk X.prog X.w X.K X.mg X.base CX k f fd ps sp)(hr:Room k X.A)(hb:Binds X.K fd ps ds)(hd:Vals dvs ds)
  (I:Inv X pins σ H s) (hx:∀ e t,CX X.stack H s E e t→X.xe e t) (r:Vals vs us) (h:sp (vs ++ dvs) H Q E):wpAny (model X.prog X.w) X.A (call (.ref f) us) (EP X pins σ Q) X.xe s:=by
 have l:Vals (vs ++ dvs) (us ++ ds):=r.append hd
 have N:(us ++ ds).length=ps.length:=by rw [← l.length]; exact F.len _ _ _ _ h
 refine wpAny_call (codeAny_mono (F.run X.A X.stack s H ⟨us,[]⟩ (us ++ ds) (vs ++ dvs) Q E hr I.env0 (hb s us I.kIn N) l h) fun r t d=> ?_)
 cases r with
 | error e=>exact hx e t d
 | ok v=>
  cases v with
  | ret u=>exact I.after d
  | next=>exact False.elim d
  | brk=>exact False.elim d
  | cont=>exact False.elim d
end
end L2
namespace TX
open PySem PySem.Builtin PySem.Builtin.Str PySem.StrLaws
end TX
namespace L2
open PySem PySem.Spec PyProof.Rows
section
variable{X:Cx}{E:XK}
end
end L2
namespace PySem
open Sem (wp)
end PySem
namespace L2
open PySem PySem.Spec PyProof.Rows
section
variable{X:Cx}{E:XK}{e:Expr}{f:DS→Res D}{p pos:Pos}
theorem yz {g:List D→Res D}:bv (fun ρ=>(f ρ).bind fun d=>(Res.ok []:Res (List D)).bind fun ds=> .ok (d :: ds)) g=fun ρ=>(f ρ).bind fun a=>g [a]:=funext fun ρ=>by
 show ((f ρ).bind _).bind _=_
 cases f ρ <;> rfl
theorem Ak {a b:Str}:nh (.str a) (.str b)= .ok (.bl (a == b)):=id rfl
theorem AA {a b:Str}:k9 (.str a) (.str b)= .ok (.bl (!(a == b))):=id rfl
end
mutual
noncomputable def flat:D→Bool
 | .lst _=>false
 | .dct _ _=>false
 | .fdc _ _=>false
 | .scr _=>false
 | .tup l=>flats l
 | .ins _ _ l=>flats l
 | _=>true
noncomputable def flats:List D→Bool
 | []=>true
 | d :: ds=>flat d && flats ds
end
theorem jj:∀ (ns:List Int),flats (ns.map D.int)=true
 | []=>by unfold flats; rfl
 | n :: ns=>by rw [List.map_cons]; unfold flats; rw [jj ns]; unfold flat; rfl
noncomputable def isCell (S:Addr→Prop)(o:HO):Prop:=(∃ xs,o= .lst xs)∨(∃ kvs,o= .dT kvs)∨∃ xs b,o= .tup xs∧V.ref b∈xs∧S b
theorem isCell.mono {S T:Addr→Prop}{o:HO}(k:∀ a,S a→T a)(h:isCell S o):isCell T o:=h.imp id (Or.imp id fun i=>(by refine bL (i) fun d b e m s=> ?_; exact (dL d b e m (k b s))))
theorem isCell.nokey {S:Addr→Prop}{o:HO}(h:isCell S o):¬ lW o:=by
 intro j
 obtain ⟨l,rfl⟩:=j
 rcases h with ⟨d,e⟩ | ⟨c,e⟩ | ⟨d,b,e,m,s⟩
 ·cases e
 ·cases e
 ·cases e
  obtain ⟨k,_,e⟩:=List.mem_map.mp m
  cases k with
  | inl i=>cases e
  | inr x=>cases e
noncomputable def jZ (W:Addr→Prop)(G:Hp):Hp:=fun b=> @ite _ (W b) (Classical.propDecidable _) none (G b)
theorem fU {W:Addr→Prop}{G:Hp}{b:Addr}{o:HO}(h:jZ W G b=some o):¬ W b∧G b=some o:=by
 unfold jZ at h
 by_cases q:W b
 ·rw [if_pos q] at h; cases h
 ·rw [if_neg q] at h; exact ⟨q,h⟩
theorem im {W:Addr→Prop}{G:Hp}{b:Addr}{o:HO}(h1:¬ W b)(h2:G b=some o):jZ W G b=some o:=by
 unfold jZ
 rw [if_neg h1]
 exact h2
theorem vv {W:Addr→Prop}{G:Hp}{b:Addr}(h1:W b):jZ W G b=none:=by
 unfold jZ
 rw [if_pos h1]
mutual
theorem Rep.nocell {K:W.Frag}{G:Hp}{W:Addr→Prop}(hl:∀ b o,W b→G b=some o→isCell W o):∀ {d:D} {v:V},L2.flat d=true→Rep K G d v→∀ a,v= .ref a→¬ W a
 | .non,_,_,h,a,e=>by unfold Rep at h; subst h; cases e
 | .bl _,_,_,h,a,e=>by unfold Rep at h; subst h; cases e
 | .int _,_,_,h,a,e=>by unfold Rep at h; subst h; cases e
 | .str _,_,_,h,a,e=>by unfold Rep at h; subst h; cases e
 | .lst ds,_,ha,_,_,_=>by unfold L2.flat at ha; cases ha
 | .dct _ _,_,ha,_,_,_=>by unfold L2.flat at ha; cases ha
 | .fdc _ _,_,ha,_,_,_=>by unfold L2.flat at ha; cases ha
 | .scr _,_,ha,_,_,_=>by unfold L2.flat at ha; cases ha
 | .tup ds,_,ha,h,a,e=>fun w=>by
  unfold Rep at h
  unfold L2.flat at ha
  refine bL (h) fun E F r s t=> ?_
  subst r
  cases e
  rcases hl a _ w s.h with ⟨u,z⟩ | ⟨u,z⟩ | ⟨u,b,z,m,k⟩
  ·cases z
  ·cases z
  ·cases z
   exact RepL.nocell hl ha t (.ref b) m b rfl k
 | .ins _ _ ds,_,ha,h,a,e=>fun w=>by
  unfold Rep at h
  refine f_ (h) fun E f fs r s n t=> ?_
  subst r
  cases e
  rcases hl a _ w s with ⟨u,z⟩ | ⟨u,z⟩ | ⟨u,b,z,m,k⟩ <;> cases z
 | .xc _,_,_,h,a,e=>fun w=>by
  unfold Rep at h
  refine dr (h) fun E r s _=> ?_
  subst r
  cases e
  rcases hl a _ w s with ⟨u,z⟩ | ⟨u,z⟩ | ⟨u,b,z,m,k⟩ <;> cases z
theorem RepL.nocell {K:W.Frag}{G:Hp}{W:Addr→Prop}(hl:∀ b o,W b→G b=some o→isCell W o):∀ {ds:List D} {vs:List V},flats ds=true→RepL K G ds vs→∀ v∈vs,∀ a,v= .ref a→¬ W a
 | [],_,_,h,v,m=>by unfold RepL at h; subst h; cases m
 | _ :: _,_,ha,h,v,m=>by
  unfold RepL at h
  unfold flats at ha
  rw [Bool.and_eq_true] at ha
  refine bL (h) fun w r q a b=> ?_
  subst q
  rcases List.mem_cons.mp m with z | z
  ·subst z; exact Rep.nocell hl ha.1 a
  ·exact RepL.nocell hl ha.2 b v z
end
mutual
theorem Rep.lfree {K:W.Frag}{G:Hp}{W:Addr→Prop}(hl:∀ b o,W b→G b=some o→isCell W o):∀ {d:D} {v:V},L2.flat d=true→Rep K G d v→Rep K (jZ W G) d v
 | .non,_,_,h=>by unfold Rep at h ⊢; exact h
 | .bl _,_,_,h=>by unfold Rep at h ⊢; exact h
 | .int _,_,_,h=>by unfold Rep at h ⊢; exact h
 | .str _,_,_,h=>by unfold Rep at h ⊢; exact h
 | .lst ds,_,ha,h=>by unfold L2.flat at ha; cases ha
 | .dct _ _,_,ha,h=>by unfold L2.flat at ha; cases ha
 | .fdc _ _,_,ha,h=>by unfold L2.flat at ha; cases ha
 | .scr _,_,ha,h=>by unfold L2.flat at ha; cases ha
 | .tup ds,v,ha,h=>by
  have l:=Rep.nocell hl ha h
  unfold Rep at h ⊢
  unfold L2.flat at ha
  refine bL (h) fun a E r s t=> ?_
  exact (dL a E r ⟨im (l a r) s.h⟩ (RepL.lfree hl ha t))
 | .ins _ _ ds,v,ha,h=>by
  have l:=Rep.nocell hl ha h
  unfold Rep at h ⊢
  unfold L2.flat at ha
  refine f_ (h) fun a f fs r s n t=> ?_
  exact (iM a f fs r (im (l a r) s) n (RepL.lfree hl ha t))
 | .xc _,v,ha,h=>by
  have l:=Rep.nocell hl ha h
  unfold Rep at h ⊢
  refine dr (h) fun a r s k=> ?_
  exact (iZ a r (im (l a r) s) k)
theorem RepL.lfree {K:W.Frag}{G:Hp}{W:Addr→Prop}(hl:∀ b o,W b→G b=some o→isCell W o):∀ {ds:List D} {vs:List V},flats ds=true→RepL K G ds vs→RepL K (jZ W G) ds vs
 | [],_,_,h=>by unfold RepL at h ⊢; exact h
 | _ :: _,_,ha,h=>by
  unfold RepL at h ⊢
  unfold flats at ha
  rw [Bool.and_eq_true] at ha
  refine bL (h) fun v r q a b=> ?_
  exact (dL v r q (Rep.lfree hl ha.1 a) (RepL.lfree hl ha.2 b))
end
noncomputable def AllW (P:D→V→List Addr→Prop):List D→List V→List Addr→Prop
 | [],vs,S=>vs=[]∧S=[]
 | d :: ds,vs,S=>∃ v r A B,vs=v :: r∧S=A ++ B∧P d v A∧AllW P ds r B
noncomputable def Ow (K:W.Frag)(G H:Hp):Nat→D→V→List Addr→Prop
 | 0,d,v,S=>S=[]∧Rep K G d v
 | n+1,.lst ds,v,S=>∃ a xs T,v= .ref a∧H a=some (.lst xs)∧S=a :: T∧AllW (Ow K G H n) ds xs T
 | n+1,.dct ks ds,v,S=>∃ a kvs T,v= .ref a∧H a=some (.dT kvs)∧kvs.map (·.1)=ks∧S=a :: T∧AllW (Ow K G H n) ds (kvs.map (·.2)) T
 | n+1,.tup ds,v,S=>(L2.flat (.tup ds)=true∧S=[]∧Rep K G (.tup ds) v)∨∃ a xs T,v= .ref a∧H a=some (.tup xs)∧S=a :: T∧T≠[]∧AllW (Ow K G H n) ds xs T
 | _+1,d,v,S=>L2.flat d=true∧S=[]∧Rep K G d v
noncomputable def bw:Nat→D→Bool
 | 0,d=>L2.flat d
 | n+1,.lst ds=>ds.all (bw n)
 | n+1,.dct _ ds=>ds.all (bw n)
 | n+1,.tup ds=>L2.flat (.tup ds) || ds.all (bw n)
 | _+1,d=>L2.flat d
theorem iK:∀ {ds:List D},flats ds=true→∀ {d:D},d∈ds→L2.flat d=true
 | [],_,_,m=>by cases m
 | d0 :: ds,h,d,m=>by
  unfold flats at h
  rw [Bool.and_eq_true] at h
  rcases List.mem_cons.mp m with z | z
  ·subst z; exact h.1
  ·exact iK h.2 z
theorem ka {d:D}(h:L2.flat d=true):∀ {n:Nat},bw n d=true
 | 0=>h
 | n+1=>by
  cases d with
  | lst e=>unfold L2.flat at h; cases h
  | dct j e=>unfold L2.flat at h; cases h
  | tup e=>unfold bw; rw [h]; rfl
  | _=>unfold bw; exact h
section
variable{K:W.Frag}{G H G' H':Hp}
theorem AllW.mono {P Q:D→V→List Addr→Prop}:∀ {ds:List D} {vs:List V} {S:List Addr},(∀ d v A,d∈ds→(∀ a∈A,a∈S)→P d v A→Q d v A)→AllW P ds vs S→AllW Q ds vs S
 | [],_,_,_,h=>h
 | d :: ds,_,_,k,h=>by
  refine lh (h) fun v r A B T t b c=> ?_
  subst t
  exact (lU v r A B T rfl (k d v A (List.mem_cons_self ..) (fun a z=>List.mem_append_left _ z) b) (AllW.mono (fun I i L H z=>k I i L (dt H) fun a h=>List.mem_append_right _ (z a h)) c))
theorem AllW.length {P:D→V→List Addr→Prop}:∀ {ds:List D} {vs:List V} {S:List Addr},AllW P ds vs S→ds.length=vs.length
 | [],_,_,h=>by rw [h.1]; rfl
 | d :: ds,_,_,h=>by
  refine lh (h) fun v r A B T t a b=> ?_
  subst T
  rw [List.length_cons,List.length_cons,AllW.length b]
theorem AllW.append {P:D→V→List Addr→Prop}:∀ {ds es:List D} {vs ws:List V} {S T:List Addr},AllW P ds vs S→AllW P es ws T→AllW P (ds ++ es) (vs ++ ws) (S ++ T)
 | [],_,_,_,_,_,h,h'=>by rw [h.1,h.2]; exact h'
 | d :: ds,_,_,_,_,_,h,h'=>by
  refine lh (h) fun v r A B U t a b=> ?_
  subst U t
  exact (lU v _ A _ rfl (List.append_assoc ..) a (AllW.append b h'))
theorem AllW.one {P:D→V→List Addr→Prop}{d:D}{v:V}{S:List Addr}(h:P d v S):AllW P [d] [v] S:=(rj v ([]) S ([]) rfl ((List.append_nil _).symm) h rfl rfl)
theorem AllW.at {P:D→V→List Addr→Prop}:∀ {ds:List D} {vs:List V} {S:List Addr} {i:Nat} {d:D},AllW P ds vs S→ds[i]?=some d→
  ∃ v A L R,vs[i]?=some v∧S=L ++ A ++ R∧P d v A∧(∀ Q:D→V→List Addr→Prop,(∀ d v B,(∀ b∈B,b∈L∨b∈R)→P d v B→Q d v B)→∀ d' v' A',Q d' v' A'→AllW Q (ds.set i d') (vs.set i v') (L ++ A' ++ R))
 | [],_,_,_,_,_,e=>by simp at e
 | d0 :: ds,_,_,0,d,h,e=>by
  refine lh (h) fun v r A B U t a c=> ?_
  subst U t
  simp at e; subst e
  refine (lU v A ([]) B rfl (by simp) a (fun Q k d' v' A' f=>(lU v' r A' B rfl (by simp) f (AllW.mono (fun d v m _ u Z=>k d v m (fun b T=> .inr (u b T)) Z) c))))
 | d0 :: ds,_,_,i+1,d,h,e=>by
  refine lh (h) fun v r A B U t a c=> ?_
  subst U t
  refine lh (AllW.at (i:=i) c (by simpa using e)) fun w n L R N M p o=> ?_
  refine (lU w n (A ++ L) R (by simpa using N) (by rw [M]; simp only [List.append_assoc]) p (fun Q k d' v' A' f=>(lU v (r.set i v') A (L ++ A' ++ R) rfl (by simp only [List.append_assoc]) (k d0 v A (fun b u=> .inl (List.mem_append_left _ u)) a) (o Q (fun d v B u Z=>k d v B (fun b T=>(u b T).imp (List.mem_append_right _) id) Z) d' v' A' f))))
theorem Ow.mono (sg:Same G G'):∀ {n:Nat} {d:D} {v:V} {S:List Addr},(∀ a∈S,∀ o,H a=some o→H' a=some o)→Ow K G H n d v S→Ow K G' H' n d v S
 | 0,_,_,_,_,h=>⟨h.1,h.2.mono sg⟩
 | n+1,d,_,_,k,h=>by
  cases d with
  | lst i=>
   refine f_ (h) fun a f T U t g c=> ?_
   subst g
   exact (iM a f T U (k a (List.mem_cons_self ..) _ t) rfl (c.mono fun d v A _ Z=>Ow.mono sg fun b u o e=>k b (dt (Z b u)) o e))
  | dct j i=>
   refine ju (h) fun a f T U t w g c=> ?_
   subst g
   exact (pY a f T U (k a (List.mem_cons_self ..) _ t) w rfl (c.mono fun d v A _ Z=>Ow.mono sg fun b u o e=>k b (dt (Z b u)) o e))
  | tup i=>
   rcases h with h | ⟨a,f,T,U,t,g,x,c⟩
   ·exact .inl ⟨h.1,h.2.1,h.2.2.mono sg⟩
   ·subst g
    exact .inr (pY a f T U (k a (List.mem_cons_self ..) _ t) rfl x (c.mono fun d v A _ Z=>Ow.mono sg fun b u o e=>k b (dt (Z b u)) o e))
  | _=>exact ⟨h.1,h.2.1,h.2.2.mono sg⟩
theorem AllW.rep {P:D→V→List Addr→Prop}{V':Hp}:∀ {ds:List D} {vs:List V} {S:List Addr},(∀ d v A,(∀ a∈A,a∈S)→P d v A→Rep K V' d v)→AllW P ds vs S→RepL K V' ds vs
 | [],_,_,_,h=>by rw [h.1]; exact .nil
 | d :: ds,_,_,k,h=>by
  refine lh (h) fun v r A B T t b c=> ?_
  subst T t
  exact .cons (k d v A (fun a z=>List.mem_append_left _ z) b) (AllW.rep (fun I i L z=>k I i L fun a h=>List.mem_append_right _ (z a h)) c)
theorem Ow.rep {V':Hp}(sg:Same G V'):∀ {n:Nat} {d:D} {v:V} {S:List Addr},(∀ a∈S,∀ o,H a=some o→V' a=some o)→Ow K G H n d v S→Rep K V' d v
 | 0,_,_,_,_,h=>h.2.mono sg
 | n+1,d,_,_,k,h=>by
  cases d with
  | lst i=>
   refine f_ (h) fun a f T U t g c=> ?_
   subst g
   exact rep_lst.mpr (dL a f U (.of (k a (List.mem_cons_self ..) _ t)) (c.rep fun d v A Z=>Ow.rep sg fun b u o e=>k b (dt (Z b u)) o e))
  | dct j i=>
   refine ju (h) fun a f T U t w g c=> ?_
   subst g
   exact rep_dct.mpr (kZ a f U (.inl (k a (List.mem_cons_self ..) _ t)) w (c.rep fun d v A Z=>Ow.rep sg fun b u o e=>k b (dt (Z b u)) o e))
  | tup i=>
   rcases h with h | ⟨a,f,T,U,t,g,x,c⟩
   ·exact h.2.2.mono sg
   ·subst g
    exact rep_tup.mpr (dL a f U (.of (k a (List.mem_cons_self ..) _ t)) (c.rep fun d v A Z=>Ow.rep sg fun b u o e=>k b (dt (Z b u)) o e))
  | _=>exact h.2.2.mono sg
theorem AllW.cell {P:D→V→List Addr→Prop}{C:Addr→Prop}:∀ {ds:List D} {vs:List V} {S:List Addr},(∀ d v A,P d v A→∀ a∈A,C a)→AllW P ds vs S→∀ a∈S,C a
 | [],_,_,_,h,a,ha=>by rw [h.2] at ha; cases ha
 | d :: ds,_,_,k,h,a,ha=>by
  refine lh (h) fun v r A B T t b c=> ?_
  subst t
  rcases List.mem_append.mp ha with z | z
  ·exact k d v A b a z
  ·exact AllW.cell k c a z
theorem AllW.hasC {P:D→V→List Addr→Prop}(hP:∀ d v A,P d v A→A≠[]→∃ b,v= .ref b∧b∈A):∀ {ds:List D} {vs:List V} {S:List Addr},AllW P ds vs S→S≠[]→∃ b,V.ref b∈vs∧b∈S
 | [],_,_,h,n=>absurd h.2 n
 | d :: ds,_,_,h,n=>by
  refine lh (h) fun v r A B T t a c=> ?_
  subst T t
  by_cases z:A=[]
  ·obtain ⟨b,u,Q⟩:=AllW.hasC hP c (fun y=>n (by rw [z,y]; rfl))
   exact ⟨b,dt u,List.mem_append_right _ Q⟩
  ·obtain ⟨b,e,u⟩:=hP d v A a z
   exact ⟨b,by rw [e]; exact List.mem_cons_self ..,List.mem_append_left _ u⟩
theorem Ow.head:∀ {n:Nat} {d:D} {v:V} {S:List Addr},Ow K G H n d v S→S≠[]→∃ b,v= .ref b∧b∈S
 | 0,_,_,_,h,n=>absurd h.1 n
 | n+1,d,_,_,h,hn=>by
  cases d with
  | lst f=>refine f_ (h) fun a g T U t e c=> ?_; exact ⟨a,U,by rw [e]; exact List.mem_cons_self ..⟩
  | dct j f=>refine ju (h) fun a g T U t u e c=> ?_; exact ⟨a,U,by rw [e]; exact List.mem_cons_self ..⟩
  | tup f=>
   rcases h with h | ⟨a,g,T,U,t,e,x,c⟩
   ·exact absurd h.2.1 hn
   ·exact ⟨a,U,by rw [e]; exact List.mem_cons_self ..⟩
  | _=>exact absurd h.2.1 hn
theorem AllW.cell2 {P:D→V→List Addr→Prop}{C:(Addr→Prop)→Addr→Prop}(mo:∀ S T a,(∀ b,S b→T b)→C S a→C T a):∀ {ds:List D} {vs:List V} {S:List Addr},(∀ d v A,P d v A→∀ a∈A,C (· ∈A) a)→AllW P ds vs S→∀ a∈S,C (· ∈S) a
 | [],_,_,_,h,a,ha=>by rw [h.2] at ha; cases ha
 | d :: ds,_,_,k,h,a,ha=>by
  refine lh (h) fun v r A B U t c e=> ?_
  subst t
  rcases List.mem_append.mp ha with z | z
  ·exact mo _ _ a (fun b u=>List.mem_append_left _ u) (k d v A c a z)
  ·exact mo _ _ a (fun b u=>List.mem_append_right _ u) (AllW.cell2 mo k e a z)
theorem Ow.cell:∀ {n:Nat} {d:D} {v:V} {S:List Addr},Ow K G H n d v S→∀ a∈S,∃ o,H a=some o∧isCell (· ∈S) o
 | 0,_,_,_,h,a,A=>by rw [h.1] at A; cases A
 | n+1,d,_,_,h,b,hb=>by
  have w:∀ (S T:Addr→Prop) (a:Addr),(∀ b,S b→T b)→(∃ o,H a=some o∧isCell S o)→∃ o,H a=some o∧isCell T o:=fun S T a k s=>(by obtain ⟨o,e,c⟩:=s; exact ⟨o,e,c.mono k⟩)
  have up:∀ {x:Addr} {T:List Addr},(∃ o,H b=some o∧isCell (· ∈T) o)→∃ o,H b=some o∧isCell (· ∈x :: T) o:=fun r=>(by obtain ⟨o,e,c⟩:=r; exact ⟨o,e,c.mono fun a A=>dt A⟩)
  cases d with
  | lst j=>
   refine f_ (h) fun a g T U t i f=> ?_
   subst i
   rcases List.mem_cons.mp hb with z | z
   ·subst z; exact ⟨_,t,.inl ⟨g,rfl⟩⟩
   ·exact up (f.cell2 (C:=fun S a=>∃ o,H a=some o∧isCell S o) w (fun _ _ _ q=>Ow.cell q) b z)
  | dct m j=>
   refine ju (h) fun a g T U t B i f=> ?_
   subst i
   rcases List.mem_cons.mp hb with z | z
   ·subst z; exact ⟨_,t,.inr (.inl ⟨g,rfl⟩)⟩
   ·exact up (f.cell2 (C:=fun S a=>∃ o,H a=some o∧isCell S o) w (fun _ _ _ q=>Ow.cell q) b z)
  | tup j=>
   rcases h with h | ⟨a,g,T,U,t,i,y,f⟩
   ·rw [h.2.1] at hb; cases hb
   ·subst i
    rcases List.mem_cons.mp hb with z | z
    ·subst z
     obtain ⟨c,l,u⟩:=f.hasC (fun _ _ _ q=>Ow.head q) y
     exact ⟨_,t,.inr (.inr (dL g c rfl l (dt u)))⟩
    ·exact up (f.cell2 (C:=fun S a=>∃ o,H a=some o∧isCell S o) w (fun _ _ _ q=>Ow.cell q) b z)
  | _=>rw [h.2.1] at hb; cases hb
theorem Ow.hide {W:Addr→Prop}(hl:∀ b o,W b→G b=some o→isCell W o):∀ {n:Nat} {d:D} {v:V} {S:List Addr},bw n d=true→Ow K G H n d v S→Ow K (jZ W G) H n d v S
 | 0,_,_,_,hf,h=>⟨h.1,Rep.lfree hl hf h.2⟩
 | n+1,d,_,_,hf,h=>by
  cases d with
  | lst g=>
   refine f_ (h) fun a e T U t f c=> ?_
   unfold bw at hf
   exact (iM a e T U t f (c.mono fun d v A I _=>Ow.hide hl (List.all_eq_true.mp hf d I)))
  | dct j g=>
   refine ju (h) fun a e T U t u f c=> ?_
   unfold bw at hf
   exact (pY a e T U t u f (c.mono fun d v A I _=>Ow.hide hl (List.all_eq_true.mp hf d I)))
  | tup g=>
   rcases h with h | ⟨a,e,T,U,t,f,x,c⟩
   ·exact .inl ⟨h.1,h.2.1,Rep.lfree hl h.1 h.2.2⟩
   ·refine .inr (pY a e T U t f x (c.mono fun d v A I _=>Ow.hide hl ?_))
    unfold bw at hf
    rw [Bool.or_eq_true] at hf
    rcases hf with z | z
    ·unfold L2.flat at z; exact ka (iK z I)
    ·exact List.all_eq_true.mp z d I
  | _=>exact ⟨h.1,h.2.1,Rep.lfree hl h.1 h.2.2⟩
end
noncomputable def nu (fp:Nat→List Addr)(a:Addr):Prop:=∃ i,a∈fp i
noncomputable def jX (fp:Nat→List Addr)(G H:Hp):Hp:=fun b=> @ite _ (nu fp b) (Classical.propDecidable _) (H b) (G b)
structure Rw (K:W.Frag)(μ:List Nat)(Ge B G H:Hp)(σ:St)(ρ:DS)(fp:Nat→List Addr):Prop where
 gh:Same G H
 eg:Same Ge G
 bh:Same B H
 nw:∀ b o,G b=some o→Ge b=some o∨B b=none∨lW o
 gf:∀ i a,a∈fp i→G a=none
 ob:∀ i a,a∈fp i→B a=none
 oc:∀ i a,a∈fp i→∃ o,H a=some o∧isCell (· ∈fp i) o
 nd:∀ i,(fp i).Nodup
 dj:∀ i j a,a∈fp i→a∈fp j→i=j
 sl:∀ i d,ρ[i]?=some (some d)→∃ v,σ[i]?=some (some v)∧Ow K G H (μ.getD i 0) d v (fp i)
section
variable{K:W.Frag}{μ:List Nat}{Ge B G H G' H':Hp}{σ:St}{ρ:DS}{fp:Nat→List Addr}
theorem wW {b:Addr}(h:nu fp b):jX fp G H b=H b:=by unfold jX; rw [if_pos h]
theorem lx {b:Addr}(h:¬ nu fp b):jX fp G H b=G b:=by unfold jX; rw [if_neg h]
theorem Rw.vh (R:Rw K μ Ge B G H σ ρ fp):Same (jX fp G H) H:=fun b o e=>by
 by_cases q:nu fp b
 ·rw [wW q] at e; exact e
 ·rw [lx q] at e; exact R.gh b o e
theorem Rw.gv (R:Rw K μ Ge B G H σ ρ fp):Same G (jX fp G H):=fun b o e=>by
 by_cases q:nu fp b
 ·obtain ⟨i,g⟩:=q; rw [R.gf i b g] at e; cases e
 ·rw [lx q]; exact e
theorem Rw.ro (R:Rw K μ Ge B G H σ ρ fp):Ro K (jX fp G H) σ ρ:=fun i d e=>by
 obtain ⟨v,z,h⟩:=R.sl i d e
 exact ⟨v,z,h.rep R.gv fun a A o p=>by rw [wW ⟨i,A⟩]; exact p⟩
noncomputable def cR (μ:List Nat)(ρ:DS):DS:=ρ.mapIdx fun i o=>if μ.getD i 0=0 then o else none
theorem Rw.rof (R:Rw K μ Ge B G H σ ρ fp):Ro K G σ (cR μ ρ):=fun i d e=>by
 unfold cR at e
 rw [List.getElem?_mapIdx] at e
 cases q:ρ[i]? with
 | none=>rw [q] at e; cases e
 | some o=>
  rw [q] at e
  simp only [Option.map_some,Option.some.injEq] at e
  by_cases m:μ.getD i 0=0
  ·rw [if_pos m] at e
   subst e
   obtain ⟨v,z,h⟩:=R.sl i d q
   rw [m] at h
   exact ⟨v,z,h.2⟩
  ·rw [if_neg m] at e; cases e
theorem Rw.gg (R:Rw K μ Ge B G H σ ρ fp)(x:Ext (jX fp G H) H G' H'):Same G (jZ (nu fp) G'):=fun b o e=>by
 by_cases q:nu fp b
 ·obtain ⟨i,g⟩:=q; rw [R.gf i b g] at e; cases e
 ·exact im q (x.gg b o (R.gv b o e))
theorem Rw.grow (R:Rw K μ Ge B G H σ ρ fp)(x:Ext (jX fp G H) H G' H'):Rw K μ Ge B (jZ (nu fp) G') H' σ ρ fp:=by
 refine ⟨fun b o e=>x.gh b o (fU e).2,R.eg.trans (R.gg x),R.bh.trans x.hh,fun b o e=> ?_,fun i a e=>vv ⟨i,e⟩,R.ob,fun i a e=> ?_,R.nd,R.dj,fun i d e=> ?_⟩
 ·obtain ⟨n,T⟩:=fU e
  rcases x.nw b o T with z | z
  ·rw [lx n] at z; exact R.nw b o z
  ·exact .inr (z.imp R.bh.free id)
 ·obtain ⟨o,c,f⟩:=R.oc i a e
  exact ⟨o,x.hh _ _ c,f⟩
 ·obtain ⟨v,A,h⟩:=R.sl i d e
  exact ⟨v,A,h.mono (R.gg x) fun a _ o D=>x.hh a o D⟩
theorem Rw.growF (R:Rw K μ Ge B G H σ ρ fp)(x:Ext G H G' H'):Rw K μ Ge B G' H' σ ρ fp:=by
 refine ⟨x.gh,R.eg.trans x.gg,R.bh.trans x.hh,fun b o e=> ?_,fun i a e=> ?_,R.ob,fun i a e=> ?_,R.nd,R.dj,fun i d e=> ?_⟩
 ·rcases x.nw b o e with z | z
  ·exact R.nw b o z
  ·exact .inr (z.imp R.bh.free id)
 ·cases z:G' a with
  | none=>rfl
  | some o=>
   rcases x.nw a o z with y | y
   ·rw [R.gf i a e] at y; cases y
   ·obtain ⟨I,h,g⟩:=R.oc i a e
    rcases y with y | y
    ·rw [y] at h; cases h
    ·have c:=x.gh a o z
     rw [x.hh a _ h] at c
     cases c
     exact (g.nokey y).elim
 ·obtain ⟨o,f,c⟩:=R.oc i a e
  exact ⟨o,x.hh _ _ f,c⟩
 ·obtain ⟨v,A,h⟩:=R.sl i d e
  exact ⟨v,A,h.mono x.gg fun a _ o D=>x.hh a o D⟩
theorem Rw.cells (R:Rw K μ Ge B G H σ ρ fp)(x:Ext (jX fp G H) H G' H'):∀ b o,nu fp b→G' b=some o→isCell (nu fp) o:=fun b o ⟨i,g⟩ e=>by
 obtain ⟨I,c,d⟩:=R.oc i b g
 have A:=x.gh b o e
 rw [x.hh b _ c] at A
 cases A
 exact d.mono fun a z=>⟨i,z⟩
theorem Rw.put {i:Nat}{d:D}{v:V}{S:List Addr}(R:Rw K μ Ge B G H σ ρ fp)(hi:i < σ.length)(h:Ow K G H (μ.getD i 0) d v S)(nd:S.Nodup)(hS:∀ a∈S,G a=none∧B a=none)(hd:∀ j,j≠i→∀ a∈S,a∉fp j):Rw K μ Ge B G H (σ.set i (some v)) (ρ.set i (some d)) (fun j=>if j=i then S else fp j):=by
 refine ⟨R.gh,R.eg,R.bh,R.nw,fun j a e=> ?_,fun j a e=> ?_,fun j a e=> ?_,fun j=> ?_,fun j k a b t=> ?_,fun j e q=> ?_⟩
 ·split at e
  ·exact (hS a e).1
  ·exact R.gf j a e
 ·split at e
  ·exact (hS a e).2
  ·exact R.ob j a e
 ·by_cases n:j=i
  ·simp only [if_pos n] at e ⊢; exact h.cell a e
  ·simp only [if_neg n] at e ⊢; exact R.oc j a e
 ·split
  ·exact nd
  ·exact R.nd j
 ·skip
  split at b
  ·rename_i X
   split at t
   ·rename_i W; rw [X,W]
   ·rename_i W; exact absurd t (hd k W a b)
  ·rename_i X
   split at t
   ·rename_i W; exact absurd b (hd j X a t)
   ·exact R.dj j k a b t
 ·by_cases n:j=i
  ·subst n
   rw [List.getElem?_set_self'] at q
   cases z:ρ[j]? with
   | none=>rw [z] at q; cases q
   | some o=>
    rw [z] at q; cases q
    rw [if_pos rfl]
    exact ⟨v,List.getElem?_set_self hi,h⟩
  ·rw [List.getElem?_set_ne (Ne.symm n)] at q ⊢
   rw [if_neg n]
   exact R.sl j e q
theorem Rw.drop {i:Nat}(R:Rw K μ Ge B G H σ ρ fp):Rw K μ Ge B G H σ (ρ.set i none) (fun j=>if j=i then [] else fp j):=by
 refine ⟨R.gh,R.eg,R.bh,R.nw,fun j a e=> ?_,fun j a e=> ?_,fun j a e=> ?_,fun j=> ?_,fun j k a b t=> ?_,fun j e q=> ?_⟩
 ·split at e
  ·cases e
  ·exact R.gf j a e
 ·split at e
  ·cases e
  ·exact R.ob j a e
 ·by_cases n:j=i
  ·simp only [if_pos n] at e; cases e
  ·simp only [if_neg n] at e ⊢; exact R.oc j a e
 ·split
  ·exact List.nodup_nil
  ·exact R.nd j
 ·skip
  split at b
  ·cases b
  ·split at t
   ·cases t
   ·exact R.dj j k a b t
 ·by_cases n:j=i
  ·subst n
   rw [List.getElem?_set_self'] at q
   cases z:ρ[j]? with
   | none=>rw [z] at q; cases q
   | some o=>rw [z] at q; cases q
  ·rw [List.getElem?_set_ne (Ne.symm n)] at q
   rw [if_neg n]
   exact R.sl j e q
theorem Rw.write {i:Nat}{a:Addr}{ob:HO}{d:D}{v:V}{S:List Addr}(R:Rw K μ Ge B G H σ ρ fp)(ha:a∈fp i)(hv:σ[i]?=some (some v))(h:Ow K G (bu H a ob) (μ.getD i 0) d v S)(nd:S.Nodup)(hS:∀ b∈S,G b=none∧B b=none)(hd:∀ j,j≠i→∀ b∈S,b∉fp j):Rw K μ Ge B G (bu H a ob) σ (ρ.set i (some d)) (fun j=>if j=i then S else fp j):=by
 have nG:∀ {b:Addr} {o:HO},G b=some o→b≠a:=fun e z=>by rw [z,R.gf i a ha] at e; cases e
 have y:∀ {b:Addr} {o:HO},B b=some o→b≠a:=fun e z=>by rw [z,R.ob i a ha] at e; cases e
 have x:∀ {j:Nat} {b:Addr},j≠i→b∈fp j→b≠a:=fun n u z=>by subst z; exact n (R.dj _ i _ u ha)
 refine ⟨fun b o e=>by rw [am (nG e)]; exact R.gh b o e,R.eg,fun b o e=>by rw [am (y e)]; exact R.bh b o e,R.nw,fun j b e=> ?_,fun j b e=> ?_,fun j b e=> ?_,fun j=> ?_,fun j k b c t=> ?_,fun j e q=> ?_⟩
 ·split at e
  ·exact (hS b e).1
  ·exact R.gf j b e
 ·split at e
  ·exact (hS b e).2
  ·exact R.ob j b e
 ·by_cases n:j=i
  ·simp only [if_pos n] at e ⊢; exact h.cell b e
  ·simp only [if_neg n] at e ⊢; rw [am (x n e)]; exact R.oc j b e
 ·split
  ·exact nd
  ·exact R.nd j
 ·skip
  split at c
  ·rename_i X
   split at t
   ·rename_i W; rw [X,W]
   ·rename_i W; exact absurd t (hd k W b c)
  ·rename_i X
   split at t
   ·rename_i W; exact absurd c (hd j X b t)
   ·exact R.dj j k b c t
 ·by_cases n:j=i
  ·subst n
   rw [List.getElem?_set_self'] at q
   cases z:ρ[j]? with
   | none=>rw [z] at q; cases q
   | some o=>
    rw [z] at q; cases q
    rw [if_pos rfl]
    exact ⟨v,hv,h⟩
  ·rw [List.getElem?_set_ne (Ne.symm n)] at q
   rw [if_neg n]
   obtain ⟨w,f,Y⟩:=R.sl j e q
   exact ⟨w,f,Y.mono (.refl _) fun b u o p=>by rw [am (x n u)]; exact p⟩
end
noncomputable def New (H G:Hp)(S:List Addr):Prop:=S.Nodup∧∀ a∈S,H a=none∧G a=none
theorem New.nil {H G:Hp}:New H G []:=⟨List.nodup_nil,fun a h=>by cases h⟩
inductive NQ (X:Cx)(pins:List (Addr×Obj))(σ:St)(G H:Hp)(n:Nat)(o:Res D)(u:Value)(s':Shared):Prop
 | mk (d:D) (e:o= .ok d) (v:V) (G' H':Hp) (S:List Addr) (i:Inv X pins σ H' s') (r:RelV v u) (x:Ext G H G' H') (w:Ow X.K G' H' n d v S) (nw:New H G' S)
inductive ZQ (X:Cx)(pins:List (Addr×Obj))(σ:St)(μ:List Nat)(Ge B G H:Hp)(ρ:DS)(fp:Nat→List Addr)(n:Nat)(o:Res D)(u:Value)(s':Shared):Prop
 | mk (d:D) (e:o= .ok d) (v:V) (G' H':Hp) (S:List Addr) (i:Inv X pins σ H' s') (r:RelV v u) (R:Rw X.K μ Ge B G' H' σ ρ fp) (sg:Same G G') (sh:Same H H') (w:Ow X.K G' H' n d v S) (nw:New H G' S)
noncomputable def PN (X:Cx)(E:XK)(n:Nat)(e:Expr)(f:DS→Res D):Prop:=
 ∀ (pins:List (Addr×Obj)) (s:Shared) (σ:St) (G H:Hp) (ρ:DS),Inv X pins σ H s→Same G H→Ro X.K G σ ρ→OkR E H (f ρ)→
  wpAny (model X.prog X.w) X.A (eval e X.env) (NQ X pins σ G H n (f ρ)) X.xe s
theorem Ext.freeze {K:W.Frag}{G H G' H':Hp}{n:Nat}{d:D}{v:V}{S:List Addr}(hs:Same G H)(x:Ext G H G' H')(w:New H G' S)(h:Ow K G' H' n d v S):∃ G2,Ext G H G2 H'∧Same G' G2∧Rep K G2 d v:=by
 have y:∀ b,Decidable (b∈S):=fun b=>Classical.propDecidable _
 refine (iZ (fun b=>if b∈S then H' b else G' b) ⟨x.hh,fun b o e=> ?_,fun b o e=> ?_,fun b o e=> ?_⟩ (fun b o e=> ?_) (h.rep (fun b o e=> ?_) fun a z o e=> ?_))
 ·by_cases q:b∈S
  ·have:=(w.2 b q).1; rw [hs b o e] at this; cases this
  ·show (if b∈S then H' b else G' b)=some o
   rw [if_neg q]; exact x.gg b o e
 ·have e:(if b∈S then H' b else G' b)=some o:=e
  by_cases q:b∈S
  ·rw [if_pos q] at e; exact e
  ·rw [if_neg q] at e; exact x.gh b o e
 ·have e:(if b∈S then H' b else G' b)=some o:=e
  by_cases q:b∈S
  ·exact .inr (.inl (w.2 b q).1)
  ·rw [if_neg q] at e; exact x.nw b o e
 ·show (if b∈S then H' b else G' b)=some o
  by_cases q:b∈S
  ·rw [(w.2 b q).2] at e; cases e
  ·rw [if_neg q]; exact e
 ·show (if b∈S then H' b else G' b)=some o
  by_cases q:b∈S
  ·rw [(w.2 b q).2] at e; cases e
  ·rw [if_neg q]; exact e
 ·show (if a∈S then H' a else G' a)=some o
  rw [if_pos z]; exact e
section
variable{X:Cx}{E:XK}{μ:List Nat}
theorem PN.of {e:Expr}{f:DS→Res D}(h:PD X E e f):PN X E 0 e f:=fun A s B G H a I L P F=>
 aO (h A s B G H a I L P F) fun u V y=>(by obtain ⟨d,e,v,b,O,z,c,x,Z⟩:=y; exact ⟨d,e,v,b,O,[],z,c,x,⟨rfl,Z⟩,.nil⟩)
theorem PN.pd {n:Nat}{e:Expr}{f:DS→Res D}(h:PN X E n e f):PD X E e f:=fun A s B G H a I L P F=>
 aO (h A s B G H a I L P F) fun u V y=>by
  refine cps fun PP J=> ?_
  obtain ⟨d,e,v,b,O,S,z,c,x,o,w⟩:=y
  refine dr (x.freeze L w o) fun p t _ Z=> ?_
  refine J ?_; clear J PP
  exact ⟨d,e,v,p,O,z,c,t,Z⟩
noncomputable def PZ (X:Cx)(E:XK)(μ:List Nat)(n:Nat)(e:Expr)(f:DS→Res D):Prop:=
 ∀ (pins:List (Addr×Obj)) (s:Shared) (σ:St) (Ge B G H:Hp) (ρ:DS) (fp:Nat→List Addr),Inv X pins σ H s→Rw X.K μ Ge B G H σ ρ fp→OkR E B (f ρ)→
  wpAny (model X.prog X.w) X.A (eval e X.env) (ZQ X pins σ μ Ge B G H ρ fp n (f ρ)) X.xe s
inductive tZ (K:W.Frag)(E:XK)(μ:List Nat)(n:Nat)(f:DS→Res D)(σ:St)(H:Hp)(Q:VK):Prop
 | mk (Ge B G:Hp) (ρ:DS) (fp:Nat→List Addr) (R:Rw K μ Ge B G H σ ρ fp) (o:OkR E B (f ρ)) (k:∀ d,f ρ= .ok d→∀ v G' H' S,Rw K μ Ge B G' H' σ ρ fp→Same G G'→Same H H'→Ow K G' H' n d v S→New H G' S→Q v H')
theorem l_ {n:Nat}{e:Expr}{f:DS→Res D}(h:PZ X E μ n e f):PE X e (tZ X.K E μ n f):=by
 intro A s L H Q I C
 obtain ⟨Ge,B,G,a,c,R,F,k⟩:=C
 exact aO (h A s L Ge B G H a c I R F) fun u V z=>(by obtain ⟨d,e,v,b,O,S,x,i,M,g,J,o,w⟩:=z; exact ⟨v,O,x,i,k d e v b O S M g J o w⟩)
noncomputable def fW (n:Nat)(f:DS→Res D):DS→Res D:=fun ρ=>(f ρ).bind fun d=>if bw n d=true then .ok d else .bad
theorem b0 {n:Nat}{e:Expr}{f:DS→Res D}(h:PN X E n e f):PZ X E μ n e (fW n f):=by
 intro A s C Ge B G H g c I R J
 refine aO (h A s C (jX c G H) H g I R.vh R.ro (J.fst.le R.bh)) fun u V F=> ?_
 obtain ⟨d,e,v,b,O,S,y,i,x,o,w⟩:=F
 have k:=J.snd e (Same.refl B)
 by_cases N:bw n d=true
 ·exact ⟨d,ao e (if_pos N),v,jZ (nu c) b,O,S,y,i,R.grow x,R.gg x,x.hh,o.hide (R.cells x) N,w.1,fun a z=>⟨(w.2 a z).1,by
   cases q:jZ (nu c) b a with
   | none=>rfl
   | some o=>have:=(fU q).2; rw [(w.2 a z).2] at this; cases this⟩⟩
 ·rw [if_neg N] at k; exact k.elim
noncomputable def cE (μ:List Nat)(f:DS→Res D):DS→Res D:=fun ρ=>f (cR μ ρ)
theorem aB {n:Nat}{e:Expr}{f:DS→Res D}(h:PN X E n e f):PZ X E μ n e (cE μ f):=by
 intro A s C Ge B G H a g I R J
 exact aO (h A s C G H (cR μ a) I R.gh R.rof (J.le R.bh)) fun u V F=>(by obtain ⟨d,e,v,b,O,S,y,c,x,o,w⟩:=F; exact ⟨d,e,v,b,O,S,y,c,R.growF x,x.gg,x.hh,o,w⟩)
inductive SMn (X:Cx)(μ:List Nat)(Ge B G:Hp)(pins:List (Addr×Obj))(P:DS→Prop)(s':Shared):Prop
 | mk (ρ':DS) (σ':St) (G' H':Hp) (fp':Nat→List Addr) (e:P ρ') (i:Inv X pins σ' H' s') (R:Rw X.K μ Ge B G' H' σ' ρ' fp') (sg:Same G G')
inductive SMr (X:Cx)(r:Nat)(Ge B:Hp)(pins:List (Addr×Obj))(o:Out)(u:Value)(s':Shared):Prop
 | mk (d:D) (v:V) (σ':St) (G' H':Hp) (S:List Addr) (e:o= .rt d) (i:Inv X pins σ' H' s') (rv:RelV v u) (x:Ext Ge B G' H') (w:Ow X.K G' H' r d v S) (nw:New B G' S)
noncomputable def SM (X:Cx)(μ:List Nat)(r:Nat)(Ge B G:Hp)(pins:List (Addr×Obj))(o:Out)(fl:Flow)(s':Shared):Prop:=
 match fl with
 | .next=>SMn X μ Ge B G pins (o= .nx ·) s'
 | .brk=>SMn X μ Ge B G pins (o= .bk ·) s'
 | .cont=>SMn X μ Ge B G pins (o= .ct ·) s'
 | .ret u=>SMr X r Ge B pins o u s'
noncomputable def j1 (X:Cx)(E:XK)(μ:List Nat)(r:Nat)(st:Stmt)(F:DS→Out):Prop:=
 ∀ (pins:List (Addr×Obj)) (s:Shared) (σ:St) (Ge B G H:Hp) (ρ:DS) (fp:Nat→List Addr),Inv X pins σ H s→Rw X.K μ Ge B G H σ ρ fp→OkO E B (F ρ)→
  wpAny (model X.prog X.w) X.A (exec st X.env) (SM X μ r Ge B G pins (F ρ)) X.xe s
noncomputable def qS (X:Cx)(E:XK)(μ:List Nat)(r:Nat)(sts:List Stmt)(F:DS→Out):Prop:=
 ∀ (pins:List (Addr×Obj)) (s:Shared) (σ:St) (Ge B G H:Hp) (ρ:DS) (fp:Nat→List Addr),Inv X pins σ H s→Rw X.K μ Ge B G H σ ρ fp→OkO E B (F ρ)→
  wpAny (model X.prog X.w) X.A (execs sts X.env) (SM X μ r Ge B G pins (F ρ)) X.xe s
variable{r:Nat}
theorem SM.le {Ge B G G1:Hp}{pins:List (Addr×Obj)}{o:Out}{fl:Flow}{s':Shared}(s:Same G G1)(h:SM X μ r Ge B G1 pins o fl s'):SM X μ r Ge B G pins o fl s':=by
 cases fl with
 | next=>obtain ⟨S,M,b,O,F,e,I,R,t⟩:=h; exact ⟨S,M,b,O,F,e,I,R,s.trans t⟩
 | brk=>obtain ⟨S,M,b,O,F,e,I,R,t⟩:=h; exact ⟨S,M,b,O,F,e,I,R,s.trans t⟩
 | cont=>obtain ⟨S,M,b,O,F,e,I,R,t⟩:=h; exact ⟨S,M,b,O,F,e,I,R,s.trans t⟩
 | ret u=>exact h
theorem aW:qS X E μ r [] (fun ρ=> .nx ρ):=fun _ _ C Ge B G H ρ c I R _=>wpAny_execs_nil ⟨ρ,C,G,H,c,rfl,I,R,.refl _⟩
theorem ai {st:Stmt}{rest:List Stmt}{F R:DS→Out}(h1:j1 X E μ r st F)(h2:qS X E μ r rest R):qS X E μ r (st :: rest) (ay F R):=by
 intro A s C Ge B G H a c I W D
 refine wpAny_execs_cons (aO (h1 A s C Ge B G H a c I W D.fst) fun y N q=> ?_)
 cases y with
 | next=>
  obtain ⟨T,M,b,O,J,e,x,K,f⟩:=q
  refine aO (h2 A N M Ge B b O T J x K (D.snd e (.refl _))) fun w o j=> ?_
  have t:ay F R a=R T:=by unfold ay; rw [e]; rfl
  rw [t]
  exact j.le f
 | brk=>obtain ⟨T,M,b,O,J,e,q,U,j⟩:=q; exact ⟨T,M,b,O,J,by unfold ay; rw [e]; rfl,q,U,j⟩
 | cont=>obtain ⟨T,M,b,O,J,e,q,U,j⟩:=q; exact ⟨T,M,b,O,J,by unfold ay; rw [e]; rfl,q,U,j⟩
 | ret u=>obtain ⟨d,v,M,b,O,S,e,q,U,j,l,P⟩:=q; exact ⟨d,v,M,b,O,S,by unfold ay; rw [e]; rfl,q,U,j,l,P⟩
theorem al {st:Stmt}{F:DS→Out}(h1:j1 X E μ r st F):qS X E μ r [st] F:=by
 intro A s C Ge B G H a c I W D
 refine wpAny_execs_cons (aO (h1 A s C Ge B G H a c I W D) fun t N q=> ?_)
 cases t with
 | next=>exact wpAny_execs_nil q
 | brk=>exact q
 | cont=>exact q
 | ret u=>exact q
theorem Rw.apart {K:W.Frag}{Ge B G H:Hp}{σ:St}{ρ:DS}{fp:Nat→List Addr}{S:List Addr}{G':Hp}(R:Rw K μ Ge B G H σ ρ fp)(w:New H G' S):∀ j,∀ a∈S,a∉fp j:=fun j a z n=>by
 obtain ⟨o,h,_⟩:=R.oc j a n
 rw [(w.2 a z).1] at h; cases h
theorem aH {i:Nat}{x:Str}{e:Expr}{pos' pos:Pos}{f:DS→Res D}(hN:X.N.Nodup)(hi:X.N[i]?=some x)(hx:w_ X.env.scope x)(h:PZ X E μ (μ.getD i 0) e f)(hf:X.fn x=true∨X.env.scope.names.lookup x=some .local:=by first | exact .inl rfl | exact .inr rfl)
  (hsw:swapsWith e (some (.Name x pos')) pos.line X.env=pure false:=by rfl):j1 X E μ r (.Assign [.Name x pos'] e pos) (aQ i f):=by
 intro A s C Ge B G H c k I R J
 have l:i < C.length:=by rw [I.len]; exact (dZ hi).1
 refine aO (wE (pos:=pos) (pos':=pos') hN hi hx (l_ h) hsw hf A s C H { nx:=fun M O=>∃ d v b S,f c= .ok d∧M=C.set i (some v)∧Rw X.K μ Ge B b O C c k∧Same G b∧Ow X.K b O (μ.getD i 0) d v S∧New H b S,bk:=fun _ _=>False,ct:=fun _ _=>False,rt:=fun _ _=>False } I ⟨Ge,B,G,c,k,R,J.res,fun d e v b O S F g Q o w=>(rk d v b S e rfl F g o w)⟩) fun L P q=> ?_
 cases L with
 | next=>
  obtain ⟨M,O,y,d,v,b,S,e,t,F,g,o,w⟩:=q
  subst t
  exact ⟨_,_,b,O,_,aZ e,y,F.put l o w.1 (fun a z=>⟨(w.2 a z).2,R.bh.free (w.2 a z).1⟩) (fun j _=>R.apart w j),g⟩
 | brk=>obtain ⟨_,_,_,q⟩:=q; exact q.elim
 | cont=>obtain ⟨_,_,_,q⟩:=q; exact q.elim
 | ret u=>obtain ⟨_,_,_,_,_,q⟩:=q; exact q.elim
theorem oT {e:Expr}{pos:Pos}{f:DS→Res D}(h:PD X E e f)(hs:swapsWith e none pos.line X.env=pure false:=by rfl):j1 X E μ r (.Expr e pos) (pU f):=by
 intro A s C Ge B G H a c I R F
 refine aO (dN (dq h) hs A s C H { nx:=fun M O=>∃ d b,f a= .ok d∧M=C∧Ext (jX c G H) H b O,bk:=fun _ _=>False,ct:=fun _ _=>False,rt:=fun _ _=>False } I ⟨jX c G H,a,R.vh,R.ro,F.res.le R.bh,fun d e v b O x Z=>(dL d b e rfl x)⟩) fun w N q=> ?_
 cases w with
 | next=>
  obtain ⟨M,O,y,d,b,e,t,x⟩:=q
  subst t
  exact ⟨a,_,_,O,c,aZ e,y,R.grow x,R.gg x⟩
 | brk=>obtain ⟨_,_,_,q⟩:=q; exact q.elim
 | cont=>obtain ⟨_,_,_,q⟩:=q; exact q.elim
 | ret u=>obtain ⟨_,_,_,_,_,q⟩:=q; exact q.elim
theorem bz {c:Expr}{a b:List Stmt}{pos:Pos}{fc:DS→Res Bool}{Fa Fb:DS→Out}(hc:qR X E c fc)(ha:qS X E μ r a Fa)(hb:qS X E μ r b Fb):j1 X E μ r (.If c a b pos) (dn fc Fa Fb):=by
 intro A s C Ge B G H d f I R D
 refine wpAny_If (aO (hc A s C (jX f G H) H d I R.vh R.ro (D.res.le R.bh)) fun k N J=> ?_)
 obtain ⟨e,u,S,Q,t⟩:=J
 have K:=D.res2 e (Same.refl B)
 have F:dn fc Fa Fb d=if k=true then Fa d else Fb d:=aZ e
 rw [F]
 cases k with
 | true=>rw [if_pos rfl] at K ⊢; exact aO (ha A N C Ge B _ S d f Q (R.grow t) K) fun _ _ q=>q.le (R.gg t)
 | false=>rw [if_neg Bool.false_ne_true] at K ⊢; exact aO (hb A N C Ge B _ S d f Q (R.grow t) K) fun _ _ q=>q.le (R.gg t)
theorem wu {st:Stmt}{C:Addr}{ok:DS→Bool}(h:zN X E st (fL C ok)):j1 X E μ r st (fL C ok):=by
 intro A s F Ge B G H a c I R D
 refine aO (h A s F (jX c G H) H a I R.vh R.ro (D.le R.bh)) fun t N q=> ?_
 have J:∀ o,fL C ok a=o→o= .exc C∨o= .bad:=fun o e=>by
  unfold fL at e
  split at e
  ·exact .inl e.symm
  ·exact .inr e.symm
 cases t with
 | next=>refine sf (q) fun _ _ _ _ e _=> ?_; rcases J _ e with z | z <;> cases z
 | brk=>refine sf (q) fun _ _ _ _ e _=> ?_; rcases J _ e with z | z <;> cases z
 | cont=>refine sf (q) fun _ _ _ _ e _=> ?_; rcases J _ e with z | z <;> cases z
 | ret u=>refine FE (q) fun _ _ _ _ _ e _=> ?_; rcases J _ e with z | z <;> cases z
theorem Rw.ext {K:W.Frag}{Ge B G H:Hp}{σ:St}{ρ:DS}{fp:Nat→List Addr}(R:Rw K μ Ge B G H σ ρ fp):Ext Ge B G H:=⟨R.bh,R.eg,R.gh,R.nw⟩
theorem aS {e:Expr}{pos:Pos}{f:DS→Res D}(h:PZ X E μ r e f):j1 X E μ r (.Return (some e) pos) (br f):=by
 intro A s F Ge B G H c i I R J
 refine aO (mi (pos:=pos) (l_ h) A s F H { nx:=fun _ _=>False,bk:=fun _ _=>False,ct:=fun _ _=>False,rt:=fun v O=>∃ d b S,f c= .ok d∧Rw X.K μ Ge B b O F c i∧Same G b∧Ow X.K b O r d v S∧New H b S } I ⟨Ge,B,G,c,i,R,J.res,fun d e v b O S C g L o w=>(pY d b S e C g o w)⟩) fun t N q=> ?_
 cases t with
 | next=>obtain ⟨_,_,_,q⟩:=q; exact q.elim
 | brk=>obtain ⟨_,_,_,q⟩:=q; exact q.elim
 | cont=>obtain ⟨_,_,_,q⟩:=q; exact q.elim
 | ret u=>
  obtain ⟨v,M,O,x,j,d,b,S,e,C,g,o,w⟩:=q
  exact ⟨d,v,M,b,O,S,aZ e,x,j,C.ext,o,w.1,fun a z=>⟨R.bh.free (w.2 a z).1,(w.2 a z).2⟩⟩
theorem oU {i:Nat}{x:Str}{px pos:Pos}(hm:μ.getD i 0=r)(hN:X.N[i]?=some x)(hv:oe X.env.scope x)(hd:(x == ("__debug__" :Str))=false:=by decide)(hcd:(x == ("__classdict__" :Str))=false:=by decide):j1 X E μ r (.Return (some (.Name x px)) pos) (br (ac i)):=by
 intro A s C Ge B G H b c I R D
 have J:∃ d,b[i]?=some (some d)∧ac i b= .ok d:=by
  have h:=D.res
  unfold ac at h
  split at h
  ·rename_i l q; exact ⟨l,q,by unfold ac; rw [q]⟩
  ·exact h.elim
 refine cps fun PP K=> ?_
 obtain ⟨d,P,L⟩:=J
 obtain ⟨v,f,o⟩:=R.sl i _ P
 refine K ?_; clear K PP
 rw [hm] at o
 refine aO (mi (pos:=pos) (cx (pos:=px) hN hv hd hcd) A s C H { nx:=fun _ _=>False,bk:=fun _ _=>False,ct:=fun _ _=>False,rt:=fun j O=>j=v∧O=H } I (iZ _ f rfl rfl)) fun w Q q=> ?_
 cases w with
 | next=>obtain ⟨_,_,_,q⟩:=q; exact q.elim
 | brk=>obtain ⟨_,_,_,q⟩:=q; exact q.elim
 | cont=>obtain ⟨_,_,_,q⟩:=q; exact q.elim
 | ret u=>
  obtain ⟨j,M,O,y,g,t,e⟩:=q
  subst t e
  exact ⟨d,j,M,G,O,c i,aZ L,y,g,R.ext,o,R.nd i,fun a z=>⟨R.ob i a z,R.gf i a z⟩⟩
noncomputable def cL (fc:DS→Res Bool)(F:DS→Out):Nat→DS→Out
 | 0,_=> .bad
 | n+1,ρ=>(fc ρ).out fun b=>if b=true then (match F ρ with
  | .nx ρ'=>cL fc F n ρ'
  | .ct ρ'=>cL fc F n ρ'
  | .bk ρ'=> .nx ρ'
  | .rt d=> .rt d
  | .exc c=> .exc c
  | .bad=> .bad) else .nx ρ
theorem wx (n:Nat){c:Expr}{body:List Stmt}{pos:Pos}{fc:DS→Res Bool}{F:DS→Out}(hp:PassesOwn (model X.prog X.w) X.A X.env X.xe)(hc:qR X E c fc)(hb:qS X E μ r body F):j1 X E μ r (.While c body [] pos) (cL fc F n):=by
 intro C s σ Ge B G H p fp I R g
 refine wpAny_While (codeAny_whileLoop (fun k s'=>∃ σ' G' H' ρ' fp',Inv X C σ' H' s'∧Rw X.K μ Ge B G' H' σ' ρ' fp'∧Same G G'∧cL fc F n p=cL fc F k ρ') ?_ n (CI σ G H p fp I R (.refl _) rfl))
 intro k s1 a
 refine FF (a) fun Y G1 t L S I1 W h U=> ?_
 rw [U] at g
 cases k with
 | zero=>exact g.elim
 | succ k=>
  have ho':OkO E B ((fc L).out fun b=>if b=true then (match F L with | .nx ρ'=>cL fc F k ρ' | .ct ρ'=>cL fc F k ρ' | .bk ρ'=> .nx ρ' | .rt d=> .rt d | .exc c=> .exc c | .bad=> .bad) else .nx L):=g
  have M:cL fc F (k+1) L=(fc L).out fun b=>if b=true then (match F L with | .nx ρ'=>cL fc F k ρ' | .ct ρ'=>cL fc F k ρ' | .bk ρ'=> .nx ρ' | .rt d=> .rt d | .exc c=> .exc c | .bad=> .bad) else .nx L:=rfl
  refine wpAny_passesOwn hp (aO (hc C s1 Y (jX S G1 t) t L I1 W.vh W.ro (ho'.res.le W.bh)) fun b s2 T=> ?_)
  obtain ⟨i,G2,j,x,y⟩:=T
  have J:=ho'.res2 i (Same.refl B)
  rw [aZ i] at M
  have R2:=W.grow y
  have Q:=h.trans (W.gg y)
  cases b with
  | true=>
   rw [if_pos rfl] at J M ⊢
   have kF:OkO E B (F L):=by
    cases q:F L with
    | exc c=>rw [q] at J; exact J
    | bad=>rw [q] at J; exact J
    | _=>trivial
   refine wpAny_passesOwn hp (aO (hb C s2 Y Ge B _ j L S x R2 kF) fun f s3 l=> ?_)
   cases f with
   | next=>
    obtain ⟨P,V,D,o,N,e,m,Z,O⟩:=l
    rw [e] at M
    exact (Dj k (Nat.lt_succ_self k) V D o P N m Z (Q.trans O) (U.trans M))
   | cont=>
    obtain ⟨P,V,D,o,N,e,m,Z,O⟩:=l
    rw [e] at M
    exact (Dj k (Nat.lt_succ_self k) V D o P N m Z (Q.trans O) (U.trans M))
   | brk=>
    obtain ⟨P,V,D,o,N,e,m,Z,O⟩:=l
    rw [e] at M
    exact ⟨P,V,D,o,N,U.trans M,m,Z,Q.trans O⟩
   | ret u=>
    obtain ⟨d,v,V,D,o,S3,e,l,z,q5,q6,q7⟩:=l
    rw [e] at M
    exact ⟨d,v,V,D,o,S3,U.trans M,l,z,q5,q6,q7⟩
  | false=>
   rw [if_neg Bool.false_ne_true] at J M ⊢
   exact wpAny_execs_nil ⟨L,Y,_,j,S,U.trans M,x,R2,Q⟩
end
inductive freshSp (K:W.Frag)(r:Nat)(m:List D→Res D)(vs:List V)(H:Hp)(Q:VK)(E:XK):Prop
 | mk (ds:List D) (G:Hp) (s:Same G H) (rl:RepL K G ds vs) (o:OkR E H (m ds)) (k:∀ d,m ds= .ok d→∀ v G' H' S,Ext G H G' H'→Ow K G' H' r d v S→New H G' S→Q v H')
section
variable{P:Program}{w:World}{K:W.Frag}{mg:Str→Option Value}{base:Heap}{r:Nat}
theorem Fun.fresh {x qual:Str}{st:Stmt}{f:Addr}{fd:FuncData}{N ps:List Str}{k:Nat}{m:List D→Res D}(F:Fun K x qual st f fd)(S:FnScope N ps (ah st))(μ:List Nat)(hμ:∀ i,i < ps.length→μ.getD i 0=0)(len:∀ ds,m ds≠ .bad→ds.length=ps.length)
  (hbody:∀ (cdv:Value) (A:Around) (outer:List Env) (s:Shared) (H:Hp) (E:XK),Room k (A.deeper (envOfC qual (ah st) s.heap.objs.size f cdv))→
   ∃ Fb,qS (qQ P w K mg base N qual (ah st) f cdv A outer s H E) E μ r (b_ st) Fb∧∀ ds,m ds≠ .bad→e8 (Fb (aA N ds))=m ds):FnOk P w K mg base (CXF P w) (k+1) f fd ps (freshSp K r m):=by
 have C:∀ {E:XK} {H:Hp} {r:Res D},OkR E H r→r≠ .bad:=fun h z=>by rw [z] at h; exact h
 refine wZ (F.ex) fun oc od kV doc pm an cdv ct osl W lk p=> ?_; subst W
 refine sM lk p S (fun t H Q E X=>(by obtain ⟨ds,G,_,rl,J,_⟩:=X; rw [← rl.length]; exact len ds (C J))) fun A outer s H t Q E hr Z=> ?_
 refine cps fun PP kP=> ?_
 obtain ⟨ds,G,hs,rl,J,k⟩:=Z
 obtain ⟨Fb,hb,hm⟩:=hbody cdv A outer s H E hr
 refine kP ?_; clear kP PP
 have T:=hm ds (C J)
 have hlen:=len ds (C J)
 have n:OkO E H (Fb (aA N ds)):=by
  rw [← T] at J
  cases q:Fb (aA N ds) with
  | exc c=>rw [q] at J; exact J
  | bad=>rw [q] at J; exact J
  | _=>trivial
 have zero:∀ i d,(aA N ds)[i]?=some (some d)→μ.getD i 0=0:=fun i d e=>by
  refine hμ i ?_
  unfold aA at e
  by_cases hi:i < ds.length
  ·omega
  ·rw [List.getElem?_append_right (by simpa using hi),List.getElem?_replicate] at e
   split at e <;> cases e
 have R0:Rw K μ G H G H (cP N t) (aA N ds) (fun _=>[]):=by
  refine ⟨hs,.refl _,.refl _,fun b o e=> .inl e,fun i a e=>(by cases e),fun i a e=>(by cases e),fun i a e=>(by cases e),fun i=>List.nodup_nil,fun i j a e=>(by cases e),fun i d e=> ?_⟩
  obtain ⟨v,hv,l⟩:=qy rl i d e
  rw [zero i d e]
  exact (iZ v hv rfl l)
 refine ⟨fun D σ V=>(σ=cP N t∧V=H∧(D.nx=fun _ O=>Q .non O)∧D.rt=Q),?_,rfl,rfl,rfl,rfl⟩
 intro B s1 σ V D I Y
 refine lf (Y) fun e1 e2 e3 e4=> ?_
 subst e1 e2
 refine aO (hb B s1 _ G V G V (aA N ds) _ I R0 n) fun fl s2 q=> ?_
 cases fl with
 | next=>
  obtain ⟨U,M,g,O,L,e,y,R,_⟩:=q
  refine ⟨M,O,y,?_⟩
  rw [e3]
  have hn:m ds= .ok .non:=by rw [← T,e]; rfl
  cases r with
  | zero=>exact k .non hn .non g O [] R.ext ⟨rfl,rep_non.mpr rfl⟩ .nil
  | succ r=>exact k .non hn .non g O [] R.ext ⟨by unfold L2.flat; rfl,rfl,rep_non.mpr rfl⟩ .nil
 | brk=>
  obtain ⟨U,M,g,O,L,e,_⟩:=q
  rw [e] at T
  exact absurd T.symm (C J)
 | cont=>
  obtain ⟨U,M,g,O,L,e,_⟩:=q
  rw [e] at T
  exact absurd T.symm (C J)
 | ret u=>
  obtain ⟨d,v,M,g,O,S,e,y,l,x,o,w⟩:=q
  refine ⟨v,M,O,y,l,?_⟩
  rw [e4]
  exact k d (by rw [← T,e]; rfl) v g O S x o w
end
inductive tZI (K:W.Frag)(E:XK)(μ:List Nat)(fi:DS→Res (List D))(σ:St)(H:Hp)(R:It→Hp→Prop):Prop
 | mk (Ge B G:Hp) (ρ:DS) (fp:Nat→List Addr) (w:Rw K μ Ge B G H σ ρ fp) (o:OkR E B (fi ρ)) (k:∀ ds,fi ρ= .ok ds→∀ J G' H',Rw K μ Ge B G' H' σ ρ fp→Same G G'→zk K J ds G'→R J H')
noncomputable def GD (K:W.Frag)(μ:List Nat)(n:Nat)(g:TG)(asg:D→DS→Option DS):Prop:=
 ∀ (Ge B G H:Hp) (σ:St) (ρ ρ':DS) (fp:Nat→List Addr) (v:V) (d:D),σ.length=n→Rw K μ Ge B G H σ ρ fp→Rep K G d v→asg d ρ=some ρ'→g v σ H fun σ' H'=>H'=H∧∃ fp',Rw K μ Ge B G H σ' ρ' fp'
noncomputable def bD (j:Nat):D→DS→Option DS:=fun d ρ=>some (ρ.set j (some d))
noncomputable def iR (j k:Nat):D→DS→Option DS
 | .tup [a,b],ρ=>some ((ρ.set j (some a)).set k (some b))
 | _,_=>none
section
variable{X:Cx}{E:XK}{μ:List Nat}{r:Nat}{tg:Expr}
theorem Rw.set0 {K:W.Frag}{Ge B G H:Hp}{σ:St}{ρ:DS}{fp:Nat→List Addr}{i:Nat}{d:D}{v:V}(R:Rw K μ Ge B G H σ ρ fp)(hi:i < σ.length)(m:μ.getD i 0=0)(h:Rep K G d v):Rw K μ Ge B G H (σ.set i (some v)) (ρ.set i (some d)) (fun j=>if j=i then [] else fp j):=
 R.put hi (by rw [m]; exact ⟨rfl,h⟩) List.nodup_nil (fun a h=>by cases h) fun j _ a h=>by cases h
theorem yg {K:W.Frag}{n j:Nat}(hj:j < n)(m:μ.getD j 0=0):GD K μ n (cc j) (bD j):=by
 intro Ge B G H C a S c v d N R h e
 cases e
 exact ⟨rfl,_,R.set0 (by rw [N]; exact hj) m h⟩
theorem AI {K:W.Frag}{n j k:Nat}(hj:j < n)(hk:k < n)(m:μ.getD j 0=0)(m':μ.getD k 0=0):GD K μ n (ub K 2 (il (cc j) (il (cc k) ua))) (iR j k):=by
 intro Ge B G H C g S f v d N R h e
 unfold iR at e
 split at e
 ·rename_i a b
  cases e
  rw [rep_tup] at h
  refine cps fun PP I=> ?_
  obtain ⟨p,l,rfl,t,c⟩:=h
  obtain ⟨x,q,rfl,z,c⟩:=c.inv
  obtain ⟨y,q,rfl,w,c⟩:=c.inv
  refine I ?_; clear I PP
  have:=c.inv0; subst this
  have R2:=(R.set0 (by rw [N]; exact hj) m z).set0 (i:=k) (by rw [List.length_set,N]; exact hk) m' w
  exact ⟨p,[x,y],rfl,(show TpS K H p _ from ⟨R.gh _ _ t.h⟩).sq,rfl,x,[y],rfl,y,[],rfl,rfl,rfl,_,R2⟩
 ·cases e
noncomputable def ci (asg:D→DS→Option DS)(F:DS→Out):List D→DS→Out
 | [],ρ=> .nx ρ
 | d :: ds,ρ=>match asg d ρ with
  | none=> .bad
  | some ρ1=>match F ρ1 with
   | .nx ρ'=>ci asg F ds ρ'
   | .ct ρ'=>ci asg F ds ρ'
   | .bk ρ'=> .nx ρ'
   | .rt d=> .rt d
   | .exc c=> .exc c
   | .bad=> .bad
noncomputable def dY (fi:DS→Res (List D))(asg:D→DS→Option DS)(F:DS→Out):DS→Out:=fun ρ=>(fi ρ).out fun ds=>ci asg F ds ρ
theorem wt {pos:Pos}{iter:Expr}{body:List Stmt}{g:TG}{asg:D→DS→Option DS}{fi:DS→Res (List D)}{F:DS→Out}(hp:PassesOwn (model X.prog X.w) X.A X.env X.xe)(hc:X.calm=true)(hg:PG X tg g)(hgd:GD X.K μ X.N.length g asg)(hi:PI X tg iter (tZI X.K E μ fi))(hb:qS X E μ r body F)
  (hs:∀ x,foldedSetIterable iter X.env x=pure x:=by intro _; rfl):j1 X E μ r (.For tg iter body [] pos) (dY fi asg F):=by
 intro C s σ Ge B G H p fp I R ho
 refine wpAny_For (aO (hi C s σ H _ I ⟨Ge,B,G,p,fp,R,ho.res,fun h e J G1 H1 R1 sg src=>(show (fun (J:It) (H1:Hp)=>∃ h G1,fi p= .ok h∧Rw X.K μ Ge B G1 H1 σ p fp∧Same G G1∧zk X.K J h G1) J H1 from ⟨h,G1,e,R1,sg,src⟩)⟩) fun v s1 h1=>aO h1 fun itv s2 h2=> ?_) hs
 obtain ⟨it,ip,tn,J,H2,e,I2,T,st2,f2,h,G2,eds,R2,sg2,src⟩:=h2
 subst e
 have kk:OkO E B (ci asg F h p):=ho.res2 eds (Same.refl B)
 have e0:dY fi asg F p=ci asg F h p:=aZ eds
 rw [e0]
 have U:∀ {H':Hp},(∀ b∈ip,H' b=none)→∀ b∈ip,gX X C H' b:=fun hn b hb=>⟨hn b hb,(f2 b hb).2⟩
 refine codeAny_forLoop_any (fun n s'=>∃ i σ' G' H' ρ' fp',n=h.length - i∧i≤h.length∧Inv X C σ' H' s'∧tn i s'.heap∧(∀ b∈ip,H' b=none)∧Rw X.K μ Ge B G' H' σ' ρ' fp'∧Same G2 G'∧ci asg F h p=ci asg F (h.drop i) ρ') ?_ h.length
  ⟨0,σ,G2,H2,p,fp,rfl,Nat.zero_le _,I2,st2,fun b hb=>(f2 b hb).1,R2,.refl _,rfl⟩
 intro n s3 hZ16
 refine cps fun PP kP=> ?_
 obtain ⟨i,W,G3,H3,P,fp3,rfl,hi3,I3,st3,fr3,R3,O,k⟩:=hZ16
 obtain ⟨sg,ss⟩:=src G3 H3 O R3.gh i
 refine kP ?_; clear kP PP
 by_cases hlt:i < h.length
 ·obtain ⟨go,yl⟩:=sg h[i] (by simp [hlt])
  have L:h.drop i=h[i] :: h.drop (i+1):=by rw [List.getElem_cons_drop]
  rw [L] at k
  refine wpAny_passesOwn hp (aO (T.item X rfl rfl rfl hc i C s3 W H3 X.xe I3 (U fr3) st3 go) fun r s4 M=> ?_)
  obtain ⟨u,hr4,h4⟩:=M
  subst hr4
  refine wpAny_passesOwn hp (aO h4 fun _ s5 hZ140=> ?_)
  refine cps fun PP kP=> ?_
  obtain ⟨xv,H5,I5,r5,y5,z,fr5⟩:=hZ140
  obtain ⟨G5,x5,rp5⟩:=yl xv H5 y5
  refine kP ?_; clear kP PP
  have I5':=I5.pinned (U fr5) (T.obj _ _ z)
  have R5:=R3.growF x5
  have y:OkO E B (ci asg F (h[i] :: h.drop (i+1)) P):=by rw [← k]; exact kk
  rw [ci] at y
  rw [ci] at k
  cases qa:asg h[i] P with
  | none=>rw [qa] at y; exact y.elim
  | some ρ6=>
  rw [qa] at y k
  dsimp only at y k
  refine wpAny_passesOwn hp (aO (hg _ s5 W H5 xv u _ I5' r5 (hgd Ge B G5 H5 W P ρ6 fp3 xv _ I5.len R5 rp5 qa)) fun _ s6 hZ141=> ?_)
  obtain ⟨σ6,H6,I6,e6,fp6,R6⟩:=hZ141
  subst e6
  have kk6:OkO E B (F ρ6):=by
   cases q:F ρ6 with
   | exc c=>rw [q] at y; exact y
   | bad=>rw [q] at y; exact y
   | _=>trivial
  refine wpAny_passesOwn hp (aO (hb _ s6 _ Ge B G5 H6 _ _ I6 R6 kk6) fun f s7 q7=> ?_)
  have V:∀ {Q:St} {l Y:Hp} {Z:DS} {a:Nat→List Addr},Inv X (C ++ ko ip s5.heap) Q Y s7→Rw X.K μ Ge B l Y Q Z a→Same G5 l→ci asg F h p=ci asg F (h.drop (i+1)) Z→∃ m,m < h.length - i∧∃ i σ' G' H' ρ' fp',m=h.length - i∧i≤h.length∧Inv X C σ' H' s7∧tn i s7.heap∧(∀ b∈ip,H' b=none)∧Rw X.K μ Ge B G' H' σ' ρ' fp'∧Same G2 G'∧ci asg F h p=ci asg F (h.drop i) ρ':=fun {Q l Y Z a} S R7 j t=>by
   refine ⟨h.length - (i+1),by omega,i+1,Q,l,Y,Z,a,rfl,hlt,S.unpinned,T.keep _ _ _ z fun b hb o e=>(S.pin (b,o) (List.mem_append_right _ (List.mem_append_right _ (dw hb e)))).1,fun b hb=> ?_,R7,(O.trans x5.gg).trans j,t⟩
   obtain ⟨o,e,d⟩:=T.obj _ _ z b hb
   exact (S.pin (b,o) (List.mem_append_right _ (List.mem_append_right _ (dw hb e)))).2.1
  cases f with
  | next=>obtain ⟨Z,Q,l,Y,a,t,S,R7,j⟩:=q7; rw [t] at k; exact V S R7 j k
  | cont=>obtain ⟨Z,Q,l,Y,a,t,S,R7,j⟩:=q7; rw [t] at k; exact V S R7 j k
  | brk=>
   obtain ⟨Z,Q,l,Y,a,t,S,R7,j⟩:=q7
   rw [t] at k
   exact ⟨Z,Q,l,Y,a,k,S.unpinned,R7,((sg2.trans O).trans x5.gg).trans j⟩
  | ret v=>
   obtain ⟨d,v7,Q,l,Y,S7,t,S,q7,q8,q9,q10⟩:=q7
   rw [t] at k
   exact ⟨d,v7,Q,l,Y,S7,k,S.unpinned,q7,q8,q9,q10⟩
 ·have hie:i=h.length:=by omega
  subst hie
  refine wpAny_passesOwn hp (aO (T.done X rfl rfl rfl hc h.length C s3 W H3 X.xe I3 (U fr3) st3 (ss (Nat.le_refl _))) fun r s4 hZ142=> ?_)
  obtain ⟨hr4,I4⟩:=hZ142
  subst hr4
  rw [List.drop_length] at k
  exact wpAny_execs_nil ⟨P,W,G3,H3,fp3,k,I4,R3,sg2.trans O⟩
noncomputable def Cu (μ:List Nat)(fi:DS→Res (List D)):DS→Res (List D):=fun ρ=>fi (cR μ ρ)
theorem pj {iter:Expr}{fi:DS→Res (List D)}(h:PI X tg iter (tDI X.K E fi)):PI X tg iter (tZI X.K E μ (Cu μ fi)):=by
 intro A s C H Q I i
 obtain ⟨Ge,B,G,a,c,R,F,k⟩:=i
 exact h A s C H Q I ⟨G,cR μ a,R.gh,R.rof,F.le R.bh,fun f e J b O x j=>k f e J b O (R.growF x) x.gg j⟩
theorem bW {a:Expr}{p pos:Pos}{fs:DS→Res (List D)}(hg:Gl X "range")(hm:X.mg "range" =none)(ha:j0 X E [a] fs)(hs:starEach [a] X.env=[(false,eval a X.env)]:=by rfl):PI X tg (.Call (.Name "range" p) [a] [] pos) (tZI X.K E μ (fun ρ=>(fs ρ).bind mQ)):=by
 intro A s C H Q I m
 obtain ⟨Ge,B,G,ρ,f,R,F,k⟩:=m
 refine nQ hg hm (g_ ha) hs A s C H Q I ⟨jX f G H,ρ,R.vh,R.ro,F.fst.le R.bh,fun g e r u S t z=> ?_⟩
 have J:=F.snd e (Same.refl B)
 unfold mQ at J
 split at J
 ·rename_i j
  refine bL (z.inv) fun v q l c d=> ?_; subst l
  rw [d.inv0]
  rw [rep_int] at c; subst c
  by_cases n:cK j=true
  ·have hj':=n
   unfold cK at hj'
   rw [Bool.and_eq_true] at hj'
   exact (AL j rfl (of_decide_eq_true hj'.1) (of_decide_eq_true hj'.2) (k _ (ao e (if_pos n)) _ _ S (R.grow t) (R.gg t) (kz 0 j.toNat)))
  ·rw [if_neg n] at J; exact J.elim
 ·exact J.elim
theorem cr {x:Str}{px pos:Pos}{iter:Expr}{body:List Stmt}{j:Nat}{fi:DS→Res (List D)}{F:DS→Out}(hp:PassesOwn (model X.prog X.w) X.A X.env X.xe)(hc:X.calm=true)(hN:X.N.Nodup)(hj:X.N[j]?=some x)(hx:w_ X.env.scope x)(hm:μ.getD j 0=0)(hi:PI X (.Name x px) iter (tZI X.K E μ fi))(hb:qS X E μ r body F)
  (hf:X.fn x=true∨X.env.scope.names.lookup x=some .local:=by first | exact .inl rfl | exact .inr rfl) (hs:∀ x,foldedSetIterable iter X.env x=pure x:=by intro _; rfl):j1 X E μ r (.For (.Name x px) iter body [] pos) (dY fi (bD j) F):=
 wt hp hc (fA hN hj hx hf) (yg (dZ hj).1 hm) hi hb hs
theorem iP {x y:Str}{px py pt pos:Pos}{kt:Nat}{iter:Expr}{body:List Stmt}{j k:Nat}{fi:DS→Res (List D)}{F:DS→Out}(hp:PassesOwn (model X.prog X.w) X.A X.env X.xe)(hc:X.calm=true)(hN:X.N.Nodup)(hj:X.N[j]?=some x)(hk:X.N[k]?=some y)(hx:w_ X.env.scope x)(hy:w_ X.env.scope y)(hm:μ.getD j 0=0)(hm':μ.getD k 0=0)(hi:PI X (.Tuple [.Name x px,.Name y py] kt pt) iter (tZI X.K E μ fi))(hb:qS X E μ r body F)
  (hf:X.fn x=true∨X.env.scope.names.lookup x=some .local:=by first | exact .inl rfl | exact .inr rfl) (hf':X.fn y=true∨X.env.scope.names.lookup y=some .local:=by first | exact .inl rfl | exact .inr rfl) (hs:∀ x,foldedSetIterable iter X.env x=pure x:=by intro _; rfl):j1 X E μ r (.For (.Tuple [.Name x px,.Name y py] kt pt) iter body [] pos) (dY fi (iR j k) F):=
 wt hp hc (wl hc (jP (fA hN hj hx hf) (jP (fA hN hk hy hf') s_))) (AI (dZ hj).1 (dZ hk).1 hm hm') hi hb hs
end
section
variable{X:Cx}{pins:List (Addr×Obj)}{σ:St}{H:Hp}{s:Shared}{h':Heap}
theorem Inv.turnedL {t':Nat}{ch:List Addr}(I:Inv X pins σ H s)(hf:∀ b∈ch,gX X pins H b)(k:∀ b o,b∉ch→s.heap.get? b=some o→h'.get? b=some o):Inv X pins σ H { s with heap:=h',toks:=t' }:=by
 have i:∀ b u,H b=some u→b∉ch:=fun b u e z=>by rw [(hf b z).1] at e; cases e
 refine I.step (g':=s.gens) (d':=s.drawn) (ch:=ch) (fun b x=> ?_) (fun b o _ _ a e _=>k b o a e) (fun b o _ _ a e _=>⟨o.slots,k b o a e⟩) (fun _ _ _ _ n=>n)
  (fun b o a e=>⟨o,k b o a e⟩) (fun _ _ e=>e) (fun _ _ _ e=>e) (fun b j e=>⟨#[],by rw [e]; simp⟩) (fun m B=> ?_) (fun b u e=> ?_) I.bare
 ·refine qK (hf b x) fun C A f2 f3 y w=> ?_
  exact (lT f3 A y w)
 ·refine wY (B) fun o p l D r=> ?_
  exact (ug o p l (k _ o (fun z=>(hf _ z).2.1 rfl) D) r)
 ·refine (I.hok b u e).stay (fun c v a q=>k c v ?_ q) (fun _ q=>q) fun _ _ q=>q
  rcases a with z | z
  ·rw [z]; exact i b u e
  ·exact i c _ z
theorem Inv.track {p:Addr}{o:HO}(I:Inv X pins σ H s)(hp:gX X pins H p)(new:ObjOk X.prog X.w (bu H p o) s.heap p o):Inv X pins σ (bu H p o) s:=by
 have x:=hp.1
 have I':=I.step (g':=s.gens) (d':=s.drawn) (t':=s.toks) (h':=s.heap) (H':=bu H p o) (ch:=[p]) (fun b y=>by
   have e:b=p:=by simpa using y
   subst e
   refine qK (hp) fun E C f2 f3 B A=> ?_
   exact (lT f3 C B A)) (fun b o _ _ a e _=>e) (fun b o _ _ a e _=>⟨o.slots,e⟩) (fun b u a e n=>by rw [am (fun z=>a (by simp [z]))]; exact n)
  (fun b o a e=>⟨o,e⟩) (fun b d e=>by rw [am (aw e x)]; exact e) (fun b o u e=>by rw [am (aw e x)]; exact e) (fun b j e=>⟨#[],by rw [am (aw e x),e]; simp⟩) (fun m D=>D) (fun b u e=>by
   by_cases y:b=p
   ·subst y; rw [az] at e; cases e; exact new
   ·rw [am y] at e
    exact (I.hok b u e).stay (fun c v _ q=>q) (fun c q=>by rw [am (aw q x)]; exact q) fun c d q=>by rw [am (aw q x)]; exact q) I.bare
 exact I'
end
noncomputable def EC (K:W.Frag)(a:Addr):It:=
 ⟨fun i H=>∃ xs x,fR K H a xs∧xs[i]?=some x,fun i H x H'=>∃ p y,H p=none∧x= .ref p∧H'=bu H p (.tup [.int i,y])∧∀ xs,fR K H a xs→xs[i]?=some y,fun i H=>∃ xs,fR K H a xs∧xs.length≤i⟩
theorem uE {P:Program}{w:World}{K:W.Frag}{elts:List Expr}{x1:Nat}{tp:Pos}(a e it:Addr)(hne:e≠it):Turn P w K (.Tuple elts x1 tp) (EC K a) [e,it] e (fun i h=>(∃ old,IsEnum h e it (i:Nat) old)∧h.IsListIter it a i) where
 mem:=by simp
 obj:=fun i h q b B=>by
  refine FG (q) fun m o T c d=> ?_; obtain ⟨old,f⟩:=m
  rcases List.mem_cons.mp B with z | z
  ·subst z; exact ⟨_,f,fun v z=>by cases z⟩
  ·have z:b=it:=by simpa using z
   subst z; exact ⟨o,T,fun v z=>by rw [d] at z; cases z⟩
 keep:=fun i h h' ⟨⟨old,f⟩,q⟩ k=>⟨⟨old,k e (by simp) _ f⟩,q.at fun o e=>k it (by simp) o e⟩
 item:=by
  intro X R Z D hc i A s σ H E I L q F
  subst R Z D
  refine cps fun PP G=> ?_
  obtain ⟨⟨old,f⟩,l⟩:=q
  refine kT (F) fun xs x g S=> ?_
  refine dr (I.list g) fun J Y p hz=> ?_
  obtain ⟨u,hu,ru⟩:=Y.get S
  refine G ?_; clear G PP
  have r:∀ b∈[e,it],b≠s.heap.objs.size:=fun b B z=>by
   refine dr (l) fun o T c d=> ?_
   rcases List.mem_cons.mp B with y | y
   ·rw [y] at z; exact absurd (Heap.lt_size f) (by rw [z]; exact Nat.lt_irrefl _)
   ·have y:b=it:=by simpa using y
    rw [y] at z; exact absurd (Heap.lt_size T) (by rw [z]; exact Nat.lt_irrefl _)
  have C:=I.hok.fresh (Nat.le_refl s.heap.objs.size)
  have U:gX X A H s.heap.objs.size:=I.fpOk (Nat.le_refl _) C
  refine wpAny_pyNext_enum_item f l p.isList (x:=u) (by simpa using hu) hne fun h1 N n t hz1 V=>⟨_,rfl,?_⟩
  refine wpAny_letOwnedTupleGo_enum N fun j Q M=> ?_
  have M:Heap.SameBut e h1 j:=M
  have I1:Inv X A σ H { s with heap:=j,toks:=s.toks+1 }:=I.turnedL (t':=s.toks+1) (ch:=[e,it]) L fun b o B T=>by
   have b1:b≠e:=fun z=>B (by simp [z])
   have b2:b≠it:=fun z=>B (by simp [z])
   exact M.extBut b o b1 (V b o b1 b2 T)
  have O:j.get? s.heap.objs.size=some { cls:= .type "tuple",data:= .seq #[.int i s.toks,u] }:=M.extBut _ _ (Ne.symm (r e (by simp))) t
  have I2:=Inv.track (o:= .tup [.int i,x]) I1 U (Dk (by show 2≤sizeLine; decide) ([.int i s.toks,u]) (.cons ⟨_,rfl⟩ (.cons ru .nil)) _ O rfl _ rfl)
  refine (vy (.ref s.heap.objs.size) _ I2 rfl (kZ _ x C rfl rfl (fun ys hy=>by rw [I.list_inj hy g]; exact S)) ⟨⟨u,?_⟩,n.at fun o T=>M.extBut _ o (Ne.symm hne) T⟩ (fun b B=> ?_))
  ·have:(((i+1:Nat):Int))=(i:Int)+1:=by push_cast; rfl
   rw [this]; exact Q
  ·rw [am (r b B)]; exact (L b B).1
 done:=by
  intro X R Z D hc i A s σ H E I L q F
  subst R Z D
  refine cps fun PP G=> ?_
  obtain ⟨⟨old,f⟩,l⟩:=q
  obtain ⟨xs,g,S⟩:=F
  refine dr (I.list g) fun J Y p hz=> ?_
  refine G ?_; clear G PP
  have hl:=Y.length
  exact wpAny_pyNext_enum_end (I.ok.hd hc) f l p.isList (by simp; omega) fun h1 hk=>⟨rfl,I.turnedL (t':=s.toks) (ch:=[e,it]) L fun b o B T=>hk b o (fun z=>B (by simp [z])) T⟩
 self:=fun _ _ _ _ _ q h=>by
  obtain ⟨⟨old,f⟩,_⟩:=q
  exact wpAny_pyIter_enum f h
theorem xu:bootBuiltins "enumerate" =some (.type "enumerate"):=by decide +kernel
theorem zU:bootBuiltins "zip" =some (.type "zip"):=by decide +kernel
section
variable{X:Cx}{E:XK}{elts:List Expr}{x1:Nat}{tp:Pos}
noncomputable def Cv (K:W.Frag)(ta:TA):TI:=fun σ H R=>ta σ H fun xs H1=>∃ a,xs=[.ref a]∧(∃ ys,fR K H1 a ys)∧R (EC K a) H1
theorem yJ {a:Expr}{ta:TA}{p pos:Pos}(hg:Gl X "enumerate")(hm:X.mg "enumerate" =none)(ha:PA X [a] ta)(hs:starEach [a] X.env=[(false,eval a X.env)]:=by rfl):PI X (.Tuple elts x1 tp) (.Call (.Name "enumerate" p) [a] [] pos) (Cv X.K ta):=by
 intro A s B H R I h
 refine Call_ (io I hg hm xu (PyProof.Rows.callWith_type1 (aO (ha pos A s B H _ I h) fun W N u=> ?_) hs rfl))
 refine cps fun PP G=> ?_
 obtain ⟨t,S,Q,T,U⟩:=u
 refine dr (U) fun l e v q=> ?_; obtain ⟨E,d⟩:=v
 refine G ?_; clear G PP
 subst e
 cases T with
 | cons r Z=>
  cases Z
  cases r
  refine dr (Q.list d) fun n g x D=> ?_
  refine call_enumerate_list x.isList fun f c m y O=> ?_
  refine wpAny_pyIter_enum (s:={ N with heap:=f }) c ⟨N.heap.objs.size+1,[N.heap.objs.size+1,N.heap.objs.size],_,_,S,rfl,Q.kept (t':=N.toks) O,uE l _ _ (Nat.succ_ne_self _),⟨⟨.none,c⟩,m⟩,fun b w=> ?_,q⟩
  have hb':N.heap.objs.size≤b:=by
   rcases List.mem_cons.mp w with z | z
   ·rw [z]; exact Nat.le_succ _
   ·have z:b=N.heap.objs.size:=by simpa using z
    rw [z]; exact Nat.le_refl _
  exact Q.fpOk hb' (Q.hok.fresh hb')
noncomputable def bU:Nat→List D→List D
 | _,[]=>[]
 | k,d :: ds=> .tup [.int k,d] :: bU (k+1) ds
theorem i7:∀ (k:Nat) (l:List D) (i:Nat),(bU k l)[i]?=(l[i]?).map fun d=> .tup [.int ((k+i:Nat):Int),d]
 | _,[],i=>by unfold bU; simp
 | k,d :: ds,0=>by unfold bU; simp
 | k,d :: ds,i+1=>by
  unfold bU
  rw [List.getElem?_cons_succ,List.getElem?_cons_succ,i7 (k+1) ds i]
  have:k+1+i=k+(i+1):=by omega
  rw [this]
theorem i8:∀ (k:Nat) (l:List D),(bU k l).length=l.length
 | _,[]=>rfl
 | k,d :: ds=>by unfold bU; rw [List.length_cons,List.length_cons,i8]
theorem wN {K:W.Frag}{G:Hp}{a:Addr}{xs:List V}{ds:List D}(sq:fR K G a xs)(rl:RepL K G ds xs):zk K (EC K a) (bU 0 ds) G:=by
 intro r j N M i
 have J:fR K j a xs:=M.seq (N.seq sq)
 refine ⟨fun d H=> ?_,fun O=>⟨xs,J,by rw [i8,rl.length] at O; exact O⟩⟩
 rw [i7] at H
 cases q:ds[i]? with
 | none=>rw [q] at H; cases H
 | some C=>
  rw [q] at H
  cases H
  obtain ⟨v,B,c⟩:=rl.get q
  refine ⟨(kY xs v J B),fun y P A=> ?_⟩
  refine mH (A) fun p z Z T t h=> ?_
  subst T t
  have q:=h xs J
  rw [B] at q; cases q
  have x:=Ext.new M Z (.tup [.int i,v])
  refine ⟨_,x,rep_tup.mpr (dL p _ rfl (.of az) (.cons (rep_int.mpr (by rw [Nat.zero_add])) (.cons (c.mono (N.trans x.gg)) .nil)))⟩
noncomputable def pK:List D→Res (List D)
 | [.lst l]=> .ok (bU 0 l)
 | _=> .bad
theorem ma {a:Expr}{p pos:Pos}{fs:DS→Res (List D)}(hg:Gl X "enumerate")(hm:X.mg "enumerate" =none)(ha:j0 X E [a] fs)(hs:starEach [a] X.env=[(false,eval a X.env)]:=by rfl):PI X (.Tuple elts x1 tp) (.Call (.Name "enumerate" p) [a] [] pos) (tDI X.K E (fun ρ=>(fs ρ).bind pK)):=by
 intro C s M H R I F
 obtain ⟨G,ρ,n,m,L,k⟩:=F
 refine yJ hg hm (g_ ha) hs C s M H R I ⟨G,ρ,n,m,L.fst,fun h e t q S x1 z=> ?_⟩
 have J:=L.snd e x1.hh
 unfold pK at J
 split at J
 ·rename_i l
  refine bL (z.inv) fun v r A c d=> ?_; subst A
  rw [d.inv0]
  rw [rep_lst] at c
  refine bL (c) fun b f B sq g=> ?_; subst B
  exact (iZ b rfl ⟨f,x1.gh.seq sq.sq⟩ (k _ (ao e rfl) _ q S x1 (wN sq.sq g)))
 ·exact J.elim
end
noncomputable def ED (a b:Addr):It:=
 ⟨fun i H=>∃ xs ys x y,H a=some (.lst xs)∧H b=some (.lst ys)∧xs[i]?=some x∧ys[i]?=some y,fun i H x H'=>∃ p y z,H p=none∧x= .ref p∧H'=bu H p (.tup [y,z])∧(∀ xs,H a=some (.lst xs)→xs[i]?=some y)∧∀ ys,H b=some (.lst ys)→ys[i]?=some z,
  fun i H=>∃ xs ys,H a=some (.lst xs)∧H b=some (.lst ys)∧(xs.length≤i∨ys.length≤i)⟩
noncomputable def Cg (z TI TO i1 i2 a b:Addr)(i:Nat)(h:Heap):Prop:=IsZip h z TI TO .none∧IsPair h TI (.ref i1) (.ref i2)∧(∃ x y,IsPair h TO x y)∧h.IsListIter i1 a i∧h.IsListIter i2 b i
structure ZApart (z TI TO i1 i2:Addr):Prop where
 TIz:TI≠z
 TOz:TO≠z
 i1z:i1≠z
 i2z:i2≠z
 TITO:TI≠TO
 TIi1:TI≠i1
 TIi2:TI≠i2
 TOi1:TO≠i1
 TOi2:TO≠i2
 i12:i1≠i2
theorem n6 {X:Cx}{pins:List (Addr×Obj)}{H:Hp}{a b z TI TO i1 i2:Addr}{xs ys:List V}(D:ZApart z TI TO i1 i2)(hf:∀ b∈[z,TI,TO,i1,i2],gX X pins H b)(hq:H a=some (.lst xs))(hq':H b=some (.lst ys)):ZipApart z TI TO i1 i2 a b:=
 have E:∀ {l:Addr} {zs:List V},H l=some (.lst zs)→∀ c∈[z,TI,TO,i1,i2],l≠c:=fun N c d e=>by rw [e,(hf c d).1] at N; cases N
 ⟨D.TIz,D.TOz,D.i1z,D.i2z,D.TITO,D.TIi1,D.TIi2,D.TOi1,D.TOi2,D.i12,E hq z (by simp),E hq TO (by simp),E hq i1 (by simp),E hq i2 (by simp),E hq' z (by simp),E hq' TO (by simp),E hq' i1 (by simp),E hq' i2 (by simp)⟩
theorem wT {P:Program}{w:World}{K:W.Frag}{elts:List Expr}{x1:Nat}{tp:Pos}(a b z TI TO i1 i2:Addr)(D:ZApart z TI TO i1 i2):Turn P w K (.Tuple elts x1 tp) (ED a b) [z,TI,TO,i1,i2] z (Cg z TI TO i1 i2 a b) where
 mem:=by simp
 obj:=fun i h q c f=>by
  refine cps fun PP L=> ?_
  refine mX (q) fun N F R V Q=> ?_; obtain ⟨x,y,J⟩:=R; obtain ⟨o1,U,c1,d1⟩:=V; obtain ⟨o2,e2,c2,d2⟩:=Q
  refine L ?_; clear L PP
  simp only [List.mem_cons,List.not_mem_nil,or_false] at f
  rcases f with rfl | rfl | rfl | rfl | rfl
  ·exact ⟨_,N,fun v z=>by cases z⟩
  ·exact ⟨_,F,fun v z=>by cases z⟩
  ·exact ⟨_,J,fun v z=>by cases z⟩
  ·exact ⟨o1,U,fun v z=>by rw [d1] at z; cases z⟩
  ·exact ⟨o2,e2,fun v z=>by rw [d2] at z; cases z⟩
 keep:=fun i h h' ⟨N,F,⟨x,y,J⟩,l,g⟩ k=>⟨k z (by simp) _ N,k TI (by simp) _ F,⟨x,y,k TO (by simp) _ J⟩,l.at fun o e=>k i1 (by simp) o e,g.at fun o e=>k i2 (by simp) o e⟩
 item:=by
  intro X hP hw hK f i A s σ H E I Y q hg
  subst hP hw hK
  refine cps fun PP L=> ?_
  refine mX (q) fun N F T l g=> ?_; obtain ⟨u0,w0,J⟩:=T
  refine lh (hg) fun xs ys x y j t B hy=> ?_
  refine dr (I.list (.inl (.inl j))) fun its rv p _=> ?_
  refine dr (I.list (.inl (.inl t))) fun Z O p' _=> ?_
  obtain ⟨u,hu,ru⟩:=rv.get B
  obtain ⟨u',hu',ru'⟩:=O.get hy
  refine L ?_; clear L PP
  have DD:=n6 D Y j t
  have C:=I.hok.fresh (Nat.le_refl s.heap.objs.size)
  have hfp:gX X A H s.heap.objs.size:=I.fpOk (Nat.le_refl _) C
  have lt:∀ {c:Addr} {o:Obj},s.heap.get? c=some o→c≠s.heap.objs.size:=fun e=>Nat.ne_of_lt (Heap.lt_size e)
  have r:∀ c∈[z,TI,TO,i1,i2],c≠s.heap.objs.size:=fun c f=>by
   refine cps fun PP L=> ?_
   obtain ⟨o1,U,_⟩:=l
   obtain ⟨o2,e2,_⟩:=g
   refine L ?_; clear L PP
   simp only [List.mem_cons,List.not_mem_nil,or_false] at f
   rcases f with rfl | rfl | rfl | rfl | rfl
   ·exact lt N
   ·exact lt F
   ·exact lt J
   ·exact lt U
   ·exact lt e2
  refine wpAny_pyNext_zip_item DD N F J l g p.isList p'.isList (x:=u) (y:=u') (by simpa using hu) (by simpa using hu') fun h3 a1 a2 a3 a4 a5 a6 m=>⟨_,rfl,?_⟩
  refine wpAny_letOwnedTupleGo_zip a1 fun h4 hz4 G=> ?_
  have G:Heap.SameBut z h3 h4:=G
  have I1:Inv X A σ H { s with heap:=h4,toks:=s.toks }:=I.turnedL (t':=s.toks) (ch:=[z,TI,TO,i1,i2]) Y fun c o f U=>by
   have n:∀ d∈[z,TI,TO,i1,i2],c≠d:=fun d hd z=>f (by rw [z]; exact hd)
   exact G.extBut c o (n z (by simp)) (m c o (n z (by simp)) (n TO (by simp)) (n i1 (by simp)) (n i2 (by simp)) U)
  have ht2:h4.get? s.heap.objs.size=some { cls:= .type "tuple",data:= .seq #[u,u'] }:=G.extBut _ _ (Ne.symm (r z (by simp))) a5
  have I2:=Inv.track (o:= .tup [x,y]) I1 hfp (Dk (by show 2≤sizeLine; decide) ([u,u']) (.cons ru (.cons ru' .nil)) _ ht2 rfl _ rfl)
  refine (vy (.ref s.heap.objs.size) _ I2 rfl (pY _ x y C rfl rfl (fun zs M=>by rw [j] at M; cases M; exact B) (fun zs M=>by rw [t] at M; cases M; exact hy)) (rh hz4 (G.extBut _ _ D.TIz (m _ _ D.TIz D.TITO D.TIi1 D.TIi2 F)) ⟨_,_,G.extBut _ _ D.TOz a2⟩ (a3.at fun o e=>G.extBut _ o D.i1z e) (a4.at fun o e=>G.extBut _ o D.i2z e)) (fun c f=> ?_))
  rw [am (r c f)]; exact (Y c f).1
 done:=by
  intro X hP hw hK f i A s σ H E I Y q hg
  subst hP hw hK
  refine cps fun PP L=> ?_
  refine mX (q) fun N F S l g=> ?_; obtain ⟨u0,w0,J⟩:=S
  refine bL (hg) fun xs ys j t B=> ?_
  refine dr (I.list (.inl (.inl j))) fun its rv p _=> ?_
  refine dr (I.list (.inl (.inl t))) fun Z O p' _=> ?_
  refine L ?_; clear L PP
  have hl:=rv.length
  have hl':=O.length
  exact wpAny_pyNext_zip_end (I.ok.hd f) (n6 D Y j t) N F J l g p.isList p'.isList (B.imp (fun B=>by simp; omega) (fun B=>by simp; omega)) fun h3 m=>⟨rfl,I.turnedL (t':=s.toks) (ch:=[z,TI,TO,i1,i2]) Y fun c o f U=>by
   have n:∀ d∈[z,TI,TO,i1,i2],c≠d:=fun d hd z=>f (by rw [z]; exact hd)
   exact m c o (n z (by simp)) (n TO (by simp)) (n i1 (by simp)) (n i2 (by simp)) U⟩
 self:=fun _ _ _ _ _ q h=>wpAny_pyIter_zip q.1 h
section
variable{X:Cx}{E:XK}{elts:List Expr}{x1:Nat}{tp:Pos}
noncomputable def EO (ta:TA):TI:=fun σ H R=>ta σ H fun xs H1=>∃ a b,xs=[.ref a,.ref b]∧(∃ ys,H1 a=some (.lst ys))∧(∃ ys,H1 b=some (.lst ys))∧R (ED a b) H1
theorem By {a b:Expr}{ta:TA}{p pos:Pos}(hg:Gl X "zip")(hm:X.mg "zip" =none)(ha:PA X [a,b] ta)(hs:starEach [a,b] X.env=[(false,eval a X.env),(false,eval b X.env)]:=by rfl)(hs2:starEach [b] X.env=[(false,eval b X.env)]:=by rfl):PI X (.Tuple elts x1 tp) (.Call (.Name "zip" p) [a,b] [] pos) (EO ta):=by
 intro A s B H R I h
 refine Call_ (io I hg hm zU (PyProof.Rows.callWith_type1 (aO (ha pos A s B H _ I h) fun M N Q=> ?_) (by rw [hs,hs2]) (by rw [hs2]; rfl)))
 refine cps fun PP G=> ?_
 obtain ⟨z,k,S,V,x⟩:=Q
 refine mH (x) fun l m e O P q=> ?_; obtain ⟨L,g⟩:=O; obtain ⟨y,t⟩:=P
 refine G ?_; clear G PP
 subst e
 cases V with
 | cons r Z=>
  cases Z with
  | cons i Z=>
  cases Z
  cases r
  cases i
  refine dr (S.list (.inl (.inl g))) fun o rv w F=> ?_
  refine dr (S.list (.inl (.inl t))) fun E J T K=> ?_
  refine call_zip_2 w.isList T.isList fun v Y f W u U C j=> ?_
  have D:ZApart (N.heap.objs.size+4) (N.heap.objs.size+2) (N.heap.objs.size+3) N.heap.objs.size (N.heap.objs.size+1):=by
   generalize N.heap.objs.size=n
   exact ⟨by show (n+2:Nat)≠n+4; omega,by show (n+3:Nat)≠n+4; omega,by show (n:Nat)≠n+4; omega,by show (n+1:Nat)≠n+4; omega,by show (n+2:Nat)≠n+3; omega,by show (n+2:Nat)≠n; omega,by show (n+2:Nat)≠n+1; omega,by show (n+3:Nat)≠n; omega,by show (n+3:Nat)≠n+1; omega,by show (n:Nat)≠n+1; omega⟩
  refine wpAny_pyIter_zip (s:={ N with heap:=v }) Y ⟨N.heap.objs.size+4,[N.heap.objs.size+4,N.heap.objs.size+2,N.heap.objs.size+3,N.heap.objs.size,N.heap.objs.size+1],_,_,k,rfl,S.kept (t':=N.toks) j,wT l m _ _ _ _ _ D,⟨Y,f,⟨_,_,W⟩,u,U⟩,fun c d=> ?_,q⟩
  have hb':N.heap.objs.size≤c:=by
   simp only [List.mem_cons,List.not_mem_nil,or_false] at d
   rcases d with rfl | rfl | rfl | rfl | rfl
   ·exact Nat.le_add_right _ _
   ·exact Nat.le_add_right _ _
   ·exact Nat.le_add_right _ _
   ·exact Nat.le_refl _
   ·exact Nat.le_add_right _ _
  exact S.fpOk hb' (S.hok.fresh hb')
noncomputable def iV:List D→List D→List D
 | a :: as,b :: bs=> .tup [a,b] :: iV as bs
 | _,_=>[]
theorem qM:∀ (l m:List D) (i:Nat) (d:D),(iV l m)[i]?=some d→∃ a b,l[i]?=some a∧m[i]?=some b∧d= .tup [a,b]
 | [],_,i,d,h=>by unfold iV at h; simp at h
 | _ :: _,[],i,d,h=>by unfold iV at h; simp at h
 | a :: as,b :: bs,0,d,h=>by unfold iV at h; simp at h; exact (dL a b rfl rfl h.symm)
 | a :: as,b :: bs,i+1,d,h=>by
  unfold iV at h
  refine bL (qM as bs i d (by simpa using h)) fun x y c e A=> ?_
  exact (dL x y (by simpa using c) (by simpa using e) A)
theorem qN:∀ (l m:List D),(iV l m).length=min l.length m.length
 | [],_=>by unfold iV; simp
 | _ :: _,[]=>by unfold iV; simp
 | a :: as,b :: bs=>by unfold iV; rw [List.length_cons,List.length_cons,List.length_cons,qN]; omega
theorem y9 {K:W.Frag}{G:Hp}{a b:Addr}{xs ys:List V}{ds es:List D}(sq:LsS K G a xs)(rl:RepL K G ds xs)(sq':LsS K G b ys)(rl':RepL K G es ys):zk K (ED a b) (iV ds es) G:=by
 intro s l N M i
 have o:=M _ _ (N _ _ sq.h)
 have s2':=M _ _ (N _ _ sq'.h)
 refine ⟨fun d J=> ?_,fun O=>(dL xs ys o s2' (by rw [qN,rl.length,rl'.length] at O; omega))⟩
 refine cps fun PP H=> ?_
 refine bL (qM _ _ _ _ J) fun B F R k e=> ?_
 subst e
 obtain ⟨v,A,c⟩:=rl.get R
 obtain ⟨j,g,I⟩:=rl'.get k
 refine H ?_; clear H PP
 refine ⟨(lU xs ys v j o s2' A g),fun y P X=> ?_⟩
 refine ju (X) fun p z Y Z T t h r=> ?_
 subst T t
 have q:=h xs o
 rw [A] at q; cases q
 have q:=r ys s2'
 rw [g] at q; cases q
 have x:=Ext.new M Z (.tup [v,j])
 exact ⟨_,x,rep_tup.mpr (dL p _ rfl (.of az) (.cons (c.mono (N.trans x.gg)) (.cons (I.mono (N.trans x.gg)) .nil)))⟩
noncomputable def pp:List D→Res (List D)
 | [.lst l,.lst m]=> .ok (iV l m)
 | _=> .bad
theorem lu {a b:Expr}{p pos:Pos}{fs:DS→Res (List D)}(hg:Gl X "zip")(hm:X.mg "zip" =none)(ha:j0 X E [a,b] fs)(hs:starEach [a,b] X.env=[(false,eval a X.env),(false,eval b X.env)]:=by rfl)(hs2:starEach [b] X.env=[(false,eval b X.env)]:=by rfl):PI X (.Tuple elts x1 tp) (.Call (.Name "zip" p) [a,b] [] pos) (tDI X.K E (fun ρ=>(fs ρ).bind pp)):=by
 intro A s O H R I f
 obtain ⟨G,ρ,o,n,F,k⟩:=f
 refine By hg hm (g_ ha) hs hs2 A s O H R I ⟨G,ρ,o,n,F.fst,fun P e x q S x1 C=> ?_⟩
 have M:=F.snd e x1.hh
 unfold pp at M
 split at M
 ·rename_i l m
  refine cps fun PP J=> ?_
  refine bL (C.inv) fun v r Y i j=> ?_; subst Y
  refine bL (j.inv) fun Q y d L g=> ?_; subst d
  refine J ?_; clear J PP
  rw [g.inv0]
  rw [rep_lst] at i L
  refine cps fun PP J=> ?_
  refine bL (i) fun w t c sq u=> ?_; subst c
  refine bL (L) fun W N Z z B=> ?_; subst Z
  refine J ?_; clear J PP
  exact (kZ w W rfl ⟨t,x1.gh _ _ sq.h⟩ ⟨N,x1.gh _ _ z.h⟩ (k _ (ao e rfl) _ q S x1 (y9 sq u z B)))
 ·exact M.elim
end
inductive tN (K:W.Frag)(E:XK)(n:Nat)(f:DS→Res D)(σ:St)(H:Hp)(Q:VK):Prop
 | mk (G:Hp) (ρ:DS) (s:Same G H) (r:Ro K G σ ρ) (o:OkR E H (f ρ)) (k:∀ d,f ρ= .ok d→∀ v G' H' S,Ext G H G' H'→Ow K G' H' n d v S→New H G' S→Q v H')
noncomputable def TN (K:W.Frag)(E:XK)(n:Nat)(f:DS→Res D)(te:TE):Prop:=
 ∀ (σ:St) (G H:Hp) (ρ:DS) (Q:VK),Same G H→Ro K G σ ρ→OkR E H (f ρ)→(∀ d,f ρ= .ok d→∀ v G' H' S,Ext G H G' H'→Ow K G' H' n d v S→New H G' S→Q v H')→te σ H Q
theorem Ext.hnew {G H G' H':Hp}{p:Addr}(x:Ext G H G' H')(hp:H' p=none)(o:HO):Ext G H G' (bu H' p o):=
 ⟨fun b u e=>by rw [am (aw (x.hh b u e) hp)]; exact x.hh b u e,x.gg,fun b u e=>by rw [am (aw (x.gh b u e) hp)]; exact x.gh b u e,x.nw⟩
theorem New.step {H G2 H2 G3 H3:Hp}{S:List Addr}(w:New H G2 S)(hc:∀ a∈S,∃ o,H2 a=some o∧¬ lW o)(x:Ext G2 H2 G3 H3):New H G3 S:=⟨w.1,fun a A=>⟨(w.2 a A).1,by
 cases q:G3 a with
 | none=>rfl
 | some o=>
  rcases x.nw a o q with z | z
  ·rw [(w.2 a A).2] at z; cases z
  ·obtain ⟨I,h,O⟩:=hc a A
   rcases z with z | z
   ·rw [z] at h; cases h
   ·have b:=x.gh a o q
    rw [x.hh a _ h] at b
    cases b
    exact (O z).elim⟩⟩
theorem New.join {H H2 G:Hp}{S T:List Addr}(w:New H G S)(w':New H2 G T)(hc:∀ a∈S,∃ o,H2 a=some o∧¬ lW o)(sh:Same H H2):New H G (S ++ T):=by
 refine ⟨List.nodup_append.mpr ⟨w.1,w'.1,fun a A b u e=> ?_⟩,fun a A=> ?_⟩
 ·subst e
  obtain ⟨o,h,_⟩:=hc a A
  rw [(w'.2 a u).1] at h; cases h
 ·rcases List.mem_append.mp A with z | z
  ·exact w.2 a z
  ·exact ⟨sh.free (w'.2 a z).1,(w'.2 a z).2⟩
theorem AllW.has {K:W.Frag}{G H:Hp}{n:Nat}{ds:List D}{vs:List V}{S:List Addr}(h:AllW (Ow K G H n) ds vs S):∀ a∈S,∃ o,H a=some o∧¬ lW o:=h.cell fun d v A q a z=>let ⟨o,e,c⟩:=q.cell a z; ⟨o,e,c.nokey⟩
section
variable{X:Cx}{E:XK}{μ:List Nat}{r n:Nat}
theorem yH {e:Expr}{f:DS→Res D}(h:PN X E n e f):PE X e (tN X.K E n f):=by
 intro A s B H Q I i
 obtain ⟨G,a,L,P,F,k⟩:=i
 exact aO (h A s B G H a I L P F) fun u V g=>(by obtain ⟨d,e,v,b,O,S,y,c,x,o,w⟩:=g; exact ⟨v,O,y,c,k d e v b O S x o w⟩)
theorem PN.tn {e:Expr}{f:DS→Res D}{te:TE}(h:PE X e te)(t:TN X.K E n f te):PN X E n e f:=by
 intro A s B G H a I L P F
 refine aO (h A s B H (fun v O=>∃ d b S,f a= .ok d∧Ext G H b O∧Ow X.K b O n d v S∧New H b S) I (t B G H a _ L P F fun d e v b O S x o w=>(iM d b S e x o w))) fun u V g=>(by obtain ⟨v,O,y,c,d,b,S,e,x,o,w⟩:=g; exact ⟨d,e,v,b,O,S,y,c,x,o,w⟩)
theorem kl {K:W.Frag}{G G' H H':Hp}{p:Addr}{ds:List D}{vs:List V}(x:Ext G H G' H')(hp:H' p=none)(rl:RepL K G' ds vs):Ext G H G' (bu H' p (.lst vs))∧Ow K G' (bu H' p (.lst vs)) 1 (.lst ds) (.ref p) [p]∧New H G' [p]:=by
 refine ⟨x.hnew hp _,(iM p vs ([]) rfl az rfl ?_),⟨List.nodup_cons.mpr ⟨List.not_mem_nil,List.nodup_nil⟩,fun a B=> ?_⟩⟩
 ·have P:∀ {ds:List D} {vs:List V},RepL K G' ds vs→AllW (Ow K G' (bu H' p (.lst vs)) 0) ds vs []:=by
   intro ds
   induction ds with
   | nil=>intro vs h; exact ⟨h.inv0,rfl⟩
   | cons d ds s=>
    intro vs h
    refine bL (h.inv) fun v q i b c=> ?_; subst i
    refine (lU v q ([]) ([]) rfl rfl ⟨rfl,b⟩ ((s c).mono fun d v A _ _ z=> ?_))
    exact z
  exact (P rl).mono fun d v A _ _ z=>z
 ·have e:a=p:=by simpa using B
  subst e
  exact ⟨x.hh.free hp,by
   cases q:G' a with
   | none=>rfl
   | some o=>rw [x.gh a o q] at hp; cases hp⟩
theorem jq {es:List Expr}{pos:Pos}{f:DS→Res (List D)}(h:j0 X E es f):PN X E 1 (.List es pos) (cw f):=by
 refine .tn (rM (g_ h)) fun B G H a Q L l F k=>⟨G,a,L,l,F.fst,fun g e r q S s T=> ?_⟩
 have I:=F.snd e s.hh
 by_cases N:aN g.length=true
 ·refine ⟨by rw [← T.length]; exact bY N,fun p Z=> ?_⟩
  obtain ⟨x,o,w⟩:=kl s Z T
  exact k (.lst g) (ao e (if_pos N)) _ _ _ _ x o w
 ·rw [if_neg N] at I; exact I.elim
theorem yL {CX:pw}{k:Nat}{f:Addr}{fd:FuncData}{ps:List Str}{m:List D→Res D}{x:Str}{p pos:Pos}{e:Expr}{es:List Expr}{fs:DS→Res (List D)}(F:FnOk X.prog X.w X.K X.mg X.base CX k f fd ps (freshSp X.K n m))(hr:Room k X.A)(hg:Gl X x)(hm:X.mg x=some (.ref f))(hk:W.keepIn X.K (.ref f)=true)(hb:Binds X.K fd ps [])(hx:cv CX X E)
  (ha:j0 X E (e :: es) fs) (hdb:(x == ("__debug__" :Str))=false:=by decide) (he:starEach (e :: es) X.env=(false,eval e X.env) :: starEach es X.env:=by rfl) (hpl:(backTo pos (starEach es X.env)).any (·.1)=false:=by rfl) :
  PN X E n (.Call (.Name x p) (e :: es) [] pos) (bv fs m):=
 .tn (sY F hr hg hm hk hb .nil hx (g_ ha) hdb he hpl) fun B G H b Q L l I k=>⟨G,b,L,l,I.fst,fun g T t q U s z=>⟨g,q,s.gh,by rw [List.append_nil]; exact z,I.snd T s.hh,fun d r v c O S Y o w=>k d (ao T r) v c O S (s.trans Y) o ⟨w.1,fun a ha=>⟨s.hh.free (w.2 a ha).1,(w.2 a ha).2⟩⟩⟩⟩
theorem tu {e:Expr}{p pos:Pos}{f:DS→Res D}(h:PD X E e f)(hg:Gl X "list")(hm:X.mg "list" =none)(he:starEach [e] X.env=(false,eval e X.env) :: starEach [] X.env:=by rfl):PN X E 1 (.Call (.Name "list" p) [e] [] pos) (bv (fun ρ=>(f ρ).bind fun d=> .ok [d]) dQ):=by
 have j:j0 X E [e] (fun ρ=>(f ρ).bind fun d=> .ok [d]):=aa h ag he
 refine .tn (eH (x:= "list") (p:=p) (pos:=pos) jx hg hm ll (g_ j) (by decide) (by decide) he rfl) fun B G H ρ Q L m F k=>⟨G,ρ,L,m,F.fst,fun n T t u S s z=> ?_⟩
 have I:=F.snd T s.hh
 have J:bv (fun ρ=>(f ρ).bind fun d=> .ok [d]) dQ ρ=dQ n:=by show ((f ρ).bind fun d=>Res.ok [d]).bind dQ=_; rw [T]; rfl
 unfold dQ at I
 split at I
 ·obtain ⟨v,r,rfl,y,g⟩:=z.inv
  rw [g.inv0]
  rw [rep_lst] at y
  obtain ⟨q,i,rfl,sq,y⟩:=y
  refine ⟨q,i,rfl,.inl (s.gh.seq sq.sq),fun l N=> ?_⟩
  obtain ⟨x,o,w⟩:=kl s N y
  exact k _ J _ _ _ _ x o w
 ·obtain ⟨v,r,rfl,y,g⟩:=z.inv
  rw [g.inv0]
  rw [rep_tup] at y
  obtain ⟨q,i,rfl,sq,y⟩:=y
  refine ⟨q,i,rfl,.inr (s.gh.seqT sq),fun l N=> ?_⟩
  obtain ⟨x,o,w⟩:=kl s N y
  exact k _ J _ _ _ _ x o w
 ·exact I.elim
theorem PZ.zero {e:Expr}{f:DS→Res D}(h:PZ X E μ n e f):PZ X E μ 0 e f:=by
 intro A s M Ge B G H l k I R F
 refine aO (h A s M Ge B G H l k I R F) fun u V j=> ?_
 obtain ⟨d,e,v,c,O,S,x,m,C,g,J,o,w⟩:=j
 have y:∀ b,Decidable (b∈S):=fun b=>Classical.propDecidable _
 have P:Same c (fun b=>if b∈S then O b else c b):=fun b u e=>by
  show (if b∈S then O b else c b)=some u
  by_cases q:b∈S
  ·rw [(w.2 b q).2] at e; cases e
  ·rw [if_neg q]; exact e
 have Z:Rep X.K (fun b=>if b∈S then O b else c b) d v:=o.rep P fun a L u e=>by
  show (if a∈S then O a else c a)=some u
  rw [if_pos L]; exact e
 refine ⟨d,e,v,fun b=>if b∈S then O b else c b,O,[],x,m,⟨fun b u e=> ?_,C.eg.trans P,C.bh,fun b u e=> ?_,fun i a e=> ?_,C.ob,C.oc,C.nd,C.dj,fun i d e=> ?_⟩,g.trans P,J,⟨rfl,Z⟩,.nil⟩
 ·have e:(if b∈S then O b else c b)=some u:=e
  by_cases q:b∈S
  ·rw [if_pos q] at e; exact e
  ·rw [if_neg q] at e; exact C.gh b u e
 ·have e:(if b∈S then O b else c b)=some u:=e
  by_cases q:b∈S
  ·exact .inr (.inl (R.bh.free (w.2 b q).1))
  ·rw [if_neg q] at e; exact C.nw b u e
 ·show (if a∈S then O a else c a)=none
  rw [if_neg (fun z=>R.apart w i a z e)]
  exact C.gf i a e
 ·obtain ⟨v,N,W⟩:=C.sl i d e
  exact ⟨v,N,W.mono P fun a _ o p=>p⟩
theorem jG {ρ:DS}:cR [] ρ=ρ:=by
 unfold cR
 apply List.ext_getElem?
 intro i
 rw [List.getElem?_mapIdx]
 cases ρ[i]? <;> simp
theorem aJ {e:Expr}{f:DS→Res D}(h:PN X E n e f):PZ X E [] n e f:=by
 have:=aB (μ:=[]) h
 unfold cE at this
 simp only [jG] at this
 exact this
theorem kA {tg iter:Expr}{fi:DS→Res (List D)}(h:PI X tg iter (tDI X.K E fi)):PI X tg iter (tZI X.K E [] fi):=by
 have:=pj (μ:=[]) h
 unfold Cu at this
 simp only [jG] at this
 exact this
theorem tt {st:Stmt}{i:Nat}{x:Str}{te:TE}{f:DS→Res D}(hi:X.N[i]?=some x)(hps:PS X st (qG te (cc i)))(t:TN X.K E n f te)(hm:μ.getD i 0=n):j1 X E μ r st (aQ i (cE μ f)):=by
 intro A s C Ge B G H c h I R F
 have l:i < C.length:=by rw [I.len]; exact (dZ hi).1
 refine aO (hps A s C H { nx:=fun M O=>∃ d v b S,cE μ f c= .ok d∧M=C.set i (some v)∧Rw X.K μ Ge B b O C c h∧Same G b∧Ow X.K b O n d v S∧New H b S,bk:=fun _ _=>False,ct:=fun _ _=>False,rt:=fun _ _=>False } I (t C G H (cR μ c) _ R.gh R.rof (F.res.le R.bh) fun d e v b O S x o w=>(rk d v b S e rfl (R.growF x) x.gg o w))) fun P Q q=> ?_
 ·cases P with
  | next=>
   obtain ⟨M,O,J,d,v,b,S,e,y,L,g,o,w⟩:=q
   subst y
   rw [← hm] at o
   exact ⟨_,_,b,O,_,aZ e,J,L.put l o w.1 (fun a z=>⟨(w.2 a z).2,R.bh.free (w.2 a z).1⟩) (fun j _=>R.apart w j),g⟩
  | brk=>obtain ⟨_,_,_,q⟩:=q; exact q.elim
  | cont=>obtain ⟨_,_,_,q⟩:=q; exact q.elim
  | ret u=>obtain ⟨_,_,_,_,_,q⟩:=q; exact q.elim
end
theorem TN.freeze {K:W.Frag}{E:XK}{n:Nat}{f:DS→Res D}{te:TE}(t:TN K E n f te):TN K E 0 f te:=fun B G H a Q L P F k=>t B G H a Q L P F fun d e v b O S x o w=>by
 refine dr (x.freeze L w o) fun p u _ Z=> ?_
 exact k d e v p O [] u ⟨rfl,Z⟩ .nil
noncomputable def GC (K:W.Frag)(n:Nat)(g:TG)(asg:D→DS→Option DS):Prop:=
 ∀ (G H:Hp) (σ:St) (ρ ρ':DS) (v:V) (d:D),σ.length=n→Same G H→Ro K G σ ρ→Rep K G d v→asg d ρ=some ρ'→g v σ H fun σ' H'=>H'=H∧Ro K G σ' ρ'
theorem sN {K:W.Frag}{n j:Nat}(hj:j < n):GC K n (cc j) (bD j):=by
 intro G H B a S v d N L R h e
 cases e
 exact ⟨rfl,R.set (by rw [N]; exact hj) h⟩
theorem AH {K:W.Frag}{n j k:Nat}(hj:j < n)(hk:k < n):GC K n (ub K 2 (il (cc j) (il (cc k) ua))) (iR j k):=by
 intro G H B g S v d N L R h e
 unfold iR at e
 split at e
 ·rename_i a b
  cases e
  rw [rep_tup] at h
  refine cps fun PP I=> ?_
  obtain ⟨p,f,rfl,t,c⟩:=h
  obtain ⟨x,q,rfl,z,c⟩:=c.inv
  obtain ⟨y,q,rfl,w,c⟩:=c.inv
  refine I ?_; clear I PP
  have:=c.inv0; subst this
  have R2:=(R.set (j:=j) (by rw [N]; exact hj) z).set (j:=k) (by rw [List.length_set,N]; exact hk) w
  exact ⟨p,[x,y],rfl,(show TpS K H p _ from ⟨L _ _ t.h⟩).sq,rfl,x,[y],rfl,y,[],rfl,rfl,rfl,R2⟩
 ·cases e
theorem qi {K:W.Frag}{caps:List (Option Nat)}{i j:Nat}(hi:caps[i]?=some none)(hj:caps[j]?=some none):jv caps (ub K 2 (il (cc i) (il (cc j) ua))):=fun x f H Q q=>by
 refine Ej (q) fun a d T sq N B U t D l e u q=> ?_
 refine (CJ a d T sq N B U t D l e u q (by simp) (fun k m v O A=> ?_))
 have o:k≠i:=fun z=>by rw [z,hi] at O; cases O
 have n:k≠j:=fun z=>by rw [z,hj] at O; cases O
 rw [List.getElem?_set_ne (Ne.symm n),List.getElem?_set_ne (Ne.symm o)]
 exact A
noncomputable def mG {α:Type}(asg:D→DS→Option DS)(ρ:DS)(f:DS→Res α)(d:D):Res α:=match asg d ρ with
 | some ρ'=>f ρ'
 | none=> .bad
noncomputable def bc (fi:DS→Res (List D))(caps:List (Option Nat))(asg:D→DS→Option DS)(ft:DS→Res Bool)(fe:DS→Res D):DS→Res D:=fun ρ=>(fi ρ).bind fun ds=>if aN ds.length=true then
 (bG (mG asg (cI caps ρ) ft) (mG asg (cI caps ρ) fe) ds).bind fun es=> .ok (.lst es) else .bad
theorem j5 {t:D→Res Bool}{f:D→Res D}{c:Addr}:∀ (l:List D),bG t f l≠ .exc c
 | []=>fun z=>by unfold bG at z; cases z
 | a :: as=>fun z=>by
  unfold bG at z
  split at z
  ·split at z
   ·cases q:bG t f as with
    | bad=>rw [q] at z; cases z
    | ok x=>rw [q] at z; cases z
    | exc v=>rw [q] at z; have z':Res.exc v=Res.exc c:=z; cases z'; exact j5 as q
   ·cases z
  ·exact j5 as z
  ·cases z
theorem gB {t:D→Res Bool}{f:D→Res D}{d:D}{o:List D}(hd:bG t f [d]= .ok o):∀ {as es:List D},bG t f as= .ok es→bG t f (as ++ [d])= .ok (es ++ o)
 | [],es,h=>by unfold bG at h; cases h; exact hd
 | a :: as,es,h=>by
  rw [List.cons_append]
  unfold bG at h ⊢
  split at h
  ·rename_i z
   split at h
   ·rename_i E K
    cases q:bG t f as with
    | bad=>rw [q] at h; cases h
    | exc c=>rw [q] at h; cases h
    | ok u=>
     rw [q] at h
     have h':Res.ok (E :: u)=Res.ok es:=h
     cases h'
     rw [gB hd q]; rfl
   ·cases h
  ·exact gB hd h
  ·cases h
section
variable{X:Cx}{E:XK}{n:Nat}
theorem ph {K:W.Frag}{caps:List (Option Nat)}{g:TG}{asg:D→DS→Option DS}{fi:DS→Res (List D)}{ft:DS→Res Bool}{fe:DS→Res D}(hg:GC K caps.length g asg)(hgm:∀ x σ H (Q Q':St→Hp→Prop),(∀ σ' H',Q σ' H'→Q' σ' H')→g x σ H Q→g x σ H Q') :
  TN K E (n+1) (bc fi caps asg ft fe) (wR (tDI K E fi) caps g (tDT K pq ft) (tN K pq n fe)):=by
 intro σ G H j Q hs hro X k
 refine ⟨G,j,hs,hro,X.fst,fun h e J G1 H1 x1 src=> ?_⟩
 have kk:=X.snd e x1.hh
 by_cases hl:aN h.length=true
 ·rw [if_pos hl] at kk
  cases hm:bG (mG asg (cI caps j) ft) (mG asg (cI caps j) fe) h with
  | bad=>rw [hm] at kk; exact kk.elim
  | exc c=>exact absurd hm (j5 h)
  | ok es=>
   have hres:bc fi caps asg ft fe j= .ok (.lst es):=ao e (by rw [if_pos hl]; exact ao hm rfl)
   refine ⟨fun i m ys H2=>m=h.length - i∧i≤h.length∧∃ B l S,Ext G1 H1 B H2∧bG (mG asg (cI caps j) ft) (mG asg (cI caps j) fe) (h.take i)= .ok l∧AllW (Ow K B H2 n) l ys S∧New H1 B S,
    (CK _ rfl (Nat.zero_le _) G1 ([]) ([]) (.refl x1.gh) rfl ⟨rfl,rfl⟩ .nil),?_⟩
   intro i m ys H2 hZ22
   refine FH (hZ22) fun R hi B l S T r C w1=> ?_; subst R
   have M:ys.length≤sizeLine:=by
    have h1:=j6 r
    rw [List.length_take] at h1
    have h2:=bY hl
    rw [← C.length]; omega
   obtain ⟨sg,ss⟩:=src B H2 T.gg T.gh i
   by_cases O:i < h.length
   ·obtain ⟨go,yl⟩:=sg h[i] (by simp [O])
    have L:h=h.take i ++ (h[i] :: h.drop (i+1)):=by rw [List.getElem_cons_drop,List.take_append_drop]
    refine .inr (lS go (fun ys' H'=>∃ B l S,Ext G1 H1 B H'∧bG (mG asg (cI caps j) ft) (mG asg (cI caps j) fe) (h.take (i+1))= .ok l∧AllW (Ow K B H' n) l ys' S∧New H1 B S) (fun ys' H' N=>(by refine f_ (N) fun G3 es3 S3 a b c d=> ?_; exact (CM (h.length - (i+1)) (by omega) rfl O G3 es3 S3 a b c d))) (fun x H' hy=> ?_))
    obtain ⟨G3,Y,rx⟩:=yl x H' hy
    have htk:h.take (i+1)=h.take i ++ [h[i]]:=by rw [List.take_add_one]; simp [O]
    have hm2:=hm
    rw [L] at hm2
    refine bL (j4 hm2) fun ea eb q1 u q3=> ?_
    rw [r] at q1; cases q1
    have hcl:(eO caps σ).length=caps.length:=by simp [eO]
    unfold bG at u
    have ht0:∃ b,mG asg (cI caps j) ft h[i]= .ok b:=by
     cases w:mG asg (cI caps j) ft h[i] with
     | bad=>rw [w] at u; cases u
     | exc c=>rw [w] at u; cases u
     | ok b=>exact ⟨b,rfl⟩
    obtain ⟨b,w⟩:=ht0
    rw [w] at u
    cases qa:asg h[i] (cI caps j) with
    | none=>unfold mG at w; rw [qa] at w; cases w
    | some s=>
    have ht2:ft s= .ok b:=by unfold mG at w; rw [qa] at w; exact w
    refine hgm _ _ _ _ _ (fun σ2 H3 P=> ?_) (hg G3 H' _ _ s x h[i] hcl Y.gh (xw (hro.mono ((x1.gg.trans T.gg).trans Y.gg))) rx qa)
    obtain ⟨e3,ro3⟩:=P
    subst e3
    refine ⟨G3,s,Y.gh,ro3,by rw [ht2]; trivial,fun b' eb' G4 H4 x4=> ?_⟩
    rw [ht2] at eb'
    cases eb'
    have x24:=(T.trans Y).trans x4
    have I:=Y.trans x4
    have F:AllW (Ow K G4 H4 n) l ys S:=C.mono fun d v A _ _ z=>z.mono I.gg fun a _ o U=>I.hh a o U
    have w4:New H1 G4 S:=w1.step C.has I
    cases b with
    | false=>
     rw [if_neg Bool.false_ne_true]
     refine (iM G4 l S x24 ?_ F w4)
     rw [htk]
     have:=gB (t:=mG asg (cI caps j) ft) (f:=mG asg (cI caps j) fe) (d:=h[i]) (o:=[]) (by unfold bG; rw [w]; rfl) r
     rw [List.append_nil] at this
     exact this
    | true=>
     rw [if_pos rfl]
     dsimp only at u
     have V:mG asg (cI caps j) fe h[i]=fe s:=by unfold mG; rw [qa]
     refine ⟨M,G4,s,x4.gh,ro3.mono x4.gg,?_,fun y ey v G5 H5 S5 x5 ry w5=> ?_⟩
     ·rw [V] at u
      cases hf:fe s with
      | ok y=>trivial
      | exc c=>rw [hf] at u; cases u
      | bad=>rw [hf] at u; cases u
     ·refine (iM G5 (l ++ [y]) (S ++ S5) (x24.trans x5) ?_ ((F.mono fun d v A _ _ z=>z.mono x5.gg fun a _ o U=>x5.hh a o U).append (.one ry)) ((w4.step F.has x5).join w5 F.has (T.hh.trans I.hh)))
      rw [htk]
      exact gB (by unfold bG; rw [w,V,ey]; rfl) r
   ·have hie:i=h.length:=by omega
    subst hie
    rw [List.take_length,hm] at r
    cases r
    refine .inl ⟨ss (Nat.le_refl _),M,fun p Z=> ?_⟩
    have x12:=x1.trans T
    refine k _ hres (.ref p) B _ (p :: S) (x12.hnew Z _) (iM p ys S rfl az rfl (C.mono fun d v A _ hA z=>z.mono (.refl _) fun a ha o U=>by rw [am (aw U Z)]; exact U)) ⟨List.nodup_cons.mpr ⟨fun z=> ?_,w1.1⟩,fun a ha=> ?_⟩
    ·obtain ⟨o,X,_⟩:=C.has p z; rw [Z] at X; cases X
    ·rcases List.mem_cons.mp ha with z | z
     ·subst z
      exact ⟨x12.hh.free Z,by
       cases q:B a with
       | none=>rfl
       | some o=>rw [T.gh a o q] at Z; cases Z⟩
     ·exact ⟨x1.hh.free (w1.2 a z).1,(w1.2 a z).2⟩
 ·rw [if_neg hl] at kk; exact kk.elim
theorem sP {j:Nat}:∀ x σ H (Q Q':St→Hp→Prop),(∀ σ' H',Q σ' H'→Q' σ' H')→cc j x σ H Q→cc j x σ H Q':=fun _ _ _ _ _ k h=>k _ _ h
theorem AJ {K:W.Frag}{j i:Nat}:∀ x σ H (Q Q':St→Hp→Prop),(∀ σ' H',Q σ' H'→Q' σ' H')→ub K 2 (il (cc j) (il (cc i) ua)) x σ H Q→ub K 2 (il (cc j) (il (cc i) ua)) x σ H Q':=fun _ _ _ _ _ k h=>by
 refine Ej (h) fun a e T sq N B U t D l d u q=> ?_
 exact (CN a e T sq N B U t D l d u (k _ _ q))
theorem cf {elt iter:Expr}{ifs:List Expr}{x:Str}{px pos:Pos}{scope:Scope}{N:List Str}{caps:List (Option Nat)}{j:Nat}{fi:DS→Res (List D)}{ft:DS→Res Bool}{fe:DS→Res D}(hc:X.calm=true)(S:CompSc X scope N caps)(hjN:N[j]?=some x)(hjc:caps[j]?=some none)(hjl:scope.names.lookup x=some .local)
  (hi:PI X (.Name x px) iter (tDI X.K E fi)) (ht:∀ s H C ex,xg (X.comp s H scope C N ex) pq ifs ft) (he:∀ s H C ex,PN (X.comp s H scope C N ex) pq n elt fe)
  (hs:∀ x,foldedSetIterable iter X.env x=pure x:=by intro _; rfl):PN X E (n+1) (.ListComp elt [⟨.Name x px,iter,ifs,0⟩] scope pos) (bc fi caps (bD j) ft fe):=
 have u:=lookup_relabel_local (env:=X.env) hjl
 .tn (s0 (pos:=pos) (te:=tN X.K pq n fe) (tc:=tDT X.K pq ft) hc S hi (fun s H C ex=>fA (X:=X.comp s H scope C N ex) (i:=j) S.nd hjN (.inl u) (.inr u)) (jN hjc) (fun s H C ex=>ht s H C ex) (fun s H C ex=>yH (he s H C ex)) hs)
  (ph (sN (dZ hjc).1) sP)
theorem wy {elt iter:Expr}{ifs:List Expr}{x y:Str}{px py pt pos:Pos}{kt:Nat}{scope:Scope}{N:List Str}{caps:List (Option Nat)}{j l:Nat}{fi:DS→Res (List D)}{ft:DS→Res Bool}{fe:DS→Res D}(hc:X.calm=true)(S:CompSc X scope N caps)(hjN:N[j]?=some x)(hlN:N[l]?=some y)(hjc:caps[j]?=some none)(hlc:caps[l]?=some none)(hjl:scope.names.lookup x=some .local)(hll:scope.names.lookup y=some .local)
  (hi:PI X (.Tuple [.Name x px,.Name y py] kt pt) iter (tDI X.K E fi)) (ht:∀ s H C ex,xg (X.comp s H scope C N ex) pq ifs ft) (he:∀ s H C ex,PN (X.comp s H scope C N ex) pq n elt fe)
  (hs:∀ x,foldedSetIterable iter X.env x=pure x:=by intro _; rfl):PN X E (n+1) (.ListComp elt [⟨.Tuple [.Name x px,.Name y py] kt pt,iter,ifs,0⟩] scope pos) (bc fi caps (iR j l) ft fe):=
 have u:=lookup_relabel_local (env:=X.env) hjl
 have hlb':=lookup_relabel_local (env:=X.env) hll
 .tn (s0 (pos:=pos) (te:=tN X.K pq n fe) (tc:=tDT X.K pq ft) hc S hi (fun s H C ex=>wl (X:=X.comp s H scope C N ex) hc (jP (fA (X:=X.comp s H scope C N ex) (i:=j) S.nd hjN (.inl u) (.inr u)) (jP (fA (X:=X.comp s H scope C N ex) (i:=l) S.nd hlN (.inl hlb') (.inr hlb')) s_))) (qi hjc hlc) (fun s H C ex=>ht s H C ex) (fun s H C ex=>yH (he s H C ex)) hs)
  (ph (AH (dZ hjc).1 (dZ hlc).1) AJ)
theorem jQ {elt iter:Expr}{ifs:List Expr}{x y:Str}{px py pos spos:Pos}{scope:Scope}{N:List Str}{caps:List (Option Nat)}{i j:Nat}{fi:DS→Res (List D)}{ft:DS→Res Bool}{fe:DS→Res D}(hN:X.N.Nodup)(hi:X.N[i]?=some y)(hy:X.env.scope.names.lookup y=some .local)(hc:X.calm=true)(S:CompSc X scope N caps)(hjN:N[j]?=some x)(hjc:caps[j]?=some none)(hjl:scope.names.lookup x=some .local)
  (hit:PI X (.Name x px) iter (tDI X.K E fi)) (ht:∀ s H C ex,xg (X.comp s H scope C N ex) pq ifs ft) (he:∀ s H C ex,PN (X.comp s H scope C N ex) pq n elt fe)
  (hsw:swapsWith (.ListComp elt [⟨.Name x px,iter,ifs,0⟩] scope pos) (some (.Name y py)) spos.line X.env=pure true:=by rfl)
  (hs:∀ x,foldedSetIterable iter X.env x=pure x:=by intro _; rfl):∃ te,PS X (.Assign [.Name y py] (.ListComp elt [⟨.Name x px,iter,ifs,0⟩] scope pos) spos) (qG te (cc i))∧TN X.K E (n+1) (bc fi caps (bD j) ft fe) te:=
 have u:=lookup_relabel_local (env:=X.env) hjl
 ⟨_,rS (pos:=pos) (py:=py) (spos:=spos) (te:=tN X.K pq n fe) (tc:=tDT X.K pq ft) hN hi hy hc S hit (fun s H C ex=>fA (X:=X.comp s H scope C N ex) (i:=j) S.nd hjN (.inl u) (.inr u)) (jN hjc) (fun s H C ex=>ht s H C ex) (fun s H C ex=>yH (he s H C ex)) hsw hs,
  ph (sN (dZ hjc).1) sP⟩
end
section
variable{K:W.Frag}{μ:List Nat}{Ge B G H:Hp}{σ:St}{ρ:DS}{fp:Nat→List Addr}{j n:Nat}
noncomputable def uP (B G:Hp)(fp:Nat→List Addr)(S:List Addr):Prop:=∀ b∈S,(G b=none∧B b=none)∧∀ i,b∉fp i
theorem Rw.top {l:List D}(R:Rw K μ Ge B G H σ ρ fp)(hr:ρ[j]?=some (some (.lst l)))(hm:μ.getD j 0=n+1):∃ a xs T,σ[j]?=some (some (.ref a))∧H a=some (.lst xs)∧fp j=a :: T∧AllW (Ow K G H n) l xs T:=by
 obtain ⟨v,z,o⟩:=R.sl j _ hr
 rw [hm] at o
 refine f_ (o) fun a xs T U t d h=> ?_
 subst U
 exact (iM a xs T z t d h)
theorem Rw.relist {l':List D}{a:Addr}{ys:List V}{T T':List Addr}(R:Rw K μ Ge B G H σ ρ fp)(hm:μ.getD j 0=n+1)(hv:σ[j]?=some (some (.ref a)))(hf:fp j=a :: T)(o:AllW (Ow K G (bu H a (.lst ys)) n) l' ys T')(nd:T'.Nodup)(hT:∀ b∈T',b∈T∨((G b=none∧B b=none)∧∀ i,b∉fp i)):Rw K μ Ge B G (bu H a (.lst ys)) σ (ρ.set j (some (.lst l'))) (fun i=>if i=j then a :: T' else fp i):=by
 have x:=R.nd j
 rw [hf] at x
 have A:a∉T:=(List.nodup_cons.mp x).1
 have v:a∈fp j:=by rw [hf]; exact List.mem_cons_self ..
 have inT:∀ b∈T,b∈fp j:=fun b u=>by rw [hf]; exact dt u
 refine R.write v hv (by rw [hm]; exact (iM a ys T' rfl az rfl o)) (List.nodup_cons.mpr ⟨fun z=> ?_,nd⟩) (fun b u=> ?_) fun i g b u w=> ?_
 ·rcases hT a z with y | y
  ·exact A y
  ·exact y.2 j v
 ·rcases List.mem_cons.mp u with z | z
  ·subst z; exact ⟨R.gf j _ v,R.ob j _ v⟩
  ·rcases hT b z with y | y
   ·exact ⟨R.gf j _ (inT b y),R.ob j _ (inT b y)⟩
   ·exact y.1
 ·rcases List.mem_cons.mp u with z | z
  ·subst z; exact g (R.dj i j _ w v)
  ·rcases hT b z with y | y
   ·exact g (R.dj i j _ w (inT b y))
   ·exact y.2 i w
theorem Rw.app1 {l:List D}{d:D}{v:V}{S T:List Addr}{a:Addr}{xs:List V}(R:Rw K μ Ge B G H σ ρ fp)(hm:μ.getD j 0=n+1)(hv:σ[j]?=some (some (.ref a)))(hH:H a=some (.lst xs))(hf:fp j=a :: T)(h:AllW (Ow K G H n) l xs T)(o:Ow K G H n d v S)(nd:S.Nodup)(hS:uP B G fp S):Rw K μ Ge B G (bu H a (.lst (xs ++ [v]))) σ (ρ.set j (some (.lst (l ++ [d])))) (fun i=>if i=j then a :: (T ++ S) else fp i):=by
 have x:=R.nd j
 rw [hf] at x
 have y:a∈fp j:=by rw [hf]; exact List.mem_cons_self ..
 have inT:∀ b∈T,b∈fp j:=fun b w=>by rw [hf]; exact dt w
 have C:∀ b,b∈T→b≠a:=fun b w z=>(List.nodup_cons.mp x).1 (z ▸ w)
 have E:∀ b,b∈S→b≠a:=fun b w z=>(hS b w).2 j (z ▸ y)
 have k:AllW (Ow K G (bu H a (.lst (xs ++ [v]))) n) l xs T:=h.mono fun d v A _ Z z=>z.mono (.refl _) fun b w u e=>by
  rw [am (C b (Z b w))]; exact e
 have q:Ow K G (bu H a (.lst (xs ++ [v]))) n d v S:=o.mono (.refl _) fun b w u e=>by
  rw [am (E b w)]; exact e
 exact R.relist hm hv hf (k.append (.one q)) (List.nodup_append.mpr ⟨(List.nodup_cons.mp x).2,nd,fun b w c f e=>by subst e; exact (hS b f).2 j (inT b w)⟩) fun b w=>(List.mem_append.mp w).imp id (hS b)
theorem AllW.subs {P:D→V→List Addr→Prop}{ds:List D}{vs:List V}{S A L R:List Addr}(e:S=L ++ A ++ R):(∀ b∈L,b∈S)∧(∀ b∈A,b∈S)∧∀ b∈R,b∈S:=by
 subst e
 exact ⟨fun b h=>List.mem_append_left _ (List.mem_append_left _ h),fun b h=>List.mem_append_left _ (List.mem_append_right _ h),fun b h=>List.mem_append_right _ h⟩
theorem ki {A A' L R:List Addr}(h:(L ++ A ++ R).Nodup)(nd:A'.Nodup)(hA:∀ b∈A',b∈A∨(b∉L∧b∉R)):(L ++ A' ++ R).Nodup:=by
 refine cps fun PP G=> ?_
 obtain ⟨c,d,C⟩:=List.nodup_append.mp h
 obtain ⟨E,M,D⟩:=List.nodup_append.mp c
 refine G ?_; clear G PP
 refine List.nodup_append.mpr ⟨List.nodup_append.mpr ⟨E,nd,fun a B b u e=> ?_⟩,d,fun a B b u e=> ?_⟩
 ·subst e
  rcases hA a u with z | z
  ·exact D a B a z rfl
  ·exact z.1 B
 ·subst e
  rcases List.mem_append.mp B with z | z
  ·exact C a (List.mem_append_left _ z) a u rfl
  ·rcases hA a z with y | y
   ·exact C a (List.mem_append_right _ y) a u rfl
   ·exact y.2 u
theorem Rw.set1 {l:List D}{d d0:D}{v:V}{S T:List Addr}{a:Addr}{xs:List V}{m:Nat}(R:Rw K μ Ge B G H σ ρ fp)(hm:μ.getD j 0=n+1)(hv:σ[j]?=some (some (.ref a)))(hH:H a=some (.lst xs))(hf:fp j=a :: T)(h:AllW (Ow K G H n) l xs T)(hl:l[m]?=some d0)(o:Ow K G H n d v S)(nd:S.Nodup)(hS:uP B G fp S):∃ fp',Rw K μ Ge B G (bu H a (.lst (xs.set m v))) σ (ρ.set j (some (.lst (l.set m d)))) fp':=by
 have E:=R.nd j
 rw [hf] at E
 have I:a∈fp j:=by rw [hf]; exact List.mem_cons_self ..
 have inT:∀ b∈T,b∈fp j:=fun b x=>by rw [hf]; exact dt x
 have M:∀ b,b∈T→b≠a:=fun b x z=>(List.nodup_cons.mp E).1 (z ▸ x)
 have N:∀ b,b∈S→b≠a:=fun b x z=>(hS b x).2 j (z ▸ I)
 refine lh (h.at hl) fun w A L Q X O q p=> ?_
 obtain ⟨sL,Y,J⟩:=AllW.subs (P:=Ow K G H n) (ds:=l) (vs:=xs) O
 have U:=(List.nodup_cons.mp E).2
 rw [O] at U
 have F:=p (Ow K G (bu H a (.lst (xs.set m v))) n) (fun d v C W z=>z.mono (.refl _) fun b x u e=>by rw [am (M b ((W b x).elim (sL b) (J b)))]; exact e) d v S (o.mono (.refl _) fun b x u e=>by rw [am (N b x)]; exact e)
 refine ⟨_,R.relist hm hv hf F (ki U nd fun b x=> .inr ⟨fun z=>(hS b x).2 j (inT b (sL b z)),fun z=>(hS b x).2 j (inT b (J b z))⟩) fun b x=> ?_⟩
 rcases List.mem_append.mp x with z | z
 ·rcases List.mem_append.mp z with y | y
  ·exact .inl (sL b y)
  ·exact .inr (hS b y)
 ·exact .inl (J b z)
theorem Rw.row {l row':List D}{row:List D}{T:List Addr}{a:Addr}{xs ys':List V}{m:Nat}(R:Rw K μ Ge B G H σ ρ fp)(hm:μ.getD j 0=n+2)(hv:σ[j]?=some (some (.ref a)))(hH:H a=some (.lst xs))(hf:fp j=a :: T)(h:AllW (Ow K G H (n+1)) l xs T)(hl:l[m]?=some (.lst row)) :
  ∃ b ys U,xs[m]?=some (.ref b)∧H b=some (.lst ys)∧AllW (Ow K G H n) row ys U∧U.Nodup∧b∉U∧b∈fp j∧(∀ c∈U,c∈fp j)∧
   ∀ U',AllW (Ow K G (bu H b (.lst ys')) n) row' ys' U'→U'.Nodup→(∀ c∈U',c∈U∨((G c=none∧B c=none)∧∀ i,c∉fp i))→∃ fp',Rw K μ Ge B G (bu H b (.lst ys')) σ (ρ.set j (some (.lst (l.set m (.lst row'))))) fp':=by
 have S:=R.nd j
 rw [hf] at S
 have x:a∈fp j:=by rw [hf]; exact List.mem_cons_self ..
 have inT:∀ b∈T,b∈fp j:=fun b hb=>by rw [hf]; exact dt hb
 refine cps fun PP t=> ?_
 obtain ⟨W,g⟩:=List.nodup_cons.mp S
 refine lh (h.at hl) fun w A L Q Y g2 g3 g4=> ?_
 obtain ⟨sL,X,sR⟩:=AllW.subs (P:=Ow K G H (n+1)) (ds:=l) (vs:=xs) g2
 refine f_ (g3) fun b ys U e1 e2 q h5=> ?_
 subst e1
 have p:=g
 rw [g2] at p
 obtain ⟨h1,h2,h3⟩:=List.nodup_append.mp p
 obtain ⟨h4,Z,h6⟩:=List.nodup_append.mp h1
 refine t ?_; clear t PP
 have hA0:=Z
 rw [q] at Z
 have F:b∈A:=by rw [q]; exact List.mem_cons_self ..
 have O:∀ c∈U,c∈A:=fun c f=>by rw [q]; exact dt f
 have M:b∈fp j:=inT b (X b F)
 refine (CO b ys U Y e2 h5 ((List.nodup_cons.mp Z).2) ((List.nodup_cons.mp Z).1) M (fun c f=>inT c (X c (O c f))) (fun U' o nd hU=> ?_))
 have r:a≠b:=fun z=>W (z ▸ X b F)
 have s:∀ c,c∈L∨c∈Q→c≠b:=fun c f z=>by
  subst z
  rcases f with y | y
  ·exact h6 c y c F rfl
  ·exact h3 c (List.mem_append_right _ F) c y rfl
 have N:xs.set m (.ref b)=xs:=by
  apply List.ext_getElem?
  intro k
  by_cases hk:k=m
  ·subst hk; rw [List.getElem?_set_self (dZ Y).1,Y]
  ·rw [List.getElem?_set_ne (Ne.symm hk)]
 have E:=g4 (Ow K G (bu H b (.lst ys')) (n+1)) (fun d v C hC z=>z.mono (.refl _) fun c f u e=>by rw [am (s c (hC c f))]; exact e) (.lst row') (.ref b) (b :: U') (iM b ys' U' rfl az rfl o)
 rw [N] at E
 have ndA':(b :: U').Nodup:=List.nodup_cons.mpr ⟨fun z=>by
  rcases hU b z with y | y
  ·exact (List.nodup_cons.mp Z).1 y
  ·exact y.2 j M,nd⟩
 have okA':∀ c∈b :: U',c∈A∨((G c=none∧B c=none)∧∀ i,c∉fp i):=fun c f=>by
  rcases List.mem_cons.mp f with z | z
  ·subst z; exact .inl F
  ·exact (hU c z).imp (O c) id
 have I:∀ c∈L ++ (b :: U') ++ Q,c∈T∨((G c=none∧B c=none)∧∀ i,c∉fp i):=fun c f=>by
  rcases List.mem_append.mp f with z | z
  ·rcases List.mem_append.mp z with y | y
   ·exact .inl (sL c y)
   ·exact (okA' c y).imp (X c) id
  ·exact .inl (sR c z)
 refine ⟨_,R.write M hv (by rw [hm]; exact (iM a xs (L ++ (b :: U') ++ Q) rfl (by rw [am r]; exact hH) rfl E)) (List.nodup_cons.mpr ⟨fun z=> ?_,ki p ndA' fun c f=>(okA' c f).imp id fun y=>⟨fun z=>y.2 j (inT c (sL c z)),fun z=>y.2 j (inT c (sR c z))⟩⟩) (fun c f=> ?_) fun i hi c f J=> ?_⟩
 ·rcases I a z with y | y
  ·exact W y
  ·exact y.2 j x
 ·rcases List.mem_cons.mp f with z | z
  ·subst z; exact ⟨R.gf j _ x,R.ob j _ x⟩
  ·rcases I c z with y | y
   ·exact ⟨R.gf j _ (inT c y),R.ob j _ (inT c y)⟩
   ·exact y.1
 ·rcases List.mem_cons.mp f with z | z
  ·subst z; exact hi (R.dj i j _ J x)
  ·rcases I c z with y | y
   ·exact hi (R.dj i j _ J (inT c y))
   ·exact y.2 i J
theorem Rw.freshOf {H0 G0:Hp}{S:List Addr}(R:Rw K μ Ge B G H σ ρ fp)(w:New H0 G S)(R0:Rw K μ Ge B G0 H0 σ ρ fp):uP B G fp S:=fun b u=>⟨⟨(w.2 b u).2,R0.bh.free (w.2 b u).1⟩,fun i=>R0.apart w i b u⟩
end
section
variable{X:Cx}{E:XK}{μ:List Nat}{r n:Nat}
noncomputable def fS (j:Nat)(f:DS→Res D):DS→Out:=fun ρ=>match ρ[j]? with
 | some (some (.lst l))=>(f ρ).out fun d=>if aN l.length=true then .nx (ρ.set j (some (.lst (l ++ [d])))) else .bad
 | _=> .bad
theorem iq {m:Nat}(h:aN m=true):m < sizeLine:=by
 have B:sizeLine=16777216:=sizeLine_eq
 have N:m≤100000:=of_decide_eq_true h
 omega
theorem eI {j:Nat}{x:Str}{e:Expr}{px apos cpos pos:Pos}{f:DS→Res D}(hm:μ.getD j 0=n+1)(hN:X.N[j]?=some x)(hv:oe X.env.scope x)(h:PZ X E μ n e f)
  (hd:(x == ("__debug__" :Str))=false:=by decide) (hcd:(x == ("__classdict__" :Str))=false:=by decide)
  (hs:starEach [e] X.env=(false,eval e X.env) :: starEach [] X.env:=by rfl)
  (hbase:attributeBase (.Name x px) "append" X.env (eval (.Name x px) X.env)=eval (.Name x px) X.env:=by rfl)
  (hfew:((backTo cpos (starEach [e] X.env)).all (fun x=> !x.1) && (backToKw cpos (keywordEach [] X.env)).all (fun x=>x.1.isSome) && decide (([e].length+([]:List Keyword).length+if ([]:List Keyword).isEmpty=true then 0 else 1) < 30))=true:=by rfl)
  (hline:(apos.endLine == cpos.line)=true:=by rfl)
  (hsw:swapsWith (.Call (.Attribute (.Name x px) "append" apos) [e] [] cpos) none pos.line X.env=pure false:=by rfl) :
  j1 X E μ r (.Expr (.Call (.Attribute (.Name x px) "append" apos) [e] [] cpos) pos) (fS j f):=by
 intro A s W Ge B G H b y I R L
 have hp:=kO (apos:=apos) (cpos:=cpos) (r:=dk) PySem.F.plainAttrs_list PySem.F.slot_list_append PySem.F.type_list_append (show xf X "list.append" dk from fX) (cx (pos:=px) hN hv hd hcd) (bq (l_ h) dh hs) hbase hfew hline hs rfl
 have J:∃ l,b[j]?=some (some (.lst l)):=by
  unfold fS at L
  split at L
  ·rename_i l q; exact ⟨l,q⟩
  ·exact L.elim
 obtain ⟨l,Q⟩:=J
 have eo:fS j f b=(f b).out fun d=>if aN l.length=true then .nx (b.set j (some (.lst (l ++ [d])))) else .bad:=by
  unfold fS
  rw [Q]
 rw [eo] at L ⊢
 refine f_ (R.top Q hm) fun a i T p c h3 h4=> ?_
 refine aO (dN hp hsw A s W H { nx:=fun M H'=>∃ d v t U S,f b= .ok d∧aN l.length=true∧M=W∧Rw X.K μ Ge B t U W b y∧Same G t∧Same H U∧Ow X.K t U n d v S∧New H t S∧H'=bu U a (.lst (i ++ [v])),bk:=fun _ _=>False,ct:=fun _ _=>False,rt:=fun _ _=>False } I ?_) fun fl s1 O=> ?_
 ·refine (iZ _ p (.inl ⟨rfl,i,.inl (.inl c)⟩) ⟨Ge,B,G,b,y,R,L.res,fun d z v t U S V g C o w=> ?_⟩)
  have k:=L.res2 z (Same.refl B)
  by_cases m:aN l.length=true
  ·exact (CP a i v rfl rfl (C _ _ c) (by rw [← h4.length]; exact iq m) d v t U S z m rfl V g C o w rfl)
  ·rw [if_neg m] at k; exact k.elim
 ·cases fl with
  | next=>
   obtain ⟨M,H',I',d,v,t,U,S,q,P,e2,V,g,C,o,w,e3⟩:=O
   subst e2 e3
   refine f_ (V.top Q hm) fun a2 xs2 T2 Z Y g3 g4=> ?_
   rw [p] at Z
   cases Z
   rw [C _ _ c] at Y
   cases Y
   refine ⟨_,_,_,_,_,?_,I',V.app1 hm p (C _ _ c) g3 g4 o w.1 (V.freshOf w R),g⟩
   rw [aZ q,if_pos P]
  | brk=>obtain ⟨_,_,_,O⟩:=O; exact O.elim
  | cont=>obtain ⟨_,_,_,O⟩:=O; exact O.elim
  | ret u=>obtain ⟨_,_,_,_,_,O⟩:=O; exact O.elim
noncomputable def oW (j:Nat)(l:List D)(ρ:DS)(d i:D):Out:=match i with
 | .int k=>(match iT l.length k with | some m=> .nx (ρ.set j (some (.lst (l.set m d)))) | none=> .bad)
 | _=> .bad
noncomputable def mx (j:Nat)(fi f:DS→Res D):DS→Out:=fun ρ=>match ρ[j]? with
 | some (some (.lst l))=>(f ρ).out fun d=>(fi ρ).out fun i=>oW j l ρ d i
 | _=> .bad
theorem New.keep {H G1 H1 G3 H3:Hp}{fp:Nat→List Addr}{S:List Addr}(w:New H G1 S)(hc:∀ a∈S,∃ o,H1 a=some o∧¬ lW o)(ha:∀ i,∀ a∈S,a∉fp i)(x:Ext (jX fp G1 H1) H1 G3 H3):New H (jZ (nu fp) G3) S:=⟨w.1,fun a h=>⟨(w.2 a h).1,by
 cases q:jZ (nu fp) G3 a with
 | none=>rfl
 | some o=>
  obtain ⟨R,j⟩:=fU q
  rcases x.nw a o j with z | z
  ·rw [lx R,(w.2 a h).2] at z; cases z
  ·obtain ⟨I,p,O⟩:=hc a h
   rcases z with z | z
   ·rw [z] at p; cases p
   ·have b:=x.gh a o j
    rw [x.hh a _ p] at b
    cases b
    exact (O z).elim⟩⟩
theorem oV {j:Nat}{x:Str}{i e:Expr}{px tpos pos:Pos}{fi f:DS→Res D}(hm:μ.getD j 0=n+1)(hN:X.N[j]?=some x)(hv:oe X.env.scope x)(hi:PD X E i fi)(h:PZ X E μ n e f)
  (hd:(x == ("__debug__" :Str))=false:=by decide) (hcd:(x == ("__classdict__" :Str))=false:=by decide)
  (ha:∀ v,assign (.Subscript (.Name x px) i tpos) X.env v=(do
   let ov ← holding [v] (eval (.Name x px) X.env)
   let iv ← holding [v,ov] (eval i X.env)
   standAt tpos
   holding [v,ov,iv] (setItem ov iv v)
   release [v,ov,iv] []):=by intro _; rfl)
  (hs:swapsWithSole [.Subscript (.Name x px) i tpos] e pos.line X.env=pure false:=by rfl) (hw:swappedStores [.Subscript (.Name x px) i tpos] e X.env=pure none:=by rfl)
  (ho1:(assignEach [.Subscript (.Name x px) i tpos] X.env).map (·.2)=[assign (.Subscript (.Name x px) i tpos) X.env]:=by rfl) :
  j1 X E μ r (.Assign [.Subscript (.Name x px) i tpos] e pos) (mx j fi f):=by
 intro A s Z Ge B G H g fp I R L
 have J:∃ l,g[j]?=some (some (.lst l)):=by
  unfold mx at L
  split at L
  ·rename_i l q; exact ⟨l,q⟩
  ·exact L.elim
 obtain ⟨l,Y⟩:=J
 have eo:mx j fi f g=(f g).out fun d=>(fi g).out fun i=>oW j l g d i:=by
  unfold mx
  rw [Y]
 rw [eo] at L ⊢
 have hp:=wB (pos:=pos) (l_ h) (wj (pos:=tpos) (cx (pos:=px) hN hv hd hcd) (dq hi) qF ha) hs hw ho1
 refine aO (hp A s Z H { nx:=fun P H'=>∃ U p F,((f g).out fun d=>(fi g).out fun i=>oW j l g d i)= .nx U∧P=Z∧Rw X.K μ Ge B p H' Z U F∧Same G p,bk:=fun _ _=>False,ct:=fun _ _=>False,rt:=fun _ _=>False } I ⟨Ge,B,G,g,fp,R,L.res,fun d ed v G1 H1 S V C sh o w=> ?_⟩) fun fl s1 O=> ?_
 ·have k:=L.res2 ed (Same.refl B)
  refine f_ (V.top Y hm) fun a xs T h1 t h3 h4=> ?_
  refine ⟨_,h1,jX fp G1 H1,g,V.vh,V.ro,k.res.le V.bh,fun di ei vi G3 H3 y ri=> ?_⟩
  have M:=k.res2 ei (Same.refl B)
  have Q:((f g).out fun d=>(fi g).out fun i=>oW j l g d i)=oW j l g d di:=by rw [aZ ed,aZ ei]
  unfold oW at M
  split at M
  ·rename_i z
   rw [rep_int] at ri
   subst ri
   cases q:iT l.length z with
   | none=>rw [q] at M; exact M.elim
   | some m=>
    have Q:=Q.trans (show oW j l g d (.int z)= .nx (g.set j (some (.lst (l.set m d)))) by unfold oW; dsimp only; rw [q])
    have hml:m < l.length:=(dM q).2.1
    have W:=V.grow y
    refine f_ (W.top Y hm) fun a2 xs2 T2 g1 g2 g3 g4=> ?_
    rw [h1] at g1
    cases g1
    rw [y.hh _ _ t] at g2
    cases g2
    have hc:∀ b∈S,∃ u,H1 b=some u∧¬ lW u:=fun b hb=>let ⟨u,e,c⟩:=o.cell b hb; ⟨u,e,c.nokey⟩
    have w3:=w.keep hc (fun i b hb=>R.apart w i b hb) y
    obtain ⟨F,R4⟩:=W.set1 (d:=d) (v:=v) hm h1 (y.hh _ _ t) g3 g4 (cS hml) (o.mono (V.gg y) fun b _ u e=>y.hh b u e) w.1 (W.freshOf w3 R)
    exact (Dl a xs z m rfl rfl (y.hh _ _ t) (by rw [← h4.length]; exact q) _ _ F Q rfl R4 (C.trans (V.gg y)))
  ·exact M.elim
 ·cases fl with
  | next=>
   obtain ⟨P,H',I',U,p,F,e1,e2,R',C⟩:=O
   subst e2
   exact ⟨U,_,p,H',F,e1,I',R',C⟩
  | brk=>obtain ⟨_,_,_,O⟩:=O; exact O.elim
  | cont=>obtain ⟨_,_,_,O⟩:=O; exact O.elim
  | ret u=>obtain ⟨_,_,_,_,_,O⟩:=O; exact O.elim
noncomputable def js (j:Nat)(l:List D)(ρ:DS)(d i:D):Out:=match i with
 | .int k=>(match iT l.length k with
  | some m=>(match l[m]? with
   | some (.lst row)=>if aN row.length=true then .nx (ρ.set j (some (.lst (l.set m (.lst (row ++ [d])))))) else .bad
   | _=> .bad)
  | none=> .bad)
 | _=> .bad
noncomputable def kv (j:Nat)(fi f:DS→Res D):DS→Out:=fun ρ=>match ρ[j]? with
 | some (some (.lst l))=>(fi ρ).out fun i=>(f ρ).out fun d=>js j l ρ d i
 | _=> .bad
theorem ut {j:Nat}{x:Str}{i e:Expr}{px spos apos cpos pos:Pos}{fi f:DS→Res D}(hm:μ.getD j 0=n+2)(hN:X.N[j]?=some x)(hv:oe X.env.scope x)(hi:PD X E i fi)(h:PZ X E μ n e f)(hex:∀ ρ c,f ρ≠ .exc c)
  (hd:(x == ("__debug__" :Str))=false:=by decide) (hcd:(x == ("__classdict__" :Str))=false:=by decide)
  (hpi:gr i:=by intro _ _; rfl)
  (hs:starEach [e] X.env=(false,eval e X.env) :: starEach [] X.env:=by rfl)
  (hbase:attributeBase (.Subscript (.Name x px) i spos) "append" X.env (eval (.Subscript (.Name x px) i spos) X.env)=eval (.Subscript (.Name x px) i spos) X.env:=by rfl)
  (hfew:((backTo cpos (starEach [e] X.env)).all (fun x=> !x.1) && (backToKw cpos (keywordEach [] X.env)).all (fun x=>x.1.isSome) && decide (([e].length+([]:List Keyword).length+if ([]:List Keyword).isEmpty=true then 0 else 1) < 30))=true:=by rfl)
  (hline:(apos.endLine == cpos.line)=true:=by rfl)
  (hsw:swapsWith (.Call (.Attribute (.Subscript (.Name x px) i spos) "append" apos) [e] [] cpos) none pos.line X.env=pure false:=by rfl) :
  j1 X E μ r (.Expr (.Call (.Attribute (.Subscript (.Name x px) i spos) "append" apos) [e] [] cpos) pos) (kv j fi f):=by
 intro C s σ Ge B G H ρ fp I R P
 have hp:=kO (apos:=apos) (cpos:=cpos) (r:=dk) PySem.F.plainAttrs_list PySem.F.slot_list_append PySem.F.type_list_append (show xf X "list.append" dk from fX) (nP (pos:=spos) ix_list (cx (pos:=px) hN hv hd hcd) (dq hi) hpi) (bq (l_ h) dh hs) hbase hfew hline hs rfl
 have M:∃ l,ρ[j]?=some (some (.lst l)):=by
  unfold kv at P
  split at P
  ·rename_i l q; exact ⟨l,q⟩
  ·exact P.elim
 obtain ⟨l,hr⟩:=M
 have eo:kv j fi f ρ=(fi ρ).out fun i=>(f ρ).out fun d=>js j l ρ d i:=by
  unfold kv
  rw [hr]
 rw [eo] at P ⊢
 refine f_ (R.top hr hm) fun a xs T h1 g h3 h4=> ?_
 refine aO (dN hp hsw C s σ H { nx:=fun Y H'=>∃ V p J,((fi ρ).out fun i=>(f ρ).out fun d=>js j l ρ d i)= .nx V∧Y=σ∧Rw X.K μ Ge B p H' σ V J∧Same G p,bk:=fun _ _=>False,ct:=fun _ _=>False,rt:=fun _ _=>False } I ⟨_,h1,jX fp G H,ρ,R.vh,R.ro,P.res.le R.bh,fun di ei vi G1 H1 y ri=> ?_⟩) fun fl s1 O=> ?_
 ·have k:=P.res2 ei (Same.refl B)
  have R1:=R.grow y
  have hfd:∃ d,f ρ= .ok d:=by
   cases q:f ρ with
   | ok d=>exact ⟨d,rfl⟩
   | exc c=>exact absurd q (hex ρ c)
   | bad=>rw [q] at k; exact k.elim
  obtain ⟨d0,W⟩:=hfd
  have L:=k.res2 W (Same.refl B)
  have e0:((fi ρ).out fun i=>(f ρ).out fun d=>js j l ρ d i)=js j l ρ d0 di:=by rw [aZ ei,aZ W]
  unfold js at L
  split at L
  ·rename_i k0
   rw [rep_int] at ri
   subst ri
   cases q:iT l.length k0 with
   | none=>rw [q] at L; exact L.elim
   | some m=>
    rw [q] at L
    dsimp only at L
    split at L
    ·rename_i row Q
     by_cases hc:aN row.length=true
     ·have e0:=e0.trans (show js j l ρ d0 (.int k0)= .nx (ρ.set j (some (.lst (l.set m (.lst (row ++ [d0])))))) by unfold js; dsimp only; rw [q]; dsimp only; rw [Q]; exact if_pos hc)
      refine zh (R.row (row':=[]) (ys':=[]) hm h1 g h3 h4 Q) fun b ys U c1 Z c3 c4 c5 c6 c7 _=> ?_
      refine (rk a xs k0 (.ref b) rfl rfl (.inl (.inl (y.hh _ _ g))) (by unfold L2.atI; rw [← h4.length,q]; exact c1) (.inl ⟨rfl,ys,.inl (.inl (y.hh _ _ Z))⟩) ⟨Ge,B,_,ρ,fp,R1,k.res,fun d ed v G2 H2 S R2 sg sh o w=> ?_⟩)
      rw [W] at ed
      cases ed
      refine (pY b ys v rfl rfl (sh _ _ (y.hh _ _ Z)) (by rw [← c3.length]; exact iq hc) ?_)
      refine f_ (R2.top hr hm) fun a2 xs2 T2 g1 g2 g3 g4=> ?_
      rw [h1] at g1
      cases g1
      rw [sh _ _ (y.hh _ _ g)] at g2
      cases g2
      refine zh (R2.row (row':=row ++ [d0]) (ys':=ys ++ [v]) hm h1 (sh _ _ (y.hh _ _ g)) g3 g4 Q) fun b2 ys2 U2 p1 p2 p3 p4 p5 p6 p7 p8=> ?_
      rw [c1] at p1
      cases p1
      rw [sh _ _ (y.hh _ _ Z)] at p2
      cases p2
      have fr:=R2.freshOf w R1
      have neU:∀ c,c∈U2→c≠b:=fun c t z=>p5 (z ▸ t)
      have neS:∀ c,c∈S→c≠b:=fun c t z=>(fr c t).2 j (z ▸ p6)
      obtain ⟨J,R3⟩:=p8 (U2 ++ S) (.append (p3.mono fun d v A _ hA z=>z.mono (.refl _) fun c t u e=>by rw [am (neU c (hA c t))]; exact e) (.one (o.mono (.refl _) fun c t u e=>by rw [am (neS c t)]; exact e))) (List.nodup_append.mpr ⟨p4,w.1,fun c t Z hc2 e=>by subst e; exact (fr c hc2).2 j (p7 c t)⟩) (fun c t=>(List.mem_append.mp t).imp id (fr c))
      exact (iM _ _ J e0 rfl R3 ((R.gg y).trans sg))
     ·rw [if_neg hc] at L; exact L.elim
    ·exact L.elim
  ·exact L.elim
 ·cases fl with
  | next=>
   obtain ⟨Y,H',I',V,p,J,e1,e2,R',sg⟩:=O
   subst e2
   exact ⟨V,_,p,H',J,e1,I',R',sg⟩
  | brk=>obtain ⟨_,_,_,O⟩:=O; exact O.elim
  | cont=>obtain ⟨_,_,_,O⟩:=O; exact O.elim
  | ret u=>obtain ⟨_,_,_,_,_,O⟩:=O; exact O.elim
end
section
variable{prog:Program}{w:World}{A:Around}{R:Result→Shared→Prop}{I S:Addr}{fp wr:List Addr}{n:Nat}{P:Nat→Value→Prop}{St:Nat→Heap→Prop}{C:Heap→Prop}
noncomputable def zI (prog:Program)(w:World)(A:Around)(C:Heap→Prop)(P:Nat→Value→Prop)(bt:Nat→Nat→Bool):Prop:=
 ∀ i j vi vj (s:Shared) (Q:Value→Shared→Prop) (E:Value→Shared→Prop),C s.heap→P i vi→P j vj→Q (.bool (bt i j)) s→wpAny (model prog w) A (richCompare .Lt vi vj) Q E s
noncomputable def zj (wr:List Addr)(S:Addr)(C:Heap→Prop):Prop:=∀ h h',C h→(∀ b o,b∉wr→b≠S→h.get? b=some o→h'.get? b=some o)→C h'
theorem vN (W:Walks prog w A.in1 I fp wr n P St)(bt:Nat→Nat→Bool)(hcmp:zI prog w A.in1 C P bt)(hC:zj wr S C)(hSf:S∉fp) :
  ∀ (k j:Nat) (s:Shared) (vb:Value) (c:Nat),n - (j+1)=k→j+1≤n→St (j+1) s.heap→C s.heap→P (argBest bt j) vb→
  s.heap.get? S=some { cls:= .type "list",dict:=none,data:= .seq #[vb,vb] c,slots:= #[] }→
  (∀ v h' tk,P (argBest bt (n - 1)) v→(∀ b o,b∉wr→b≠S→s.heap.get? b=some o→h'.get? b=some o)→R (.ok (.ret v)) { s with heap:=h',toks:=tk })→
  codeAny (model prog w) A (.builtin "min.loop" ⟨[.ref I,.none,.ref S],[]⟩) R s:=by
 have l:S∉wr:=fun h=>hSf (W.sub _ h)
 have Y:(toString "min" ++ toString ".loop" :String)= "min.loop" :=by decide
 intro k
 induction k with
 | zero=>
  intro j s vb c O z i u a m M
  have y:j+1=n:=by omega
  refine codeAny_builtin PySem.F.entry_min_loop ?_
  rw [Around.under_plainId PySem.F.plain_min_loop _]
  show wpAny _ A.in1 (seqItems? (.ref S) >>= _) _ _ s
  refine wpAny_bind (wpAny_seqItems m rfl ?_)
  show wpAny _ A.in1 (tryCatch (pyNext (.ref I)) _ >>= _) _ _ s
  refine wpAny_bind (wpAny_tryCatch (W.done s _ _ (y ▸ i) fun h' tk V=> ?_))
  have hS':=V S _ l m
  show wpAny _ A.in1 (updateSeq S (fun _=> #[]) >>= _) _ _ _
  refine wpAny_bind ?_
  refine wpAny_updateSeq hS' rfl (wpAny_bind (wpAny_letGo (wpAny_pure ?_)))
  refine M vb _ tk (by rw [← y]; exact a) fun b o T U e=>(Heap.get?_update_other _ _ (Ne.symm U)).trans (V b o T e)
 | succ k t=>
  intro j s vb c O z i u a m M
  have p:j+1 < n:=by omega
  refine codeAny_builtin PySem.F.entry_min_loop ?_
  rw [Around.under_plainId PySem.F.plain_min_loop _]
  show wpAny _ A.in1 (seqItems? (.ref S) >>= _) _ _ s
  refine wpAny_bind (wpAny_seqItems m rfl ?_)
  show wpAny _ A.in1 (tryCatch (pyNext (.ref I)) _ >>= _) _ _ s
  refine wpAny_bind (wpAny_tryCatch (W.item (j+1) s _ _ p i fun v h' tk B d V=> ?_))
  have hS':=V S _ l m
  have hc':C h':=hC _ _ u fun b o T _ e=>V b o T e
  show wpAny _ A.in1 (tryCatch (holding [v,v] (richCompare .Lt v vb >>= _)) _ >>= _) _ _ _
  refine wpAny_bind (wpAny_tryCatch (wpAny_holding (wpAny_bind (hcmp (j+1) (argBest bt j) v vb { s with heap:=h',toks:=tk } _ _ hc' B a ?_))))
  refine wpAny_bind (wpAny_holding (wpAny_truthy_bool ?_))
  refine wpAny_bind (wpAny_letGo (wpAny_pure ?_))
  cases x:bt (j+1) (argBest bt j) with
  | true=>
   simp only [if_true]
   refine wpAny_bind ?_
   refine wpAny_updateSeq hS' rfl (wpAny_bind (wpAny_letGo ?_))
   rw [Y]
   refine wpAny_pure ⟨plainId_quiet PySem.F.plain_min_loop _,t (j+1) _ v _ (by omega) p (W.frame _ _ _ d fun b q o e=> ?_) (hC _ _ hc' fun b o _ U e=>(Heap.get?_update_other _ _ (Ne.symm U)).trans e) (by simp only [argBest,x,if_true]; exact B) (Heap.get?_update_self _ hS' rfl)
    fun r g X f Z=> ?_⟩
   ·exact (Heap.get?_update_other _ _ (fun h:S=b=>hSf (by rw [h]; exact q))).trans e
   ·exact M r g X f fun b o T U e=>Z b o T U ((Heap.get?_update_other _ _ (Ne.symm U)).trans (V b o T e))
  | false=>
   simp only [Bool.false_eq_true,if_false]
   refine wpAny_bind (wpAny_letGo ?_)
   rw [Y]
   refine wpAny_pure ⟨plainId_quiet PySem.F.plain_min_loop _,t (j+1) _ vb c (by omega) p d hc' (by simp only [argBest,x,Bool.false_eq_true,if_false]; exact a) hS' fun r g X f Z=> ?_⟩
   exact M r g X f fun b o T U e=>Z b o T U (V b o T e)
theorem ul (W:Walks prog w A.in1 I fp wr n P St)(bt:Nat→Nat→Bool)(hcmp:zI prog w A.in1 C P bt)(hC:zj wr S C)(hSf:S∉fp)(hn:0 < n){s:Shared}{c:Nat}(hst:St 0 s.heap)(hc:C s.heap)
  (hS:s.heap.get? S=some { cls:= .type "list",dict:=none,data:= .seq #[] c,slots:= #[] })
  (hR:∀ v h' tk,P (argBest bt (n - 1)) v→(∀ b o,b∉wr→b≠S→s.heap.get? b=some o→h'.get? b=some o)→R (.ok (.ret v)) { s with heap:=h',toks:=tk }) :
  codeAny (model prog w) A (.builtin "min.loop" ⟨[.ref I,.none,.ref S],[]⟩) R s:=by
 have d:S∉wr:=fun h=>hSf (W.sub _ h)
 have X:(toString "min" ++ toString ".loop" :String)= "min.loop" :=by decide
 refine codeAny_builtin PySem.F.entry_min_loop ?_
 rw [Around.under_plainId PySem.F.plain_min_loop _]
 show wpAny _ A.in1 (seqItems? (.ref S) >>= _) _ _ s
 refine wpAny_bind (wpAny_seqItems hS rfl ?_)
 show wpAny _ A.in1 (tryCatch (pyNext (.ref I)) _ >>= _) _ _ s
 refine wpAny_bind (wpAny_tryCatch (W.item 0 s _ _ hn hst fun v h' tk B a V=> ?_))
 have hS':=V S _ d hS
 have hc':C h':=hC _ _ hc fun b o U _ e=>V b o U e
 show wpAny _ A.in1 (updateSeq S (fun _=> #[v,v]) >>= _) _ _ _
 refine wpAny_bind ?_
 refine wpAny_updateSeq hS' rfl ?_
 rw [X]
 refine wpAny_pure ⟨plainId_quiet PySem.F.plain_min_loop _,vN W bt hcmp hC hSf _ 0 _ v _ rfl hn (W.frame _ _ _ a fun b i o e=> ?_) (hC _ _ hc' fun b o _ T e=>(Heap.get?_update_other _ _ (Ne.symm T)).trans e) B (Heap.get?_update_self _ hS' rfl) fun j g Y f Z=> ?_⟩
 ·exact (Heap.get?_update_other _ _ (fun h:S=b=>hSf (by rw [h]; exact i))).trans e
 ·exact hR j g Y f fun b o U T e=>Z b o U T ((Heap.get?_update_other _ _ (Ne.symm T)).trans (V b o U e))
end
section
variable{prog:Program}{w:World}{A:Around}{E:Value→Shared→Prop}{s:Shared}
theorem vP {l:Addr}{its:Array Value}{C:Heap→Prop}{bt:Nat→Nat→Bool}{Q:Value→Shared→Prop}(hh:A.handled=none)(hl:s.heap.IsList l its)(hn:0 < its.size)(hcmp:zI prog w A.in1 C (fun i v=>its[i]?=some v) bt)(hc:C s.heap)
  (hC:∀ h h',C h→(∀ b o,b < s.heap.objs.size→h.get? b=some o→h'.get? b=some o)→C h')
  (h:∀ v h' tk,its[argBest bt (its.size - 1)]?=some v→(∀ b o,s.heap.get? b=some o→h'.get? b=some o)→Q v { s with heap:=h',toks:=tk }) :
  wpAny (model prog w) A (call (.builtin "min") [.ref l]) Q E s:=by
 have X:(toString "min" ++ toString ".loop" :String)= "min.loop" :=by decide
 refine call_function_tree PySem.F.kind_min PySem.F.plain_min PySem.F.entry_min (PySem.F.args_min1 _) ?_
 show wpAny _ A.in1 (Builtin.Builtins.bindParams "min" ["key","default"] 0 ⟨[],[]⟩ >>= _) _ _ s
 refine wpAny_bind (wpAny_of_eq (show Builtin.Builtins.bindParams "min" ["key","default"] 0 ⟨[],[]⟩=pure [none,none] from rfl) ?_)
 refine wpAny_bind (wpAny_pure ?_)
 have p:l < s.heap.objs.size:=by obtain ⟨o,e,_⟩:=hl; exact Heap.lt_size e
 have Y:l≠s.heap.objs.size:=Nat.ne_of_lt p
 have D:(s.heap.push { cls:= .type "list_iterator",data:= .fields #[.ref l,.int 0 0] }).objs.size=s.heap.objs.size+1:=Heap.size_push ..
 refine wpAny_bind (wpAny_pyIter_list hl ?_)
 refine wpAny_bind (wpAny_newObj_type ?_)
 rw [X]
 have W:=Walks.list (prog:=prog) (w:=w) (A:=A.in1) hh s.heap.objs.size l Y its
 have f:∀ b o,s.heap.get? b=some o→b < s.heap.objs.size:=fun b o e=>Heap.lt_size e
 refine wpAny_pure ⟨plainId_quiet PySem.F.plain_min_loop _,ul (C:=C) W bt hcmp (fun a d c k=>hC a d c fun b o u e=>k b o (fun z=> ?_) (fun z=> ?_) e) (fun z=> ?_) hn ?_ (hC _ _ hc fun b o _ e=>Heap.get?_push_of_some _ (Heap.get?_push_of_some _ e)) (Heap.get?_push_size _ rfl) fun v d tk B O=> ?_⟩
 ·have z:b=s.heap.objs.size:=by simpa using z
  rw [z] at u; exact absurd u (Nat.lt_irrefl _)
 ·rw [z] at u
  have u:(s.heap.push { cls:= .type "list_iterator",data:= .fields #[.ref l,.int 0 0] }).objs.size < s.heap.objs.size:=u
  rw [D] at u; exact absurd u (Nat.not_lt_of_le (Nat.le_succ _))
 ·have z:(s.heap.push { cls:= .type "list_iterator",data:= .fields #[.ref l,.int 0 0] }).objs.size=s.heap.objs.size∨(s.heap.push { cls:= .type "list_iterator",data:= .fields #[.ref l,.int 0 0] }).objs.size=l:=by simpa using z
  rw [D] at z
  rcases z with z | z
  ·exact absurd z (Nat.succ_ne_self _)
  ·rw [← z] at p; exact absurd p (Nat.not_lt_of_le (Nat.le_succ _))
 ·obtain ⟨o,e,r⟩:=hl
  exact (lS (iZ _ (Heap.get?_push_of_some _ (Heap.get?_push_size _ rfl)) rfl rfl) o (Heap.get?_push_of_some _ (Heap.get?_push_of_some _ e)) r)
 ·refine h v d tk B fun b o e=>O b o (fun z=> ?_) (fun z=> ?_) (Heap.get?_push_of_some _ (Heap.get?_push_of_some _ e))
  ·have z:b=s.heap.objs.size:=by simpa using z
   exact absurd (f b o e) (by rw [z]; exact Nat.lt_irrefl _)
  ·have:=f b o e
   rw [z] at this
   have this:(s.heap.push { cls:= .type "list_iterator",data:= .fields #[.ref l,.int 0 0] }).objs.size < s.heap.objs.size:=this
   rw [D] at this; exact absurd this (Nat.not_lt_of_le (Nat.le_succ _))
end
noncomputable def BN:D→Option (List Int)
 | .tup l=>allInts l
 | _=>none
noncomputable def fx:List D→Option (List (List Int))
 | []=>some []
 | d :: ds=>match BN d,fx ds with
  | some t,some ts=>some (t :: ts)
  | _,_=>none
theorem i_:∀ {l:List D} {ts:List (List Int)},fx l=some ts→l=ts.map fun t=> .tup (t.map D.int)
 | [],ts,h=>by unfold fx at h; cases h; rfl
 | d :: ds,ts,h=>by
  unfold fx at h
  split at h
  ·rename_i t W T u
   cases h
   rw [List.map_cons,← i_ u]
   unfold BN at T
   split at T
   ·rename_i l; rw [gs T]
   ·cases T
  ·cases h
theorem hJ:∀ (ts:List (List Int)),fx (ts.map fun t=> .tup (t.map D.int))=some ts
 | []=>rfl
 | t :: ts=>by
  rw [List.map_cons]
  unfold fx
  rw [hJ ts]
  unfold BN
  dsimp only
  rw [fw]
noncomputable def fy (t:List Int)(ts:List (List Int)):List Int:=ts.foldl (fun b u=>if HT.aI u b=true then u else b) t
noncomputable def iA:List D→Res D
 | [.lst l]=>match fx l with | some (t :: ts)=> .ok (.tup ((fy t ts).map D.int)) | _=> .bad
 | _=> .bad
theorem sm (ts:List (List Int))(t:List Int):∀ k,k≤ts.length→(t :: ts)[argBest (fun i j=>HT.aI ((t :: ts).getD i []) ((t :: ts).getD j [])) k]?=some (fy t (ts.take k))
 | 0,_=>rfl
 | k+1,h=>by
  have s:=sm ts t k (by omega)
  have O:k < ts.length:=h
  have T:(t :: ts).getD (k+1) []=ts[k]:=by simp [List.getD,O]
  have v:(t :: ts).getD (argBest (fun i j=>HT.aI ((t :: ts).getD i []) ((t :: ts).getD j [])) k) []=fy t (ts.take k):=by
   rw [List.getD_eq_getElem?_getD,s]
   rfl
  have d:ts.take (k+1)=ts.take k ++ [ts[k]]:=by rw [List.take_add_one]; simp [O]
  have w:fy t (ts.take (k+1))=if HT.aI ts[k] (fy t (ts.take k))=true then ts[k] else fy t (ts.take k):=by
   rw [d]
   unfold fy
   rw [List.foldl_append]
   rfl
  rw [w]
  unfold argBest
  rw [T,v]
  by_cases u:HT.aI ts[k] (fy t (ts.take k))=true
  ·rw [if_pos u,if_pos u]
   simp [O]
  ·rw [if_neg u,if_neg u]
   exact s
section
variable{X:Cx}{E:XK}
noncomputable def qU (K:W.Frag)(H:Hp)(vs:List V)(ts:List (List Int)):Prop:=vs.length=ts.length∧∀ (i:Nat) (v:V) (t:List Int),vs[i]?=some v→ts[i]?=some t→∃ a,v= .ref a∧lj K H a (t.map V.int)
theorem tS (hc:X.calm=true)(hu:X.A.units+64 < cLine):d8 X (.builtin "min") (fun xs H Q=>∃ p vs t ts,xs=[.ref p]∧fR X.K H p vs∧qU X.K H vs (t :: ts)∧∀ (v:V) (i:Nat),vs[i]?=some v→(t :: ts)[i]?=some (fy t ts)→Q v H):=by
 intro U s σ H xs us Q I r h
 refine cps fun PP Y=> ?_
 refine lh (h) fun p vs t ts n sq x q=> ?_; subst n; obtain ⟨J,B⟩:=x
 obtain ⟨u,rfl,ru⟩:=jW r
 refine Y ?_; clear Y PP
 cases (show u= .ref p from ru)
 refine dr (I.list sq) fun m d pl _=> ?_
 have hl:=pl.isList
 have hil:m.length=ts.length+1:=by rw [← d.length,J]; rfl
 have N:∀ i u,m[i]?=some u→∃ a items,u= .ref a∧IsTup s.heap a items∧IntsAre items.toList ((t :: ts).getD i [])∧a < s.heap.objs.size:=fun i u hu=>by
  have F:i < m.length:=(dZ hu).1
  have hi':i < (t :: ts).length:=by rw [List.length_cons]; omega
  have D:i < vs.length:=by rw [J]; exact hi'
  obtain ⟨u',g,w⟩:=d.get (cS D)
  rw [hu] at g
  cases g
  obtain ⟨a,ea,G⟩:=B i vs[i] (t :: ts)[i] (cS D) (cS hi')
  rw [ea] at w
  cases w
  refine dr (I.tuple G) fun y r2 E _=> ?_
  refine (kZ a y.toArray rfl E ?_ (by obtain ⟨o,e,_⟩:=E; exact Heap.lt_size e))
  have:(t :: ts).getD i []=(t :: ts)[i]:=by rw [List.getD_eq_getElem?_getD,cS hi']; rfl
  rw [this]
  exact gF r2
 refine vP (C:=fun h=>∀ i u,m[i]?=some u→∃ a items,u= .ref a∧IsTup h a items∧IntsAre items.toList ((t :: ts).getD i [])∧a < s.heap.objs.size) (bt:=fun i j=>HT.aI ((t :: ts).getD i []) ((t :: ts).getD j [])) (I.ok.hd hc) hl (by simp; omega) (fun i j vi f s' Q' E' L F P hQ=> ?_) N (fun h h' L k i u hu=> ?_) fun v h' tk z hk=> ?_
 ·have F:m[i]?=some vi:=by simpa using F
  have P:m[j]?=some f:=by simpa using P
  refine mH (L i vi F) fun a ia T M R _=> ?_
  refine mH (L j f P) fun b ib e2 E n2 _=> ?_
  subst T e2
  exact HT.rr M E R n2 (show X.A.in1.units < cLine from Nat.lt_of_le_of_lt (by show X.A.units+1≤X.A.units+64; omega) hu) hQ
 ·refine mH (L i u hu) fun a ia T M R S=> ?_
  obtain ⟨o,e,c⟩:=M
  exact (kZ a ia T ⟨o,k a o S e,c⟩ R S)
 ·have W:m.toArray.size - 1=ts.length:=by simp; omega
  rw [W] at z
  have Z:=sm ts t ts.length (Nat.le_refl _)
  rw [List.take_length] at Z
  have z:m[argBest (fun i j=>HT.aI ((t :: ts).getD i []) ((t :: ts).getD j [])) ts.length]?=some v:=by simpa using z
  obtain ⟨O,_⟩:=dZ z
  have l:argBest (fun i j=>HT.aI ((t :: ts).getD i []) ((t :: ts).getD j [])) ts.length < vs.length:=by rw [d.length]; exact O
  obtain ⟨u',g,w⟩:=d.get (cS l)
  rw [z] at g
  cases g
  exact ⟨_,H,I.kept hk,w,q _ _ (cS l) Z⟩
theorem nZ {K:W.Frag}{G H:Hp}(hs:Same G H):∀ {ts:List (List Int)} {vs:List V},RepL K G (ts.map fun t=> .tup (t.map D.int)) vs→qU K H vs ts:=by
 intro ts vs c
 refine ⟨by rw [← c.length,List.length_map],fun i v t z f=> ?_⟩
 obtain ⟨w,b,J⟩:=c.get (i:=i) (d:= .tup (t.map D.int)) (by rw [List.getElem?_map,f]; rfl)
 rw [z] at b
 cases b
 rw [rep_tup] at J
 refine bL (J) fun a g o sq e=> ?_; subst o
 rw [e.ints] at sq
 exact ⟨a,rfl,hs.seqT sq.sq⟩
theorem yE {e:Expr}{p pos:Pos}{f:DS→Res D}(hu:X.A.units+64 < cLine)(hm:X.mg "min" =none)(h:PD X E e f)(hc:X.calm=true:=by rfl)(hg:Gl X "min" :=by rfl)(he:starEach [e] X.env=(false,eval e X.env) :: starEach [] X.env:=by rfl):PD X E (.Call (.Name "min" p) [e] [] pos) (fun ρ=>(f ρ).bind fun a=>iA [a]):=by
 have m:PD X E (.Call (.Name "min" p) [e] [] pos) (bv (fun ρ=>(f ρ).bind fun d=>(Res.ok []:Res (List D)).bind fun g=> .ok (d :: g)) iA):=fZ (tS hc hu) (fun G H O g Q L c ok k=>by
  unfold iA at ok k
  split at ok
  ·rename_i l
   dsimp only at k
   split at ok
   ·rename_i t u q
    rw [q] at k
    dsimp only at k
    have e:=i_ q
    refine cps fun PP K=> ?_
    subst e
    obtain ⟨v,r,rfl,x,j⟩:=c.inv
    refine K ?_; clear K PP
    rw [j.inv0]
    rw [rep_lst] at x
    obtain ⟨N,o,rfl,sq,x⟩:=x
    refine ⟨N,o,t,u,rfl,L.seq sq.sq,nZ L x,fun v i z y=> ?_⟩
    obtain ⟨w,b,J⟩:=x.get (i:=i) (d:= .tup ((fy t u).map D.int)) (by rw [List.getElem?_map,y]; rfl)
    rw [z] at b
    cases b
    exact k _ _ G H rfl (.refl L) J
   ·exact ok.elim
  ·exact ok.elim) hg hm uV (aa h ag he) (by decide) (by decide) he rfl
 intro B s C G H ρ I L n M
 have F:∀ ρ,bv (fun ρ=>(f ρ).bind fun d=>(Res.ok []:Res (List D)).bind fun g=> .ok (d :: g)) iA ρ=(f ρ).bind fun a=>iA [a]:=fun ρ=>by
  show Res.bind (Res.bind (f ρ) _) _=_
  cases f ρ <;> rfl
 have:=m B s C G H ρ I L n (by rw [F]; exact M)
 rw [F] at this
 exact this
end
noncomputable def mr {α:Type}(n:Nat)(lt:Nat→Nat→Bool):W.KasT α→Option α
 | .ret a=>some a
 | .ask i j k=>if i < n∧j < n then mr n lt (k (lt i j)) else none
theorem p_ {α:Type}{cmp:Nat→Nat→(Bool→Shared→Prop)→Shared→Prop}{n:Nat}{lt:Nat→Nat→Bool}{s:Shared}(hc:∀ i j (Q:Bool→Shared→Prop),i < n→j < n→Q (lt i j) s→cmp i j Q s):∀ (t:W.KasT α) (p:α) (Q:α→Shared→Prop),mr n lt t=some p→Q p s→t.kasWp cmp Q s
 | .ret a,p,Q,h,q=>by unfold mr at h; cases h; exact q
 | .ask i j k,p,Q,h,q=>by
  unfold mr at h
  split at h
  ·rename_i u
   exact hc i j _ u.1 u.2 (p_ hc (k (lt i j)) p Q h q)
  ·cases h
section
variable{prog:Program}{w:World}{A:Around}{E:Value→Shared→Prop}{s:Shared}
theorem qb {b fin:Bool}{Q:Bool→Shared→Prop}:∀ {vs ws:List Value} {ns ms:List Int} (i:Nat),IntsAre vs ns→IntsAre ws ms→fin=decide (ns.length < ms.length)→Q (HT.aI ns ms) s→W.KatLex prog w A b fin Q (vs.zip ws) i s
 | _,_,_,_,i,.nil,.nil,hf,h=>by
  rw [HT.i4] at h
  rw [List.zip_nil_left]
  exact W.kat_nil (by rw [hf]; exact h)
 | _,_,_,_,i,.nil,.cons n t h2,hf,h=>by
  rw [HT.iu] at h
  rw [List.zip_nil_left]
  exact W.kat_nil (by rw [hf]; simpa using h)
 | _,_,_,_,i,.cons n t h1,.nil,hf,h=>by
  rw [HT.ir] at h
  rw [List.zip_nil_right]
  exact W.kat_nil (by rw [hf]; simpa using h)
 | _,_,_,_,i,.cons n t h1,.cons m u h2,hf,h=>by
  rw [HT.lZ] at h
  rw [List.zip_cons_cons]
  refine W.kat_cons (wpAny_eqBool_int ?_)
  by_cases e:n=m
  ·rw [if_pos e] at h
   have e':(n == m)=true:=by simp [e]
   rw [e']
   exact W.kat_yes (qb (i+1) h1 h2 (by rw [hf]; simp) h)
  ·rw [if_neg e] at h
   have e':(n == m)=false:=beq_eq_false_iff_ne.mpr e
   rw [e']
   refine W.kat_no ?_
   cases v:(b && i == 0) with
   | true=>exact oneLt_int h
   | false=>exact W.kat_one _ _ (lt_int (by exact h))
theorem y7 {x y:Addr}{xs ys:Array Value}{ns ms:List Int}{b:Bool}{Q:Bool→Shared→Prop}(hx:IsTup s.heap x xs)(hy:IsTup s.heap y ys)(ix:IntsAre xs.toList ns)(iy:IntsAre ys.toList ms)(h:Q (HT.aI ns ms) s):wpAny (model prog w) A (keyLt' (tuples' b) (.ref x) (.ref y)) Q E s:=by
 refine uK (hx) fun u r _ n f=> ?_
 refine uK (hy) fun t q _ k I=> ?_
 refine W.kat_lt r f q I (qb 0 ix iy ?_ h)
 have a:=ix.length
 have c:=iy.length
 rw [Array.length_toList] at a c
 rw [a,c]
noncomputable def TupsIn (h:Heap)(vs:List Value)(ts:List (List Int)):Prop:=vs.length=ts.length∧∀ (i:Nat) (v:Value),vs[i]?=some v→∃ b items,v= .ref b∧IsTup h b items∧IntsAre items.toList (ts.getD i [])∧ts.getD i []≠[]
theorem TupsIn.keep {h h':Heap}{vs:List Value}{ts:List (List Int)}(x:TupsIn h vs ts)(k:∀ b o,h.get? b=some o→o.cls= .type "tuple" →h'.get? b=some o):TupsIn h' vs ts:=⟨x.1,fun i v z=>by
 refine bL (x.2 i v z) fun b u e w r=> ?_; obtain ⟨o,D,a,H⟩:=w
 exact (dL b u e (iZ o (k b o D a) a H) r)⟩
theorem lV {h:Heap}:∀ {vs:List Value} {ts:List (List Int)},TupsIn h vs ts→∃ fs:List Value,W.KatTups h vs fs∧fs.length=vs.length∧∀ v∈fs,∃ n t,v= .int n t
 | [],ts,_=>(iZ ([]) .nil rfl (fun v F=>nomatch F))
 | v :: vs,ts,x=>by
  obtain ⟨t,y,rfl⟩:∃ t y,ts=t :: y:=by
   match ts,x.1 with
   | [],h=>simp at h
   | t :: y,_=>exact ⟨t,y,rfl⟩
  refine cps fun PP G=> ?_
  refine mH (x.2 0 v rfl) fun b w e A g X=> ?_; obtain ⟨o,D,a,J,I⟩:=A
  have g:IntsAre w.toList t:=g
  have X:t≠[]:=X
  refine dr (lV (vs:=vs) (ts:=y) ⟨by have:=x.1; simpa using this,fun i u E=>x.2 (i+1) u (by simpa using E)⟩) fun fs c d B=> ?_
  refine G ?_; clear G PP
  subst e
  cases q:w.toList with
  | nil=>rw [q] at g; cases g; exact absurd rfl X
  | cons f r=>
   rw [q] at g
   cases g with
   | cons n H C=>
    refine (iZ (.int n H :: fs) (.cons D a I ?_ c) (by simp [d]) (fun u E=> ?_))
    ·rw [← Array.getElem?_toList,q]; rfl
    ·rcases List.mem_cons.mp E with z | z
     ·exact ⟨n,H,z⟩
     ·exact B u z
theorem mO {a:Addr}{vs:List Value}{n:Nat}{P:Fin→Shared→Prop}(ho:s.heap.get? a=some (seqObj "list" vs.toArray n))(h1:vs.length < 2)(h:P (.done (.ret .none)) { s with heap:=sortedHeap s.heap a vs vs.toArray }):wpAny (model prog w) A (Builtin.«list.sort» ⟨[.ref a],[]⟩) P E s:=by
 rw [list_sort_plain]
 have z:a < s.heap.objs.size:=Heap.lt_size ho
 refine wpAny_bind (listItems_at ho rfl ?_)
 refine wpAny_bind (listUpdate_at ho rfl ?_ (by rw [List.size_toArray,sizeLine_eq]; omega) (Nat.zero_le _))
 obtain ⟨T,C⟩:∃ T,(s.heap.update a (Obj.mapSeq fun _=> #[])).get? a=some (seqObj "list" #[] T):=⟨_,get?_update_seq ho (fun _=> #[])⟩
 refine wpAny_bind (seqEpoch_at C rfl ?_)
 refine wpAny_bind (wpAny_newTuple ?_ (by show vs.length≤_; rw [sizeLine_eq]; omega))
 refine wpAny_bind (wpAny_newList ?_ (Nat.zero_le _))
 refine wpAny_holding ?_
 have B:(((s.heap.update a (Obj.mapSeq fun _=> #[])).push (seqObj "tuple" vs.toArray 0)).push (seqObj "list" #[] 0)).get? a=some (seqObj "list" #[] T):=Heap.get?_push_of_some _ (Heap.get?_push_of_some _ C)
 show wpAny (model prog w) A _ P E { s with heap:=((s.heap.update a (Obj.mapSeq fun _=> #[])).push (seqObj "tuple" vs.toArray 0)).push (seqObj "list" #[] 0) }
 dsimp only
 have b:vs.toArray.size < 2:=by rw [List.size_toArray]; exact h1
 rw [if_pos b,if_pos b]
 refine wpAny_bind (wpAny_pure ?_)
 rw [StateT.run_pure]
 refine wpAny_bind (wpAny_pure ?_)
 dsimp only
 refine wpAny_bind (seqEpoch_at B rfl ?_)
 have D:(arrOf (SortSt.mk' general' (vs.toArray.zip vs.toArray) #[] 7 none)).map (·.2)=vs.toArray:=by
  show (vs.toArray.zip vs.toArray).map (·.2)=vs.toArray
  apply Array.toList_inj.mp
  simp [List.map_snd_zip]
 rw [D]
 refine wpAny_bind (listUpdate_at B rfl ?_ (Nat.zero_le _) (by rw [List.size_toArray,sizeLine_eq]; omega))
 simp only [bne_self_eq_false,Bool.false_eq_true,if_false]
 exact wpAny_pure h
theorem l4 {a:Addr}{vs:List Value}{ts:List (List Int)}{n:Nat}{p:Array Nat}{P:Fin→Shared→Prop}(ho:s.heap.get? a=some (seqObj "list" vs.toArray n))(hT:TupsIn s.heap vs ts)(h2:2≤vs.length)(h64:vs.length < 64)
  (hr:mr vs.length (fun i j=>HT.aI (ts.getD i []) (ts.getD j [])) (W.kas_sort vs.length)=some p) (h:P (.done (.ret .none)) { s with heap:=sortedHeap s.heap a vs (List.toArray (p.toList.map fun i=>vs.getD i Value.none)) }) (hp:p.size=vs.length):wpAny (model prog w) A (Builtin.«list.sort» ⟨[.ref a],[]⟩) P E s:=by
 rw [list_sort_plain]
 have ha:a < s.heap.objs.size:=Heap.lt_size ho
 refine wpAny_bind (listItems_at ho rfl ?_)
 refine wpAny_bind (listUpdate_at ho rfl ?_ (by rw [List.size_toArray,sizeLine_eq]; omega) (Nat.zero_le _))
 obtain ⟨U,D⟩:∃ U,(s.heap.update a (Obj.mapSeq fun _=> #[])).get? a=some (seqObj "list" #[] U):=⟨_,get?_update_seq ho (fun _=> #[])⟩
 refine wpAny_bind (seqEpoch_at D rfl ?_)
 refine wpAny_bind (wpAny_newTuple ?_ (by show vs.length≤_; rw [sizeLine_eq]; omega))
 refine wpAny_bind (wpAny_newList ?_ (Nat.zero_le _))
 refine wpAny_holding ?_
 have B:(((s.heap.update a (Obj.mapSeq fun _=> #[])).push (seqObj "tuple" vs.toArray 0)).push (seqObj "list" #[] 0)).get? a=some (seqObj "list" #[] U):=Heap.get?_push_of_some _ (Heap.get?_push_of_some _ D)
 show wpAny (model prog w) A _ P E { s with heap:=((s.heap.update a (Obj.mapSeq fun _=> #[])).push (seqObj "tuple" vs.toArray 0)).push (seqObj "list" #[] 0) }
 dsimp only
 have N:¬ vs.toArray.size < 2:=by rw [List.size_toArray]; omega
 rw [if_neg N,if_neg N]
 have C:TupsIn (((s.heap.update a (Obj.mapSeq fun _=> #[])).push (seqObj "tuple" vs.toArray 0)).push (seqObj "list" #[] 0)) vs ts:=hT.keep fun b o e d=>by
  have L:b≠a:=fun z=>by rw [z,ho] at e; cases e; injection d with d; exact absurd d (by decide)
  exact Heap.get?_push_of_some _ (Heap.get?_push_of_some _ ((Heap.get?_update_other _ _ (Ne.symm L)).trans e))
 refine dr (lV C) fun fs Y k2 f=> ?_
 refine wpAny_bind (W.kat_kind (T:= .type "int") (s:={ s with heap:=((s.heap.update a (Obj.mapSeq fun _=> #[])).push (seqObj "tuple" vs.toArray 0)).push (seqObj "list" #[] 0) }) Y (by omega) (fun v Z=> ?_) rfl ?_)
 ·obtain ⟨m,t,rfl⟩:=f v Z
  exact W.Looks.of_pure rfl
 ·refine wpAny_bind (wpAny_mono (W.kat_run (s:={ s with heap:=((s.heap.update a (Obj.mapSeq fun _=> #[])).push (seqObj "tuple" vs.toArray 0)).push (seqObj "list" #[] 0) }) (Q:=fun u V=>arrOf u=p.map (W.kas_item (vs.toArray.zip vs.toArray))∧failedOf u=none∧V={ s with heap:=((s.heap.update a (Obj.mapSeq fun _=> #[])).push (seqObj "tuple" vs.toArray 0)).push (seqObj "list" #[] 0) })
   (G:=fun q V=>q=p∧V={ s with heap:=((s.heap.update a (Obj.mapSeq fun _=> #[])).push (seqObj "tuple" vs.toArray 0)).push (seqObj "list" #[] 0) }) rfl h2 h64 (fun q u V a1 x S K=>⟨by rw [x,K.1],S,K.2⟩) (p_ (fun i j Q g r X=> ?_) _ p _ hr ⟨rfl,rfl⟩)) ?_ fun _ _ e=>e)
  ·refine mH (C.2 i vs[i] (cS g)) fun b ib H R n1 _=> ?_
   refine mH (C.2 j vs[j] (cS r)) fun c ic J y l _=> ?_
   unfold W.kas_ask
   have O:vs.getD i Value.none= .ref b:=by simp [g,H]
   have M:vs.getD j Value.none= .ref c:=by simp [r,J]
   rw [O,M]
   exact y7 R y n1 l X
  ·rintro ⟨⟨⟩,u⟩ V ⟨I,k,rfl⟩
   dsimp only
   refine wpAny_bind (seqEpoch_at B rfl ?_)
   have F:=W.kat_snds (vs:=vs) rfl I
   rw [F]
   refine wpAny_bind (listUpdate_at B rfl ?_ (Nat.zero_le _) (by rw [List.size_toArray,List.length_map,Array.length_toList,hp,sizeLine_eq]; omega))
   rw [k]
   simp only [bne_self_eq_false,Bool.false_eq_true,if_false]
   exact wpAny_pure h
theorem nX {l:Addr}{vs:List Value}{out:Array Value}{Q:Value→Shared→Prop}(hl:s.heap.IsList l vs.toArray)(hn:vs.length < 64)
  (hsort:∀ (s':Shared) (P:Fin→Shared→Prop) (E':Value→Shared→Prop) (A':Around) (a:Addr),(∀ b o,s.heap.get? b=some o→s'.heap.get? b=some o)→s'.heap.get? a=some (seqObj "list" vs.toArray 0)→P (.done (.ret .none)) { s' with heap:=sortedHeap s'.heap a vs out }→wpAny (model prog w) A' (Builtin.«list.sort» ⟨[.ref a],[]⟩) P E' s')
  (h:Q (.ref (s.heap.objs.size+1)) { s with heap:=sortedAll s.heap vs out }):wpAny (model prog w) A (call (.builtin "sorted") [.ref l]) Q E s:=by
 refine Calls.call_function_entry kind_sorted plain_sorted entry_sorted (args_sorted1 _) ?_
 unfold Builtin.«sorted»
 refine wpAny_bind (m:=checkCount "sorted" 1 1 _) (wpAny_pure ?_)
 refine wpAny_bind (collect_list hl ?_ (by rw [sizeLine_eq]; omega))
 refine wpAny_bind (wpAny_newList ?_ (by rw [sizeLine_eq]; omega))
 have V:((s.heap.push (seqObj "list" #[] 0)).update s.heap.objs.size (Obj.mapSeq (· ++ vs.toArray))).objs.size=s.heap.objs.size+1:=by
  rw [Heap.size_update,size_push']
 have K:(((s.heap.push (seqObj "list" #[] 0)).update s.heap.objs.size (Obj.mapSeq (· ++ vs.toArray))).push (seqObj "list" vs.toArray 0)).get? (s.heap.objs.size+1)=some (seqObj "list" vs.toArray 0):=by
  rw [← V]; exact Heap.get?_push_size _ rfl
 show wpAny _ _ _ _ _ { s with heap:=((s.heap.push (seqObj "list" #[] 0)).update s.heap.objs.size (Obj.mapSeq (· ++ vs.toArray))).push (seqObj "list" vs.toArray 0) }
 rw [V]
 refine wpAny_bind (wpAny_holding (wpAny_call_entry slot_list_sort ⟨_,K,rfl⟩ entry_list_sort (hsort { s with heap:=((s.heap.push (seqObj "list" #[] 0)).update s.heap.objs.size (Obj.mapSeq (· ++ vs.toArray))).push (seqObj "list" vs.toArray 0) } _ _ _ _ (fun b o e=> ?_) K ⟨_,rfl,?_⟩) (args_list_sort _)))
 ·have p:b < s.heap.objs.size:=Heap.lt_size e
  exact Heap.get?_push_of_some _ ((Heap.get?_update_other _ _ (Nat.ne_of_gt p)).trans (Heap.get?_push_of_some _ e))
 ·exact wpAny_pure ⟨_,rfl,h⟩
end
noncomputable def cq:List D→Res D
 | [.lst l]=>if l.length < 2 then .ok (.lst l) else (match fx l with
  | some ts=>if (ts.all (fun t=> !t.isEmpty) && decide (ts.length < 64))=true then (match mr ts.length (fun i j=>HT.aI (ts.getD i []) (ts.getD j [])) (W.kas_sort ts.length) with
   | some p=>if p.size=ts.length∧(p.toList.all fun i=>decide (i < ts.length))=true then .ok (.lst (p.toList.map fun i=> .tup ((ts.getD i []).map D.int))) else .bad
   | none=> .bad) else .bad
  | none=> .bad)
 | _=> .bad
section
variable{X:Cx}{E:XK}
theorem lP {pins:List (Addr×Obj)}{σ:St}{H:Hp}{s:Shared}{vs:List Value}{out:List Value}{ys:List V}{Q:VK}(I:Inv X pins σ H s)(rv:Vals ys out)(hz:ys.length≤sizeLine)(q:∀ p,H p=none→Q (.ref p) (bu H p (.lst ys))):EP X pins σ Q (.ref (s.heap.objs.size+1)) { s with heap:=sortedAll s.heap vs out.toArray }:=by
 obtain ⟨e,c⟩:=sortedAll_at s.heap vs out.toArray
 have v:=I.hok.fresh (Nat.le_succ s.heap.objs.size)
 refine ⟨.ref (s.heap.objs.size+1),_,I.laid (o:= .lst ys) (t':=s.toks) (fun b o q=>sortedAll_old q) (Nat.le_succ _) (lQ hz out e rv c),rfl,q _ v⟩
theorem qX:d8 X (.builtin "sorted") (fun xs H Q=>∃ p vs,xs=[.ref p]∧fR X.K H p vs∧((vs.length < 2∧∀ l,H l=none→Q (.ref l) (bu H l (.lst vs)))∨
  ∃ ts pr,qU X.K H vs ts∧(∀ t∈ts,t≠[])∧2≤ts.length∧ts.length < 64∧mr ts.length (fun i j=>HT.aI (ts.getD i []) (ts.getD j [])) (W.kas_sort ts.length)=some pr∧pr.size=ts.length∧(∀ i∈pr.toList,i < ts.length)∧∀ l,H l=none→Q (.ref l) (bu H l (.lst (pr.toList.map fun i=>vs.getD i .non))))):=by
 intro C s σ H xs us Q I r h
 refine cps fun PP G=> ?_
 obtain ⟨p,vs,rfl,sq,h⟩:=h
 obtain ⟨u,rfl,d⟩:=jW r
 refine G ?_; clear G PP
 cases (show u= .ref p from d)
 obtain ⟨m,c,B,O⟩:=I.list sq
 have hil:=c.length
 rcases h with ⟨hlt,q⟩ | ⟨ts,pr,⟨J,y⟩,Y,h2,h64,hr,L,A,q⟩
 ·exact nX B.isList (by omega) (fun s' P E' Z a _ D h=>mO D (by omega) h) (lP I c O q)
 ·have x:m.length=ts.length:=by omega
  have T:TupsIn s.heap m ts:=⟨x,fun i u E=>by
   have hi:i < m.length:=(dZ E).1
   have hi':i < ts.length:=by omega
   have n:i < vs.length:=by omega
   obtain ⟨F,g,v⟩:=c.get (cS n)
   rw [E] at g
   cases g
   obtain ⟨a,f,z⟩:=y i vs[i] ts[i] (cS n) (cS hi')
   rw [f] at v
   cases v
   obtain ⟨w,r2,R,_⟩:=I.tuple z
   have:ts.getD i []=ts[i]:=by rw [List.getD_eq_getElem?_getD,cS hi']; rfl
   rw [this]
   exact ⟨a,w.toArray,rfl,R,gF r2,Y _ (List.getElem_mem hi')⟩⟩
  have V:Vals (pr.toList.map fun i=>vs.getD i .non) (pr.toList.map fun i=>m.getD i Value.none):=by
   have go:∀ (l:List Nat),(∀ i∈l,i < ts.length)→Vals (l.map fun i=>vs.getD i .non) (l.map fun i=>m.getD i Value.none):=by
    intro l
    induction l with
    | nil=>intro _; exact .nil
    | cons i l M=>
     intro N
     have hi:=N i (List.mem_cons_self ..)
     have n:i < vs.length:=by omega
     obtain ⟨F,g,v⟩:=c.get (cS n)
     refine .cons ?_ (M fun j hj=>N j (dt hj))
     have U:vs.getD i .non=vs[i]:=by rw [List.getD_eq_getElem?_getD,cS n]; rfl
     have S:m.getD i Value.none=F:=by rw [List.getD_eq_getElem?_getD,g]; rfl
     show RelV (vs.getD i .non) (m.getD i Value.none)
     rw [U,S]
     exact v
   exact go _ A
  refine nX B.isList (by omega) (fun s' P E' Z a k D h=>l4 (p:=pr) (ts:=ts) D (T.keep fun b o e _=>k b o e) (by omega) (by omega) (by rw [x]; exact hr) h (by omega)) (lP I V (by rw [List.length_map,Array.length_toList,L]; have:=sizeLine_eq; omega) q)
theorem qr {e:Expr}{p pos:Pos}{f:DS→Res D}(hm:X.mg "sorted" =none)(h:PD X E e f)(hg:Gl X "sorted" :=by rfl)(he:starEach [e] X.env=(false,eval e X.env) :: starEach [] X.env:=by rfl):PN X E 1 (.Call (.Name "sorted" p) [e] [] pos) (fun ρ=>(f ρ).bind fun a=>cq [a]):=by
 have L:j0 X E [e] (fun ρ=>(f ρ).bind fun d=> .ok [d]):=aa h ag he
 refine .tn (qp (x:= "sorted") (p:=p) (pos:=pos) qX hg hm boot_sorted (g_ L) (by decide) (by decide) he rfl) fun σ G H ρ Q hs P F k=>⟨G,ρ,hs,P,?_,fun S T vs C H1 u p1=> ?_⟩
 ·have F:=F.fst
  show OkR E H ((f ρ).bind fun d=> .ok [d])
  cases q:f ρ with
  | ok d=>trivial
  | exc c=>rw [q] at F; exact F
  | bad=>rw [q] at F; exact F
 ·have B:∃ d,f ρ= .ok d∧S=[d]:=by
   have T:((f ρ).bind fun d=>(.ok [d]:Res (List D)))= .ok S:=T
   cases q:f ρ with
   | ok d=>rw [q] at T; cases T; exact ⟨d,rfl,rfl⟩
   | exc c=>rw [q] at T; cases T
   | bad=>rw [q] at T; cases T
  refine cps fun PP R=> ?_
  obtain ⟨d,B,rfl⟩:=B
  have I:=F.snd B u.hh
  have W:((f ρ).bind fun a=>cq [a])=cq [d]:=by rw [B]; rfl
  obtain ⟨v,r,rfl,y,Y⟩:=p1.inv
  refine R ?_; clear R PP
  rw [Y.inv0]
  unfold cq at I
  split at I
  ·rename_i l hd
   cases hd
   rw [rep_lst] at y
   obtain ⟨q,g,rfl,sq,y⟩:=y
   refine ⟨q,g,rfl,u.gh.seq sq.sq,?_⟩
   by_cases N:l.length < 2
   ·refine .inl ⟨by rw [← y.length]; exact N,fun m hm=> ?_⟩
    obtain ⟨x,o,w⟩:=kl u hm y
    exact k _ (W.trans (if_pos N)) _ _ _ _ x o w
   ·rw [if_neg N] at I
    split at I
    ·rename_i s V
     have J:=i_ V
     split at I
     ·rename_i b
      split at I
      ·rename_i O M
       split at I
       ·rename_i Z
        rw [Bool.and_eq_true] at b
        have U:l.length=s.length:=by rw [J,List.length_map]
        have A:∀ i∈O.toList,i < s.length:=fun i n=>of_decide_eq_true (List.all_eq_true.mp Z.2 i n)
        refine .inr ⟨s,O,nZ u.gh (by rw [← J]; exact y),fun t ht=> ?_,by omega,of_decide_eq_true b.2,M,Z.1,A,fun m hm=> ?_⟩
        ·have:=List.all_eq_true.mp b.1 t ht
         intro z; rw [z] at this; cases this
        ·have rl:RepL X.K C (O.toList.map fun i=> .tup ((s.getD i []).map D.int)) (O.toList.map fun i=>g.getD i .non):=by
          have go:∀ (m:List Nat),(∀ i∈m,i < s.length)→RepL X.K C (m.map fun i=> .tup ((s.getD i []).map D.int)) (m.map fun i=>g.getD i .non):=by
           intro m
           induction m with
           | nil=>intro _; exact .nil
           | cons i m ih=>
            intro hm
            have n:=hm i (List.mem_cons_self ..)
            obtain ⟨v,hv,rv⟩:=y.get (i:=i) (d:= .tup ((s.getD i []).map D.int)) (by
             rw [J,List.getElem?_map,cS n,List.getD_eq_getElem?_getD,cS n]; rfl)
            refine .cons ?_ (ih fun j hj=>hm j (dt hj))
            have e2:g.getD i .non=v:=by rw [List.getD_eq_getElem?_getD,hv]; rfl
            show Rep X.K C _ (g.getD i .non)
            rw [e2]
            exact rv
          exact go _ A
         obtain ⟨x,o,w⟩:=kl u hm rl
         refine k _ (W.trans ?_) _ _ _ _ x o w
         show (if l.length < 2 then _ else _)=_
         rw [if_neg N,V]
         dsimp only
         rw [if_pos (by rw [Bool.and_eq_true]; exact b),M]
         exact if_pos Z
       ·exact I.elim
      ·exact I.elim
     ·exact I.elim
    ·exact I.elim
  ·exact I.elim
end
section
variable{X:Cx}{E:XK}{μ:List Nat}{r n:Nat}
noncomputable def Fq (K:W.Frag)(te tk:TE):TE:=fun σ H Q=>te σ H fun x H1=>tk σ H1 fun k H2=>k= .int (-1)∧∃ a xs,x= .ref a∧fR K H2 a xs∧∀ p,H2 p=none→Q (.ref p) (bu H2 p (.lst xs.reverse))
theorem Bv {e st:Expr}{te tk:TE}{p2 pos:Pos}(he:PE X e te)(hk:PE X st tk):PE X (.Subscript e (.Slice none none (some st) p2) pos) (Fq X.K te tk):=by
 intro B s C H Q I h
 refine Subscript_ (aO (he B s C H _ I h) fun v N P=> ?_)
 obtain ⟨x,U,g,T,J⟩:=P
 refine wpAny_Slice ?_
 rw [evalPart_none,evalPart_some]
 refine wpAny_pure (wpAny_pure (aO (hk B N C U _ g J) fun L u R=> ?_))
 obtain ⟨k,p,n,S,G,a,d,f,sq,l⟩:=R
 subst G f
 cases T
 obtain ⟨t,rfl⟩:=S
 have D:Inv X B C p { u with heap:=u.heap.push { cls:= .type "slice",data:= .fields #[.none,.none,.int (-1) t] } }:=n.kept (t':=u.toks) fun b j q=>Heap.get?_push_of_some _ q
 refine dr (D.list sq) fun m c y E=> ?_
 show wpAny (model X.prog X.w) X.A (subscriptTail e (.Slice none none (some st) p2) (.ref a) (.ref u.heap.objs.size)) (EP X B C Q) X.xe { u with heap:=u.heap.push { cls:= .type "slice",data:= .fields #[.none,.none,.int (-1) t] } }
 refine tail_any (ops:=[.ref a,.ref u.heap.objs.size]) y.isList.typeIs slot_list_getitem.lookup ?_ (by with_unfolding_all rfl)
 refine wpAny_getItem_list_slice (vs:= .int (-1) t) (st:=some (-1)) y.isList (Heap.IsSliceOf.new ..) .none .none (.int _ _) (by decide) ?_ (by rw [List.size_toArray]; have:=c.length; omega)
 rw [W.krv_pick]
 have F:=D.hok.fresh (Nat.le_refl _)
 have Z:Vals d.reverse m.reverse:=by
  have i:∀ {d:List V} {Y:List Value},Vals d Y→Vals d.reverse Y.reverse:=by
   intro d
   induction d with
   | nil=>intro Y h; cases h; exact .nil
   | cons x d z=>
    intro Y h
    cases h with
    | cons r Z=>
     rw [List.reverse_cons,List.reverse_cons]
     exact (z Z).append (.cons r .nil)
  exact i c
 refine ⟨.ref _,_,D.laid (t':=u.toks) (o:= .lst d.reverse) (fun b j q=>Heap.get?_push_of_some _ q) (Nat.le_refl _) ?_,rfl,l _ F⟩
 exact (lQ (by rw [List.length_reverse]; exact E) m.reverse 0 Z (Heap.get?_push_size _ rfl))
noncomputable def qw:D→D→Res D
 | .lst l,.int k=>if k= -1 then .ok (.lst l.reverse) else .bad
 | _,_=> .bad
theorem BC {e st:Expr}{f g:DS→Res D}{p2 pos:Pos}(he:PD X E e f)(hk:PD X E st g):PN X E 1 (.Subscript e (.Slice none none (some st) p2) pos) (ae f g qw):=by
 refine .tn (Bv (pos:=pos) (p2:=p2) (dq he) (dq hk)) fun B G H b Q L m F k=>⟨G,b,L,m,F.fst,fun d U v q S s z=>⟨q,b,s.gh,m.mono s.gg,(F.snd U s.hh).fst,fun J y M r i t p2=> ?_⟩⟩
 have I:=(F.snd U s.hh).snd y t.hh
 have K:ae f g qw b=qw d J:=by unfold ae; rw [U,aq,y,aq]
 unfold qw at I
 split at I
 ·rename_i l A
  split at I
  ·rename_i u
   subst u
   rw [rep_lst] at z
   rw [rep_int] at p2
   refine bL (z) fun a h T sq c=> ?_; subst T
   refine (De p2 a h rfl (t.hh.seq (s.gh.seq sq.sq)) (fun p Z=> ?_))
   obtain ⟨x,o,w⟩:=kl (s.trans t) Z (c.mono t.gg).reverse
   exact k _ (by rw [K]; unfold qw; exact if_pos rfl) _ _ _ _ x o w
  ·exact I.elim
 ·exact I.elim
theorem dW {st:Stmt}:j1 X E μ r st (fun _=> .bad):=fun _ _ _ _ _ _ _ _ _ _ _ D=>D.elim
end
noncomputable def iS (n:Nat)(N:List Str)(F:DS→Out):List D→Res D:=fun ds=>if ds.length=n then e8 (F (aA N ds)) else .bad
section
variable{P:Program}{w:World}{K:W.Frag}{mg:Str→Option Value}{base:Heap}
structure Cal (P:Program)(w:World)(K:W.Frag)(mg:Str→Option Value)(base:Heap)(x:Str)(k:Nat)(ps:List Str)(sp:Sp):Prop where
 ex:∃ f fd,FnOk P w K mg base (CXF P w) k f fd ps sp∧Binds K fd ps []∧mg x=some (.ref f)∧W.keepIn K (.ref f)=true
structure Sta (K:W.Frag)(mg:Str→Option Value)(x:Str)(st:Stmt)(ps:List Str):Prop where
 ex:∃ f fd,Fun K x x st f fd∧Binds K fd ps []∧mg x=some (.ref f)∧W.keepIn K (.ref f)=true
theorem Sta.cal {x:Str}{st:Stmt}{N ps:List Str}{k r n:Nat}{F:DS→Out}(S:Sta K mg x st ps)(sc:FnScope N ps (ah st))(μ:List Nat)(hμ:∀ i,i < ps.length→μ.getD i 0=0)(hn:ps.length=n)
  (hbody:∀ (f:Addr) (cdv:Value) (A:Around) (outer:List Env) (s:Shared) (H:Hp) (E:XK),Room k (A.deeper (envOfC x (ah st) s.heap.objs.size f cdv))→
   qS (qQ P w K mg base N x (ah st) f cdv A outer s H E) E μ r (b_ st) F):Cal P w K mg base x (k+1) ps (freshSp K r (iS n N F)):=by
 refine mH (S.ex) fun f U L u B O=> ?_
 refine ⟨f,U,L.fresh sc μ hμ (fun g h=> ?_) (fun cdv A outer s H E Q=>⟨F,hbody f cdv A outer s H E Q,fun g h=> ?_⟩),u,B,O⟩
 ·unfold iS at h
  split at h
  ·rename_i e; rw [e,hn]
  ·exact absurd rfl h
 ·unfold iS at h ⊢
  split at h
  ·rename_i e; rw [if_pos e]
  ·exact absurd rfl h
end
section
variable{X:Cx}{E:XK}{n:Nat}
theorem qq {k j:Nat}{ps:List Str}{m:List D→Res D}{x:Str}{p pos:Pos}{e:Expr}{es:List Expr}{fs:DS→Res (List D)}(C:Cal X.prog X.w X.K X.mg X.base x k ps (freshSp X.K n m))(hr:Room j X.A)
  (ha:j0 X E (e :: es) fs) (hx:cv (CXF X.prog X.w) X E:=by exact fT fun _ _ _ h=>h) (hkj:k≤j:=by decide) (hg:Gl X x:=by rfl) (hdb:(x == ("__debug__" :Str))=false:=by decide) (he:starEach (e :: es) X.env=(false,eval e X.env) :: starEach es X.env:=by rfl) (hpl:(backTo pos (starEach es X.env)).any (·.1)=false:=by rfl) :
  PN X E n (.Call (.Name x p) (e :: es) [] pos) (bv fs m):=by
 refine mH (C.ex) fun f U F u B O=> ?_
 exact yL F (hr.mono hkj) hg B O u hx ha hdb he hpl
theorem aD {k j:Nat}{ps:List Str}{m:List D→Res D}{x:Str}{p pos:Pos}{e:Expr}{es:List Expr}{fs:DS→Res (List D)}(C:Cal X.prog X.w X.K X.mg X.base x k ps (freshSp X.K n m))(hr:Room j X.A)
  (ha:j0 X E (e :: es) fs) (hx:cv (CXF X.prog X.w) X E:=by exact fT fun _ _ _ h=>h) (hkj:k≤j:=by decide) (hg:Gl X x:=by rfl) (hdb:(x == ("__debug__" :Str))=false:=by decide) (he:starEach (e :: es) X.env=(false,eval e X.env) :: starEach es X.env:=by rfl) (hpl:(backTo pos (starEach es X.env)).any (·.1)=false:=by rfl) :
  PD X E (.Call (.Name x p) (e :: es) [] pos) (bv fs m):=(qq C hr ha hx hkj hg hdb he hpl).pd
end
noncomputable def eN (so:Scope)(No:List Str)(scope:Scope):List Str→List (Option Nat)→Bool
 | x :: N,some k :: caps=>decide (scope.names.lookup x=some .free) && decide (No[k]?=some x) && (decide (so.names.lookup x=some .cell) || decide (so.names.lookup x=some .free)) && eN so No scope N caps
 | _ :: N,none :: caps=>eN so No scope N caps
 | [],[]=>true
 | _,_=>false
theorem je {so:Scope}{No:List Str}{scope:Scope}:∀ {N:List Str} {caps:List (Option Nat)},eN so No scope N caps=true→caps.length=N.length
 | [],[],_=>rfl
 | [],_ :: _,h=>by unfold eN at h; cases h
 | _ :: _,[],h=>by unfold eN at h; cases h
 | x :: N,none :: caps,h=>by unfold eN at h; rw [List.length_cons,List.length_cons,je h]
 | x :: N,some k :: caps,h=>by unfold eN at h; rw [Bool.and_eq_true] at h; rw [List.length_cons,List.length_cons,je h.2]
theorem iJ {so:Scope}{No:List Str}{scope:Scope}:∀ {N:List Str} {caps:List (Option Nat)} {j k:Nat} {x:Str},eN so No scope N caps=true→caps[j]?=some (some k)→N[j]?=some x→scope.names.lookup x=some .free∧No[k]?=some x∧(so.names.lookup x=some .cell∨so.names.lookup x=some .free)
 | [],[],j,k,x,_,h1,h2=>by simp at h1
 | [],_ :: _,j,k,x,h,h1,h2=>by simp at h2
 | _ :: _,[],j,k,x,h,h1,h2=>by simp at h1
 | y :: N,none :: caps,j,k,x,h,h1,h2=>by
  unfold eN at h
  cases j with
  | zero=>simp at h1
  | succ j=>exact iJ h (by simpa using h1) (by simpa using h2)
 | y :: N,some k0 :: caps,j,k,x,h,h1,h2=>by
  unfold eN at h
  rw [Bool.and_eq_true,Bool.and_eq_true,Bool.and_eq_true,Bool.or_eq_true] at h
  obtain ⟨⟨⟨a,b⟩,c⟩,d⟩:=h
  cases j with
  | zero=>
   simp at h1 h2
   subst h1 h2
   exact ⟨of_decide_eq_true a,of_decide_eq_true b,c.imp of_decide_eq_true of_decide_eq_true⟩
  | succ j=>exact iJ d (by simpa using h1) (by simpa using h2)
noncomputable def su (so:Scope)(No:List Str)(scope:Scope)(N:List Str)(caps:List (Option Nat)):Bool:=
 decide (scope.kind= .function) && scope.names.all (fun y=>decide (y.2≠ .cell)) && scope.names.all (fun y=>decide (y.2≠ .local) || decide (scope.names.lookup y.1=some .local)) &&
  scope.names.all (fun y=>decide (y.2≠ .free) || (decide (so.names.lookup y.1=some .cell) || decide (so.names.lookup y.1=some .free))) && decide N.Nodup && eN so No scope N caps
theorem bf {X:Cx}{scope:Scope}{N:List Str}{caps:List (Option Nat)}(so:Scope)(No:List Str)(hso:X.env.scope=so)(hNo:X.N=No)(chk:su so No scope N caps=true):CompSc X scope N caps:=by
 unfold su at chk
 simp only [Bool.and_eq_true] at chk
 obtain ⟨⟨⟨⟨⟨a,b⟩,c⟩,d⟩,e⟩,f⟩:=chk
 refine ⟨of_decide_eq_true a,fun y B=>of_decide_eq_true (List.all_eq_true.mp b y B),fun y B O=> ?_,fun y B O=> ?_,of_decide_eq_true e,je f,fun j k x g h=>(iJ f g h).1,fun j k x g h=> ?_⟩
 ·have:=List.all_eq_true.mp c y B
  rw [Bool.or_eq_true] at this
  rcases this with z | z
  ·exact absurd O (of_decide_eq_true z)
  ·exact of_decide_eq_true z
 ·have:=List.all_eq_true.mp d y B
  rw [Bool.or_eq_true,Bool.or_eq_true] at this
  rw [hso]
  rcases this with z | z | z
  ·exact absurd O (of_decide_eq_true z)
  ·exact .inl (of_decide_eq_true z)
  ·exact .inr (of_decide_eq_true z)
 ·obtain ⟨_,A,E⟩:=iJ f g h
  rw [hso,hNo]
  exact ⟨A,E⟩
noncomputable abbrev pN:DS→Res (List D):=fun _=> .ok []
noncomputable abbrev pC (f:DS→Res D)(g:DS→Res (List D)):DS→Res (List D):=fun ρ=>(f ρ).bind fun d=>(g ρ).bind fun ds=> .ok (d :: ds)
noncomputable abbrev kI (i:Int):DS→Res D:=fun _=> .ok (.int i)
noncomputable abbrev kB (b:Bool):DS→Res D:=fun _=> .ok (.bl b)
noncomputable abbrev kN:DS→Res D:=fun _=> .ok .non
noncomputable abbrev c1 (f:DS→Res D)(m:List D→Res D):DS→Res D:=fun ρ=>(f ρ).bind fun a=>m [a]
section
variable{X:Cx}{E:XK}{μ:List Nat}{r n:Nat}
theorem BA {st:Stmt}{i:Nat}{x:Str}{f:DS→Res D}(h:∃ te,PS X st (qG te (cc i))∧TN X.K E n f te)(hi:X.N[i]?=some x)(hm:μ.getD i 0=0):j1 X E μ r st (aQ i (cE μ f)):=
 let ⟨_,h1,h2⟩:=h; tt hi h1 h2.freeze hm
theorem rQ {st:Stmt}{i:Nat}{x:Str}{f:DS→Res D}(h:∃ te,PS X st (qG te (cc i))∧TN X.K E n f te)(hi:X.N[i]?=some x)(hm:μ.getD i 0=n):j1 X E μ r st (aQ i (cE μ f)):=
 let ⟨_,h1,h2⟩:=h; tt hi h1 h2 hm
theorem DV {st:Stmt}{i:Nat}{x:Str}{f:DS→Res D}(h:∃ te,PS X st (qG te (cc i))∧TN X.K E n f te)(hi:X.N[i]?=some x):j1 X E [] r st (aQ i f):=by
 have:=BA (μ:=[]) (r:=r) h hi rfl
 unfold cE at this
 simp only [jG] at this
 exact this
noncomputable abbrev sL (f:DS→Res D):DS→Res (List D):=fun ρ=>(f ρ).bind BK
noncomputable abbrev sT (f:DS→Res D):DS→Res (List D):=fun ρ=>(f ρ).bind BP
noncomputable abbrev sR1 (fs:DS→Res (List D)):DS→Res (List D):=fun ρ=>(fs ρ).bind mQ
noncomputable abbrev sR2 (fs:DS→Res (List D)):DS→Res (List D):=fun ρ=>(fs ρ).bind wH
noncomputable abbrev sE (fs:DS→Res (List D)):DS→Res (List D):=fun ρ=>(fs ρ).bind pK
noncomputable abbrev sZ (fs:DS→Res (List D)):DS→Res (List D):=fun ρ=>(fs ρ).bind pp
noncomputable abbrev oI (f:DS→Res D):DS→Res (Option Int):=fun ρ=>(f ρ).bind EI
noncomputable abbrev oN:DS→Res (Option Int):=fun _=> .ok none
noncomputable abbrev nG (f:DS→Res D):DS→Res D:=fun ρ=>(f ρ).bind yt
noncomputable abbrev yes:DS→Res Bool:=fun _=> .ok true
noncomputable abbrev bad1:DS→Out:=fun _=> .bad
noncomputable abbrev nxt:DS→Out:=fun ρ=> .nx ρ
noncomputable abbrev Ca (f:DS→Res D):DS→Res (List D):=fun ρ=>(f ρ).bind fun d=> .ok [d]
end
structure CalM (P:Program)(w:World)(K:W.Frag)(mg:Str→Option Value)(base:Heap)(C:Addr)(m:Str)(k:Nat)(g:List D→Res D):Prop where
 cl:Cls K C
 ex:∃ f fd,Meth K C m f∧FnOk P w K mg base (CXF P w) k f fd ["self"] (pureSp K g)∧Binds K fd ["self"] []
structure CalI (P:Program)(w:World)(K:W.Frag)(mg:Str→Option Value)(base:Heap)(x:Str)(C:Addr)(k:Nat)(ps:List Str)(m:List D→Res D):Prop where
 of:zK C m
 mgx:mg x=some (.ref C)
 ex:∃ f fd,Mk K C f∧FnOk P w K mg base (CXF P w) k f fd ps (oD K C m)∧Binds K fd ps []
section
variable{X:Cx}{E:XK}
theorem nO {pl:Sem Bool}{k j:Nat}{C:Addr}{g:List D→Res D}{m:Str}{apos pos:Pos}{o:Expr}{fo:DS→Res D}(M:CalM X.prog X.w X.K X.mg X.base C m k g)(hr:Room j X.A)(hoo:PD X E o fo)
  (hx:cv (CXF X.prog X.w) X E:=by exact fT fun _ _ _ h=>h) (hkj:k≤j:=by decide)
  (ht:eval (.Call (.Attribute o m apos) [] [] pos) X.env=(do
   let ov ← eval o X.env
   standAt apos.atName
   let (f,first) ← holding [ov] (getMethod ov m pl)
   callWith pos f first (backTo pos (starEach [] X.env)) (backToKw pos (keywordEach [] X.env))):=by rfl):PD X E (.Call (.Attribute o m apos) [] [] pos) (iz C m fo g):=by
 refine bL (M.ex) fun f U B F u=> ?_
 exact DO hoo M.cl B F (hr.mono hkj) u hx ht
theorem DP {k j:Nat}{C:Addr}{ps:List Str}{m:List D→Res D}{x:Str}{p pos:Pos}{e:Expr}{es:List Expr}{fs:DS→Res (List D)}(M:CalI X.prog X.w X.K X.mg X.base x C k ps m)(hr:Room j X.A)(ha:j0 X E (e :: es) fs)
  (hx:cv (CXF X.prog X.w) X E:=by exact fT fun _ _ _ h=>h) (hkj:k+1≤j:=by decide) (hg:Gl X x:=by rfl) (hdb:(x == ("__debug__" :Str))=false:=by decide)
  (he:starEach (e :: es) X.env=(false,eval e X.env) :: starEach es X.env:=by rfl) (hpl:(backTo pos (starEach es X.env)).any (·.1)=false:=by rfl):PD X E (.Call (.Name x p) (e :: es) [] pos) (bv fs m):=by
 refine bL (M.ex) fun f U mk F u=> ?_
 exact yB mk F M.of (hr.mono hkj) hg M.mgx u hx ha fun t g=>yG mk F (hr.mono hkj) hg M.mgx u .nil hx g hdb he hpl
end
theorem tK {i:Nat}{ρ:DS}{c:Addr}:ac i ρ≠ .exc c:=by
 unfold ac
 split <;> intro h <;> cases h
theorem rn {a b:D}{c:Addr}:av a b≠ .exc c:=by
 unfold av
 repeat' split
 all_goals (intro h; cases h)
theorem DI {μ:List Nat}{i:Nat}{k:Int}:∀ ρ c,cE μ (ae (ac i) (kI k) av) ρ≠ .exc c:=by
 intro ρ c h
 have h:((ac i (cR μ ρ)).bind fun a=>av a (.int k))= .exc c:=h
 cases q:ac i (cR μ ρ) with
 | ok d=>rw [q] at h; exact rn h
 | exc e=>exact tK q
 | bad=>rw [q] at h; cases h
section
variable{X:Cx}{E:XK}
end
noncomputable def tH (K:W.Frag):Sp:=fun vs H Q _=>∃ (ad:Addr) (sc:List Int),vs=[.ref ad]∧sc.length≤63∧fR K H ad (sc.map V.int)∧∀ H',Q (.bl true) H'
section
variable{P:Program}{w:World}{K:W.Frag}{mg:Str→Option Value}{base:Heap}{r:Nat}
theorem yx {k:Nat}{f:Addr}{fd:FuncData}{m:List D→Res D}(F:FnOk P w K mg base (CXF P w) k f fd ["script"] (freshSp K 0 m))(h:∀ ns:List Int,ns.length≤63→m [.scr ns]= .ok (.bl true)):FnOk P w K mg base (CXF P w) k f fd ["script"] (tH K):=
 F.imp fun s H Q E V=>by
  refine mH (V) fun X W e N sq q=> ?_
  subst e
  refine ⟨[.scr W],H,.refl _,.cons (by unfold Rep; exact ⟨X,rfl,sq⟩) .nil,by rw [h W N]; trivial,fun d p v b O S _ o _=> ?_⟩
  rw [h W N] at p
  cases p
  have r:=o.2
  rw [rep_bl] at r
  rw [r]
  exact q O
theorem Fun.freshM {x qual:Str}{st:Stmt}{f:Addr}{fd:FuncData}{N ps:List Str}{k n:Nat}{F:DS→Out}(Fn:Fun K x qual st f fd)(sc:FnScope N ps (ah st))(μ:List Nat)(hμ:∀ i,i < ps.length→μ.getD i 0=0)(hn:ps.length=n)
  (hbody:∀ (cdv:Value) (A:Around) (outer:List Env) (s:Shared) (H:Hp) (E:XK),Room k (A.deeper (envOfC qual (ah st) s.heap.objs.size f cdv))→
   qS (qQ P w K mg base N qual (ah st) f cdv A outer s H E) E μ r (b_ st) F):FnOk P w K mg base (CXF P w) (k+1) f fd ps (freshSp K r (iS n N F)):=by
 refine Fn.fresh sc μ hμ (fun g h=> ?_) (fun cdv A outer s H E Q=>⟨F,hbody cdv A outer s H E Q,fun g h=> ?_⟩)
 ·unfold iS at h
  split at h
  ·rename_i e; rw [e,hn]
  ·exact absurd rfl h
 ·unfold iS at h ⊢
  split at h
  ·rename_i e; rw [if_pos e]
  ·exact absurd rfl h
end
theorem lX {K:W.Frag}{t:Value}:W.kitOne K t t=some true:=by
 unfold W.kitOne
 rw [if_pos (beq_iff_eq.mpr rfl)]
theorem sS {K:W.Frag}{C D:Addr}{b:Bool}(hne:C≠D)(hc:(W.clsIn K D).isSome=true)(ht:W.typeIn K (.ref D)=some (.type "type"))(hm:W.mroIn K C (.ref D)=some b):W.kitOne K (.ref C) (.ref D)=some b:=by
 unfold W.kitOne
 rw [if_neg (fun q=>hne (Value.ref.inj (beq_iff_eq.mp q)))]
 unfold W.kitCls
 dsimp only
 rw [if_pos (by rw [hc,ht]; rfl)]
 exact hm
theorem AV {K:W.Frag}{C:Addr}{T:String}{b:Bool}(hk:W.kitMeta T=true)(hm:W.mroIn K C (.type T)=some b):W.kitOne K (.ref C) (.type T)=some b:=by
 unfold W.kitOne
 rw [if_neg (fun q=>by have:=beq_iff_eq.mp q; cases this)]
 unfold W.kitCls
 dsimp only
 rw [if_pos hk]
 exact hm
theorem AU {K:W.Frag}:W.kitOne K (.type "int") (.type "bool")=some false:=by
 unfold W.kitOne
 rw [if_neg (by decide +kernel)]
 unfold W.kitCls
 dsimp only
 rw [if_pos (by decide +kernel)]
 show Option.map (fun x=>x.contains (Value.type "bool")) (fastBuiltinMro "int")=some false
 decide +kernel
theorem x_ {K:W.Frag}{C D:Addr}(hb:W.mroIn K D (.type "BaseException")=some true)(hc:(W.clsIn K D).isSome=true)(ht:W.typeIn K (.ref D)=some (.type "type"))(hm:W.mroIn K C (.ref D)=some true):W.exmOne K (.ref C) (.ref D)=some true:=by
 unfold W.exmOne
 have a:W.subIn K (.ref D) (.type "BaseException")=some true:=hb
 rw [if_pos (by rw [a]; rfl)]
 unfold W.kitCls
 dsimp only
 rw [if_pos (by rw [hc,ht]; rfl)]
 exact hm
theorem tV {P:Program}{w:World}{H:Hp}{s:Shared}{e:Value}{s':Shared}(h:CXF P w [] H s (fun _ _ _=>False) e s'):False:=by
 obtain ⟨_,_,_,_,_,_,_,_,_,_,_,_,_,_,q⟩:=h
 exact q
theorem vI (k:Nat){l:W.OpenLaw}{q:Program}{loose:List Str}{XP:(Str→Option Value)→Heap→Prop}{YP:World→Heap→Prop}{d:DefRec}{K:Params→W.Frag}(hr:Room k callerA)(hn:l.most=some 63)(hdf:d.params.defaults=[])
  (hY:∀ (w:World) (h:Heap),YP w h→(K w.params).In h)
  (F:∀ (w:World) (mg:Str→Option Value) (fa:Addr) (h:Heap),(K w.params).In h→h.Ns mainGlobals mg→mg d.name=some (.ref fa)→
   ∃ fd:FuncData,(∀ (s:Shared) (u:Value),BindsTo s fd ⟨[u],[]⟩ [("script",u)])∧∀ base:Heap,(K w.params).In base→base.Ns mainGlobals mg→FnOk l.prog w (K w.params) mg base (CXF l.prog w) k fa fd ["script"] (tH (K w.params))) :
  W.WalkO q loose XP YP l.row.toRowW d [] (fun f vs=>PySem.call f vs):=
 zg (n:=63) (k:=k) (x:= "script") (CX:=fun w=>CXF l.prog w) (sp:=fun w=>tH (K w.params)) hn (by decide) hdf hr hY F (fun _ _ a b N _ X=>(kZ a b rfl N X (fun _=>rfl))) fun _ _ _ _ _ z=>tV z
end L2
namespace L2
open PySem
section
variable{α:Type}{ρ ρ' ρ1:DS}{μ:List Nat}{n j k m:Nat}{f fi':DS→Res D}{fc:DS→Res Bool}{F R:DS→Out}{fi:DS→Res (List D)}{asg:D→DS→Option DS}{o:Option D}{d e:D}{ds l row:List D}
theorem u9:cE μ f ρ=f (cR μ ρ):=id rfl
theorem Aq:Cu μ fi ρ=fi (cR μ ρ):=id rfl
theorem lG:fW n f ρ=(f ρ).bind fun d=>if bw n d=true then .ok d else .bad:=id rfl
theorem Am:cR (0 :: μ) (o :: ρ)=o :: cR μ ρ:=by unfold cR; rw [List.mapIdx_cons]; rfl
theorem Ao:cR ((n+1) :: μ) (o :: ρ)=none :: cR μ ρ:=by unfold cR; rw [List.mapIdx_cons]; rfl
theorem An:cR μ []=[]:=id rfl
theorem xH:dY fi asg F ρ=(fi ρ).out fun ds=>ci asg F ds ρ:=id rfl
theorem u8:ci asg F [] ρ= .nx ρ:=id rfl
theorem oB (h1:asg d ρ=some ρ1)(h2:F ρ1= .nx ρ'):ci asg F (d :: ds) ρ=ci asg F ds ρ':=by
 conv=>lhs; unfold ci
 rw [h1]; dsimp only; rw [h2]
theorem yc (h1:asg d ρ=some ρ1)(h2:F ρ1= .rt e):ci asg F (d :: ds) ρ= .rt e:=by
 conv=>lhs; unfold ci
 rw [h1]; dsimp only; rw [h2]
theorem lL (I:List D→DS→Prop)(step:∀ d ds ρ,I (d :: ds) ρ→∃ ρ1 ρ',asg d ρ=some ρ1∧F ρ1= .nx ρ'∧I ds ρ'):∀ ds ρ,I ds ρ→∃ ρ',ci asg F ds ρ= .nx ρ'∧I [] ρ'
 | [],ρ,h=>⟨ρ,rfl,h⟩
 | d :: ds,ρ,h=>by
  refine bL (step d ds ρ h) fun ρ1 ρ' a b A=> ?_
  obtain ⟨m,E,L⟩:=lL I step ds ρ' A
  exact ⟨m,(oB a b).trans E,L⟩
theorem jF {x:Res D}(I:List D→DS→Prop)(h:I ds ρ)(step:∀ d ds ρ,I (d :: ds) ρ→∃ ρ1 ρ',asg d ρ=some ρ1∧F ρ1= .nx ρ'∧I ds ρ')(fin:∀ ρ',I [] ρ'→e8 (R ρ')=x):e8 ((ci asg F ds ρ).then R)=x:=by
 obtain ⟨ρ',e,o⟩:=lL I step ds ρ h
 rw [e]; exact fin ρ' o
theorem t9 {P:D→Prop}(I:List D→DS→Prop)(h:I ds ρ)(step:∀ d ds ρ,I (d :: ds) ρ→∃ ρ1 ρ',asg d ρ=some ρ1∧F ρ1= .nx ρ'∧I ds ρ')(fin:∀ ρ',I [] ρ'→∃ x,e8 (R ρ')= .ok x∧P x):∃ x,e8 ((ci asg F ds ρ).then R)= .ok x∧P x:=by
 obtain ⟨ρ',e,o⟩:=lL I step ds ρ h
 rw [e]; exact fin ρ' o
theorem uh {l:List (List Int)}:bw 1 (.lst (l.map fun t=> .tup (t.map D.int)))=true:=by
 unfold bw
 rw [List.all_eq_true]
 intro d H
 obtain ⟨t,_,rfl⟩:=List.mem_map.mp H
 exact jj t
theorem bS {i:Int}:bw 0 (.int i)=true:=by unfold bw flat; rfl
theorem pR {t:List Int}:bw 0 (.tup (t.map D.int))=true:=jj t
theorem jE {st:List α→DS→Prop}{c:α→D}:∀ (xs pre:List α) (ρ:DS),st pre ρ→(∀ pre' x post,pre ++ xs=pre' ++ x :: post→∀ ρ,st pre' ρ→∃ ρ1,asg (c x) ρ=some ρ1∧∃ ρ',F ρ1= .nx ρ'∧st (pre' ++ [x]) ρ')→∃ ρ',ci asg F (xs.map c) ρ= .nx ρ'∧st (pre ++ xs) ρ'
 | [],pre,ρ,h,_=>⟨ρ,rfl,by rw [List.append_nil]; exact h⟩
 | x :: xs,pre,ρ,h,step=>by
  refine FI (step pre x xs rfl ρ h) fun ρ1 a ρ' b A=> ?_
  obtain ⟨m,E,L⟩:=jE xs (pre ++ [x]) ρ' A fun pre' y post e=>step pre' y post (by rw [← e,List.append_assoc]; rfl)
  refine ⟨m,(oB a b).trans E,?_⟩
  rw [List.append_assoc] at L
  exact L
theorem mh {x:Res D}{xs:List α}{c:α→D}(st:List α→DS→Prop)(h:st [] ρ)(step:∀ pre y post,xs=pre ++ y :: post→∀ ρ,st pre ρ→∃ ρ1,asg (c y) ρ=some ρ1∧∃ ρ',F ρ1= .nx ρ'∧st (pre ++ [y]) ρ')(fin:∀ ρ',st xs ρ'→e8 (R ρ')=x):e8 ((ci asg F (xs.map c) ρ).then R)=x:=by
 obtain ⟨ρ',e,o⟩:=jE (asg:=asg) (F:=F) (c:=c) xs [] ρ h step
 rw [e]; exact fin ρ' o
theorem nR {P:DS→Prop}{xs:List α}{c:α→D}(st:List α→DS→Prop)(h:st [] ρ)(step:∀ pre y post,xs=pre ++ y :: post→∀ ρ,st pre ρ→∃ ρ1,asg (c y) ρ=some ρ1∧∃ ρ',F ρ1= .nx ρ'∧st (pre ++ [y]) ρ')(fin:∀ ρ',st xs ρ'→∃ ρ'',R ρ'= .nx ρ''∧P ρ''):∃ ρ'',(ci asg F (xs.map c) ρ).then R= .nx ρ''∧P ρ'':=by
 obtain ⟨ρ',e,o⟩:=jE (asg:=asg) (F:=F) (c:=c) xs [] ρ h step
 rw [e]; exact fin ρ' o
theorem yP {P:DS→Prop}{xs:List α}{c:α→D}(st:List α→DS→Prop)(h:st [] ρ)(step:∀ pre y post,xs=pre ++ y :: post→∀ ρ,st pre ρ→∃ ρ1,asg (c y) ρ=some ρ1∧∃ ρ',F ρ1= .nx ρ'∧st (pre ++ [y]) ρ')(fin:∀ ρ',st xs ρ'→P ρ'):∃ ρ'',ci asg F (xs.map c) ρ= .nx ρ''∧P ρ'':=by
 obtain ⟨ρ',e,o⟩:=jE (asg:=asg) (F:=F) (c:=c) xs [] ρ h step
 exact ⟨ρ',e,fin ρ' o⟩
theorem mF (I:Nat→DS→Prop)(Dn:DS→Prop)(h:∀ n ρ,I n ρ→(fc ρ= .ok false∧Dn ρ)∨(fc ρ= .ok true∧∃ m ρ',n=m+1∧F ρ= .nx ρ'∧I m ρ')):∀ (n k:Nat) (ρ:DS),n < k→I n ρ→∃ ρ',cL fc F k ρ= .nx ρ'∧Dn ρ'
 | n,k+1,ρ,hk,hI=>by
  rcases h n ρ hI with ⟨a,b⟩ | ⟨a,m,ρ',rfl,b,A⟩
  ·refine ⟨ρ,?_,b⟩
   conv=>lhs; unfold cL
   rw [a]; rfl
  ·obtain ⟨o,E,L⟩:=mF I Dn h m k ρ' (by omega) A
   refine ⟨o,?_,L⟩
   rw [← E]
   conv=>lhs; unfold cL
   rw [a,aU,if_pos rfl,b]
theorem qI {x:Res D}(I:Nat→DS→Prop)(Dn:DS→Prop)(n:Nat)(hn:n < k)(h0:I n ρ)(h:∀ n ρ,I n ρ→(fc ρ= .ok false∧Dn ρ)∨(fc ρ= .ok true∧∃ m ρ',n=m+1∧F ρ= .nx ρ'∧I m ρ'))(fin:∀ ρ',Dn ρ'→e8 (R ρ')=x):e8 ((cL fc F k ρ).then R)=x:=by
 obtain ⟨ρ',e,o⟩:=mF I Dn h n k ρ hn h0
 rw [e]; exact fin ρ' o
theorem nK {c:α→D}:∀ (l:List α) (n:Nat),bU n (l.map c)=(l.zipIdx n).map fun q=> .tup [.int (q.2:Int),c q.1]
 | [],n=>rfl
 | x :: l,n=>by
  rw [List.map_cons,List.zipIdx_cons,List.map_cons]
  unfold bU
  rw [nK l (n+1)]
theorem oo {c:α→D}{l:List α}:pK [.lst (l.map c)]= .ok (l.zipIdx.map fun q=> .tup [.int (q.2:Int),c q.1]):=by
 unfold pK; dsimp only; rw [nK]
theorem tM {β:Type}{c:α→D}{c':β→D}:∀ (l:List α) (l':List β),iV (l.map c) (l'.map c')=(l.zip l').map fun q=> .tup [c q.1,c' q.2]
 | [],_=>by unfold iV; rfl
 | _ :: _,[]=>by unfold iV; rfl
 | a :: l,b :: l'=>by
  rw [List.map_cons,List.map_cons,List.zip_cons_cons,List.map_cons]
  unfold iV
  rw [tM l l']
theorem oA {β:Type}{c:α→D}{c':β→D}{l:List α}{l':List β}:pp [.lst (l.map c),.lst (l'.map c')]= .ok ((l.zip l').map fun q=> .tup [c q.1,c' q.2]):=by
 unfold pp; dsimp only; rw [tM]
theorem ku {l:List α}{c:Nat→D}:(List.range l.length).map c=l.zipIdx.map fun q=>c q.2:=by
 have:l.zipIdx.map Prod.snd=List.range l.length:=by rw [List.zipIdx_map_snd,List.range_eq_range']
 rw [← this,List.map_map]; rfl
theorem gP (h:ac j ρ= .ok d):ρ[j]?=some (some d):=by
 unfold ac at h
 split at h
 ·rename_i x e; cases h; exact e
 ·cases h
theorem eS (h:n≤100000):aN n=true:=decide_eq_true h
theorem jh (h:ac j ρ= .ok (.lst l))(hf:f ρ= .ok d)(hl:l.length≤100000):fS j f ρ= .nx (ρ.set j (some (.lst (l ++ [d])))):=by
 unfold fS
 rw [gP h]; dsimp only
 rw [hf,aU,if_pos (eS hl)]
theorem en (h:m < n):iT n (m:Int)=some m:=by
 unfold iT
 rw [if_pos (by omega),if_pos (by omega)]; simp
theorem oz (h:ac j ρ= .ok (.lst l))(hf:f ρ= .ok d)(hi:fi' ρ= .ok (.int m))(hm:m < l.length):mx j fi' f ρ= .nx (ρ.set j (some (.lst (l.set m d)))):=by
 unfold mx
 rw [gP h]; dsimp only
 rw [hf,aU,hi,aU]
 unfold oW
 dsimp only
 rw [en hm]
theorem sF (h:ac j ρ= .ok (.lst l))(hi:fi' ρ= .ok (.int m))(hf:f ρ= .ok d)(hm:l[m]?=some (.lst row))(hr:row.length≤100000):kv j fi' f ρ= .nx (ρ.set j (some (.lst (l.set m (.lst (row ++ [d])))))):=by
 unfold kv
 rw [gP h]; dsimp only
 rw [hi,aU,hf,aU]
 unfold js
 dsimp only
 rw [en (dZ hm).1]
 dsimp only
 rw [hm]
 dsimp only
 rw [if_pos (eS hr)]
theorem u7 {fe:DS→Res D}{ft:DS→Res Bool}{caps:List (Option Nat)}{xs:List α}{c:α→D}{p:α→Bool}{g:α→D}(hi:fi ρ= .ok (xs.map c))(hl:xs.length≤100000)
  (h:∀ x∈xs,∃ ρ',asg (c x) (cI caps ρ)=some ρ'∧ft ρ'= .ok (p x)∧(p x=true→fe ρ'= .ok (g x))):bc fi caps asg ft fe ρ= .ok (.lst ((xs.filter p).map g)):=by
 unfold bc
 rw [hi,aq,if_pos (eS (by rw [List.length_map]; exact hl))]
 have P:∀ E:List α,(∀ x∈E,∃ ρ',asg (c x) (cI caps ρ)=some ρ'∧ft ρ'= .ok (p x)∧(p x=true→fe ρ'= .ok (g x)))→
   bG (mG asg (cI caps ρ) ft) (mG asg (cI caps ρ) fe) (E.map c)= .ok ((E.filter p).map g):=by
  intro E
  induction E with
  | nil=>intro _; rfl
  | cons y E s=>
   intro h
   refine dr (h y (List.mem_cons_self ..)) fun ρ' a b A=> ?_
   have s:=s fun x B=>h x (dt B)
   rw [List.map_cons]
   unfold bG
   have T:mG asg (cI caps ρ) ft (c y)= .ok (p y):=by unfold mG; rw [a]; exact b
   rw [T]
   cases q:p y with
   | true=>
    dsimp only
    have t:mG asg (cI caps ρ) fe (c y)= .ok (g y):=by unfold mG; rw [a]; exact A q
    rw [t]; dsimp only
    rw [s,aq,List.filter_cons_of_pos q]; rfl
   | false=>
    dsimp only
    rw [s,List.filter_cons_of_neg (by rw [q]; exact Bool.false_ne_true)]
 rw [P xs h,aq]
theorem bg {fe:DS→Res D}{caps:List (Option Nat)}{xs:List α}{c:α→D}{g:α→D}(hi:fi ρ= .ok (xs.map c))(hl:xs.length≤100000)
  (h:∀ x∈xs,∃ ρ',asg (c x) (cI caps ρ)=some ρ'∧fe ρ'= .ok (g x)):bc fi caps asg yes fe ρ= .ok (.lst (xs.map g)):=by
 have:=u7 (p:=fun _=>true) (ft:=yes) hi hl fun x B=>(h x B).imp fun ρ' h=>⟨h.1,rfl,fun _=>h.2⟩
 rw [List.filter_eq_self.mpr fun _ _=>rfl] at this
 exact this
theorem b3 {N:List Str}(h:ds.length=n):iS n N F ds=e8 (F (aA N ds)):=if_pos h
theorem bi {g:α→D}{l:List α}{v:α}{i:Nat}(h:l[i]?=some v):av (.lst (l.map g)) (.int i)= .ok (g v):=ji (sk (by rw [List.getElem?_map,h]; rfl))
theorem fz {g:α→D}{l:List α}:bj [.lst (l.map g)]= .ok (.int l.length):=by rw [sC,List.length_map]
theorem vO {a:Int}{ns:List Int}:mP [.lst ((a :: ns).map D.int)]= .ok (.int (kg (a :: ns))):=by unfold mP; dsimp only; rw [fw]
theorem yr {t:List Int}{ts:List (List Int)}:iA [.lst ((t :: ts).map fun t=> .tup (t.map D.int))]= .ok (.tup ((fy t ts).map D.int)):=by unfold iA; dsimp only; rw [hJ]
theorem yS {n:Nat}:mm 0 n=(List.range n).map fun (i:Nat)=>D.int (i:Int):=by
 unfold mm
 refine List.map_congr_left fun i _=> ?_
 rw [Int.zero_add]
theorem cb {n:Nat}(h:n < 1000000):mQ [.int (n:Int)]= .ok ((List.range n).map fun (i:Nat)=>D.int (i:Int)):=by
 unfold mQ
 dsimp only
 have:cK (n:Int)=true:=by unfold cK; rw [Bool.and_eq_true,decide_eq_true_eq,decide_eq_true_eq]; omega
 rw [if_pos this,Int.toNat_natCast,yS]
theorem oy {a b:Int}(h0: -1000000≤a)(h1:a < 1000000)(h2: -1000000≤b)(h3:b < 1000000):wH [.int a,.int b]= .ok (mm a (b - a).toNat):=by
 unfold wH
 dsimp only
 have:(cK a && cK b)=true:=by unfold cK; simp only [Bool.and_eq_true,decide_eq_true_eq]; omega
 rw [if_pos this]
theorem ot {ns:List Int}:bj [.scr ns]= .ok (.int ns.length):=id rfl
theorem As {ns:List Int}{i n:Int}(h:atI ns i=some n):av (.scr ns) (.int i)= .ok (.int n):=by unfold av; dsimp only; rw [h]
theorem lI {i j:Int}(h1: -(2 ^ 64) < j)(h2:j < 2 ^ 64):iB (.int i) (.int j)= .ok (.int (i * j)):=by
 unfold iB zD; rw [xN h1 h2]
theorem lH {i j:Int}(h1: -(2 ^ 64) < i)(h2:i < 2 ^ 64):iB (.int i) (.int j)= .ok (.int (i * j)):=by
 unfold iB zD; rw [xM h1 h2]
noncomputable def cellOf (ns:List Int)(k:Int):Int:=if ns.length=0 then 7 else ns.getD (k % ns.length).toNat 0
noncomputable def mB (ns:List Int)(k:Int):Int:=(cellOf ns k * 48271+(k+1) * 7919+ns.length) % 2147483647
noncomputable def Ec (ns:List Int)(k:Int):Int:=(mB ns k * mB ns k+k * 16807+11) % 2147483647
noncomputable def drawn (ns:List Int)(k many:Int):Int:=Ec ns k * 48271 % 2147483647 / 16 % many
theorem za {ns:List Int}{k:Int}:0≤mB ns k∧mB ns k < 2147483647:=⟨Int.emod_nonneg _ (by decide),Int.emod_lt_of_pos _ (by decide)⟩
theorem eh {ns:List Int}{k many:Int}(h:0 < many):0≤drawn ns k many∧drawn ns k many < many:=⟨Int.emod_nonneg _ (by omega),Int.emod_lt_of_pos _ h⟩
theorem xx {ns:List Int}{k:Int}(hz:ns.length≠0):atI ns (k % (ns.length:Int))=some (cellOf ns k):=by
 have Y:0≤k % (ns.length:Int):=Int.emod_nonneg _ (by omega)
 have h:k % (ns.length:Int) < ns.length:=Int.emod_lt_of_pos _ (by omega)
 refine hV Y ?_
 have o:(k % (ns.length:Int)).toNat < ns.length:=by omega
 rw [cS o]
 unfold cellOf
 rw [if_neg hz]
 simp [List.getD,cS o]
end
end L2
namespace L2
open PySem PySem.Spec PyProof.Rows
theorem AllW.erase {P:D→V→List Addr→Prop}:∀ {ds:List D} {vs:List V} {S:List Addr} (i:Nat),AllW P ds vs S→∃ S',AllW P (ds.eraseIdx i) (vs.eraseIdx i) S'∧S'.Sublist S
 | [],_,S,i,h=>by rw [h.1,h.2]; exact ⟨[],⟨rfl,rfl⟩,List.Sublist.refl _⟩
 | d :: ds,_,_,0,h=>by
  refine lh (h) fun v r A B T t a b=> ?_
  subst T t
  exact ⟨B,b,List.sublist_append_right ..⟩
 | d :: ds,_,_,i+1,h=>by
  refine lh (h) fun v r A B T t a b=> ?_
  subst T t
  obtain ⟨S',N,M⟩:=AllW.erase i b
  exact ⟨A ++ S',(lU v _ A S' rfl rfl a N),List.Sublist.append (List.Sublist.refl _) M⟩
theorem AllW.zero {K:W.Frag}{G H:Hp}:∀ {ds:List D} {vs:List V} {S:List Addr},AllW (Ow K G H 0) ds vs S→S=[]∧RepL K G ds vs
 | [],_,_,h=>by rw [h.1,h.2]; exact ⟨rfl,.nil⟩
 | d :: ds,_,_,h=>by
  refine lh (h) fun v r A B T t a b=> ?_
  obtain ⟨e,C⟩:=AllW.zero b
  subst T t e
  rw [a.1]
  exact ⟨rfl,.cons a.2 C⟩
theorem AllW.of0 {K:W.Frag}{G H:Hp}:∀ {ds:List D} {vs:List V},RepL K G ds vs→AllW (Ow K G H 0) ds vs []
 | [],_,h=>⟨h.inv0,rfl⟩
 | d :: ds,_,h=>by
  refine bL (h.inv) fun v r Z a b=> ?_; subst Z
  exact (lU v r ([]) ([]) rfl rfl ⟨rfl,a⟩ (AllW.of0 b))
theorem RepL.erase {K:W.Frag}{G:Hp}:∀ {ds:List D} {vs:List V} (i:Nat),RepL K G ds vs→RepL K G (ds.eraseIdx i) (vs.eraseIdx i)
 | [],_,i,h=>by rw [h.inv0]; exact .nil
 | d :: ds,_,0,h=>by
  refine bL (h.inv) fun v r b e c=> ?_; subst b
  exact c
 | d :: ds,_,i+1,h=>by
  refine bL (h.inv) fun v r a e c=> ?_; subst a
  exact .cons e (RepL.erase i c)
section
variable{X:Cx}{E:XK}{μ:List Nat}{n:Nat}
noncomputable def SK (X:Cx)(μ:List Nat)(Ge B G:Hp)(pins:List (Addr×Obj))(q:Nat)(o0:Option (Option V))(o:Out)(fl:Flow)(s':Shared):Prop:=
 match fl with
 | .next=>∃ ρ' σ' G' H' fp',o= .nx ρ'∧Inv X pins σ' H' s'∧Rw X.K μ Ge B G' H' σ' ρ' fp'∧Same G G'∧σ'[q]?=o0
 | _=>False
noncomputable def Ce (X:Cx)(E:XK)(μ:List Nat)(q:Nat)(st:Stmt)(F:DS→Out):Prop:=
 ∀ (pins:List (Addr×Obj)) (s:Shared) (σ:St) (Ge B G H:Hp) (ρ:DS) (fp:Nat→List Addr),Inv X pins σ H s→Rw X.K μ Ge B G H σ ρ fp→OkO E B (F ρ)→
  wpAny (model X.prog X.w) X.A (exec st X.env) (SK X μ Ge B G pins q (σ[q]?) (F ρ)) X.xe s
noncomputable def zM (X:Cx)(E:XK)(μ:List Nat)(q:Nat)(sts:List Stmt)(F:DS→Out):Prop:=
 ∀ (pins:List (Addr×Obj)) (s:Shared) (σ:St) (Ge B G H:Hp) (ρ:DS) (fp:Nat→List Addr),Inv X pins σ H s→Rw X.K μ Ge B G H σ ρ fp→OkO E B (F ρ)→
  wpAny (model X.prog X.w) X.A (execs sts X.env) (SK X μ Ge B G pins q (σ[q]?) (F ρ)) X.xe s
variable{q:Nat}
theorem SK.le {Ge B G G1:Hp}{pins:List (Addr×Obj)}{o0:Option (Option V)}{o:Out}{fl:Flow}{s':Shared}(s:Same G G1)(h:SK X μ Ge B G1 pins q o0 o fl s'):SK X μ Ge B G pins q o0 o fl s':=by
 cases fl with
 | next=>refine w6 (h) fun S M b O F e I R t z=> ?_; exact (ym S M b O F e I R (s.trans t) z)
 | brk=>exact h
 | cont=>exact h
 | ret u=>exact h
theorem tj {st:Stmt}{rest:List Stmt}{F R:DS→Out}(h1:Ce X E μ q st F)(h2:zM X E μ q rest R):zM X E μ q (st :: rest) (ay F R):=by
 intro A s C Ge B G H a c I W D
 refine wpAny_execs_cons (aO (h1 A s C Ge B G H a c I W D.fst) fun v N O=> ?_)
 cases v with
 | next=>
  refine w6 (O) fun S M b P J e x K d z=> ?_
  have t:ay F R a=R S:=by unfold ay; rw [e]; rfl
  rw [t,← z]
  exact aO (h2 A N M Ge B b P S J x K (D.snd e (.refl _))) fun r o j=>j.le d
 | brk=>exact O.elim
 | cont=>exact O.elim
 | ret u=>exact O.elim
theorem gH {st:Stmt}{F:DS→Out}(h1:Ce X E μ q st F):zM X E μ q [st] F:=by
 intro A s C Ge B G H a c I W D
 refine wpAny_execs_cons (aO (h1 A s C Ge B G H a c I W D) fun r N O=> ?_)
 cases r with
 | next=>exact wpAny_execs_nil O
 | brk=>exact O.elim
 | cont=>exact O.elim
 | ret u=>exact O.elim
theorem tm {c:Expr}{a b:List Stmt}{pos:Pos}{fc:DS→Res Bool}{Fa Fb:DS→Out}(hc:qR X E c fc)(ha:zM X E μ q a Fa)(hb:zM X E μ q b Fb):Ce X E μ q (.If c a b pos) (dn fc Fa Fb):=by
 intro A s C Ge B G H f g I R D
 refine wpAny_If (aO (hc A s C (jX g G H) H f I R.vh R.ro (D.res.le R.bh)) fun k N d=> ?_)
 obtain ⟨e,r,S,Q,t⟩:=d
 have J:=D.res2 e (Same.refl B)
 have F:dn fc Fa Fb f=if k=true then Fa f else Fb f:=aZ e
 rw [F]
 cases k with
 | true=>rw [if_pos rfl] at J ⊢; exact aO (ha A N C Ge B _ S f g Q (R.grow t) J) fun _ _ q=>q.le (R.gg t)
 | false=>rw [if_neg Bool.false_ne_true] at J ⊢; exact aO (hb A N C Ge B _ S f g Q (R.grow t) J) fun _ _ q=>q.le (R.gg t)
theorem wn {i:Nat}{x:Str}{e:Expr}{pos' pos:Pos}{f:DS→Res D}(hiq:i≠q)(hN:X.N.Nodup)(hi:X.N[i]?=some x)(hx:w_ X.env.scope x)(h:PZ X E μ (μ.getD i 0) e f)(hf:X.fn x=true∨X.env.scope.names.lookup x=some .local:=by first | exact .inl rfl | exact .inr rfl)
  (hsw:swapsWith e (some (.Name x pos')) pos.line X.env=pure false:=by rfl):Ce X E μ q (.Assign [.Name x pos'] e pos) (aQ i f):=by
 intro A s C Ge B G H c k I R J
 have l:i < C.length:=by rw [I.len]; exact (dZ hi).1
 refine aO (wE (pos:=pos) (pos':=pos') hN hi hx (l_ h) hsw hf A s C H { nx:=fun M P=>∃ d v b S,f c= .ok d∧M=C.set i (some v)∧Rw X.K μ Ge B b P C c k∧Same G b∧Ow X.K b P (μ.getD i 0) d v S∧New H b S,bk:=fun _ _=>False,ct:=fun _ _=>False,rt:=fun _ _=>False } I ⟨Ge,B,G,c,k,R,J.res,fun d e v b P S F g L o w=>(rk d v b S e rfl F g o w)⟩) fun r Q O=> ?_
 cases r with
 | next=>
  obtain ⟨M,P,y,d,v,b,S,e,t,F,g,o,w⟩:=O
  subst t
  exact (ym _ _ b P _ (aZ e) y (F.put l o w.1 (fun a z=>⟨(w.2 a z).2,R.bh.free (w.2 a z).1⟩) (fun j _=>R.apart w j)) g (List.getElem?_set_ne hiq))
 | brk=>obtain ⟨_,_,_,O⟩:=O; exact O.elim
 | cont=>obtain ⟨_,_,_,O⟩:=O; exact O.elim
 | ret u=>obtain ⟨_,_,_,_,_,O⟩:=O; exact O.elim
noncomputable def PQ1 (X:Cx)(E:XK)(μ:List Nat)(st:Stmt)(F:DS→Out):Prop:=
 ∀ (pins:List (Addr×Obj)) (s:Shared) (σ:St) (Ge B G H:Hp) (ρ:DS) (fp:Nat→List Addr),Inv X pins σ H s→Rw X.K μ Ge B G H σ ρ fp→OkO E B (F ρ)→
  wpAny (model X.prog X.w) X.A (exec st X.env) (fun fl s'=>fl= .next∧∃ ρ' G' H' fp',F ρ= .nx ρ'∧Inv X pins σ H' s'∧Rw X.K μ Ge B G' H' σ ρ' fp'∧Same G G') X.xe s
theorem PQ1.pk {st:Stmt}{F:DS→Out}(h:PQ1 X E μ st F):Ce X E μ q st F:=fun A s C Ge B G H a c I R D=>
 aO (h A s C Ge B G H a c I R D) fun r V d=>(by refine Ek (d) fun e S b O J T x K f=> ?_; subst e; exact (ym S C b O J T x K f rfl))
theorem PQ1.pm {r:Nat}{st:Stmt}{F:DS→Out}(h:PQ1 X E μ st F):j1 X E μ r st F:=fun A s C Ge B G H a c I R D=>
 aO (h A s C Ge B G H a c I R D) fun t V f=>(by refine Ek (f) fun e S b O J T x K d=> ?_; subst e; exact ⟨S,C,b,O,J,T,x,K,d⟩)
theorem PQ1.of {st:Stmt}{F:DS→Out}{ts:TS}(hp:PS X st ts)
  (h:∀ (σ:St) (Ge B G H:Hp) (ρ:DS) (fp:Nat→List Addr),Rw X.K μ Ge B G H σ ρ fp→OkO E B (F ρ)→
   ts { nx:=fun σ' H'=>∃ ρ' G' fp',F ρ= .nx ρ'∧σ'=σ∧Rw X.K μ Ge B G' H' σ ρ' fp'∧Same G G',bk:=fun _ _=>False,ct:=fun _ _=>False,rt:=fun _ _=>False } σ H):PQ1 X E μ st F:=by
 intro A s σ Ge B G H ρ fp I R D
 refine aO (hp A s σ H _ I (h σ Ge B G H ρ fp R D)) fun r N O=> ?_
 cases r with
 | next=>
  obtain ⟨σ',H',x,ρ',G',fp',T,t,C,d⟩:=O
  subst t
  exact (CQ rfl ρ' G' H' fp' T x C d)
 | brk=>obtain ⟨_,_,_,O⟩:=O; exact O.elim
 | cont=>obtain ⟨_,_,_,O⟩:=O; exact O.elim
 | ret u=>obtain ⟨_,_,_,_,_,O⟩:=O; exact O.elim
noncomputable def kr (j:Nat)(l:List D)(ρ:DS):D→Out
 | .int k=>(match iT l.length k with | some m=>if aN l.length=true then .nx (ρ.set j (some (.lst (l.eraseIdx m)))) else .bad | none=> .bad)
 | _=> .bad
noncomputable def rR (j:Nat)(fi:DS→Res D):DS→Out:=fun ρ=>match ρ[j]? with
 | some (some (.lst l))=>(fi ρ).out (kr j l ρ)
 | _=> .bad
theorem p9 {m:Nat}{k:Int}{t:Nat}(h:aN m=true)(e:iT m k=some t): -(2 ^ 63)≤k∧k < 2 ^ 63:=by
 have N:m≤100000:=of_decide_eq_true h
 refine lf (dM e) fun _ _ a b=> ?_
 omega
theorem BD {j:Nat}{x:Str}{i:Expr}{px apos cpos pos:Pos}{fi:DS→Res D}(hm:μ.getD j 0=n+1)(hN:X.N[j]?=some x)(hv:oe X.env.scope x)(hi:PD X E i fi)
  (hd:(x == ("__debug__" :Str))=false:=by decide) (hcd:(x == ("__classdict__" :Str))=false:=by decide)
  (hs:starEach [i] X.env=(false,eval i X.env) :: starEach [] X.env:=by rfl)
  (hbase:attributeBase (.Name x px) "pop" X.env (eval (.Name x px) X.env)=eval (.Name x px) X.env:=by rfl)
  (hfew:((backTo cpos (starEach [i] X.env)).all (fun x=> !x.1) && (backToKw cpos (keywordEach [] X.env)).all (fun x=>x.1.isSome) && decide (([i].length+([]:List Keyword).length+if ([]:List Keyword).isEmpty=true then 0 else 1) < 30))=true:=by rfl)
  (hline:(apos.endLine == cpos.line)=true:=by rfl)
  (hsw:swapsWith (.Call (.Attribute (.Name x px) "pop" apos) [i] [] cpos) none pos.line X.env=pure false:=by rfl) :
  PQ1 X E μ (.Expr (.Call (.Attribute (.Name x px) "pop" apos) [i] [] cpos) pos) (rR j fi):=by
 have hp:=kO (apos:=apos) (cpos:=cpos) (r:=mj) PySem.F.plainAttrs_list PySem.F.slot_list_pop PySem.F.type_list_pop (show xf X "list.pop" mj from qg) (cx (pos:=px) hN hv hd hcd) (bq (dq hi) dh hs) hbase hfew hline hs rfl
 refine .of (dN hp hsw) fun σ Ge B G H c fp R K=> ?_
 have J:∃ l,c[j]?=some (some (.lst l)):=by
  unfold rR at K
  split at K
  ·rename_i l q; exact ⟨l,q⟩
  ·exact K.elim
 obtain ⟨l,P⟩:=J
 have Z:rR j fi c=(fi c).out (kr j l c):=by
  unfold rR
  rw [P]
 rw [Z] at K ⊢
 refine f_ (R.top P hm) fun a g T o p h3 V=> ?_
 refine (iZ _ o (.inl ⟨rfl,g,.inl (.inl p)⟩) ⟨jX fp G H,c,R.vh,R.ro,K.res.le R.bh,fun di Q vi G1 H1 s U=> ?_⟩)
 have I:=K.res2 Q (Same.refl B)
 unfold kr at I
 split at I
 ·rename_i L
  rw [rep_int] at U
  subst U
  cases f:iT l.length L with
  | none=>rw [f] at I; exact I.elim
  | some m=>
   rw [f] at I
   dsimp only at I
   by_cases h:aN l.length=true
   ·have e0:(fi c).out (kr j l c)= .nx (c.set j (some (.lst (l.eraseIdx m)))):=by
     rw [aZ Q]; unfold kr; dsimp only; rw [f]; exact if_pos h
    have S:=R.grow s
    refine f_ (S.top P hm) fun a2 xs2 T2 O M Y g4=> ?_
    rw [o] at O
    cases O
    rw [s.hh _ _ p] at M
    cases M
    obtain ⟨W,k1,t⟩:=g4.erase m
    have y:=S.nd j
    rw [Y] at y
    have C:∀ b,b∈W→b≠a:=fun b w z=>(List.nodup_cons.mp y).1 (z ▸ t.subset w)
    have R2:=S.relist (l':=l.eraseIdx m) (ys:=g.eraseIdx m) (T':=W) hm o Y (k1.mono fun d v A _ hA z=>z.mono (.refl _) fun b w u e=>by rw [am (C b (hA b w))]; exact e) (t.nodup (List.nodup_cons.mp y).2) fun b w=> .inl (t.subset w)
    have k:m < g.length:=by rw [← V.length]; exact (dM f).2.1
    obtain ⟨b1,b2⟩:=p9 h f
    exact (Dm a g L m (g[m]) rfl rfl (s.hh _ _ p) b1 b2 (by rw [← V.length]; exact (dM f).1) (cS k) _ _ _ e0 rfl R2 (R.gg s))
   ·rw [if_neg h] at I; exact I.elim
 ·exact I.elim
theorem Rw.row0 {K:W.Frag}{Ge B G H:Hp}{σ:St}{ρ:DS}{fp:Nat→List Addr}{j m:Nat}{l row:List D}(R:Rw K μ Ge B G H σ ρ fp)(hm:μ.getD j 0=2)(hr:ρ[j]?=some (some (.lst l)))(hl:l[m]?=some (.lst row)) :
  ∃ a xs b ys,σ[j]?=some (some (.ref a))∧H a=some (.lst xs)∧l.length=xs.length∧xs[m]?=some (.ref b)∧H b=some (.lst ys)∧RepL K G row ys∧∀ row' ys',RepL K G row' ys'→∃ fp',Rw K μ Ge B G (bu H b (.lst ys')) σ (ρ.set j (some (.lst (l.set m (.lst row'))))) fp':=by
 refine f_ (R.top (n:=1) hr hm) fun a xs T d e C E=> ?_
 refine zh (R.row (n:=0) (row':=[]) (ys':=[]) hm d e C E hl) fun b ys U c1 V X Z r v t _=> ?_
 obtain ⟨u,g⟩:=X.zero
 refine (Dg a xs b ys d e E.length c1 V g (fun row' ys' A=> ?_))
 refine zh (R.row (n:=0) (row':=row') (ys':=ys') hm d e C E hl) fun Y k p z y F s w o q i=> ?_
 rw [c1] at z
 cases z
 exact i [] (.of0 A) List.nodup_nil fun c f=>by cases f
theorem Rw.row1 {K:W.Frag}{Ge B G H G1 H1:Hp}{σ:St}{ρ:DS}{fp:Nat→List Addr}{j m:Nat}{l row:List D}(R:Rw K μ Ge B G H σ ρ fp)(x:Ext (jX fp G H) H G1 H1)(hm:μ.getD j 0=2)(hr:ρ[j]?=some (some (.lst l)))(hl:l[m]?=some (.lst row)){a b:Addr}{xs ys:List V}(h1:σ[j]?=some (some (.ref a)))(h2:H a=some (.lst xs))(h3:xs[m]?=some (.ref b))(h4:H b=some (.lst ys)) :
  RepL K (jZ (nu fp) G1) row ys∧∀ row' ys',RepL K (jZ (nu fp) G1) row' ys'→∃ fp',Rw K μ Ge B (jZ (nu fp) G1) (bu H1 b (.lst ys')) σ (ρ.set j (some (.lst (l.set m (.lst row'))))) fp':=by
 refine uM ((R.grow x).row0 hm hr hl) fun E v c ys' T t _ u y s d=> ?_
 rw [h1] at T; cases T
 rw [x.hh _ _ h2] at t; cases t
 rw [h3] at u; cases u
 rw [x.hh _ _ h4] at y; cases y
 exact ⟨s,d⟩
noncomputable def fB (j:Nat)(l:List D)(ρ:DS):D→D→Out
 | .int k,.int h=>(match iT l.length k with
  | some m=>(match l[m]? with
   | some (.lst row)=>(match iT row.length h with | some t=>if aN row.length=true then .nx (ρ.set j (some (.lst (l.set m (.lst (row.eraseIdx t)))))) else .bad | none=> .bad)
   | _=> .bad)
  | none=> .bad)
 | _,_=> .bad
noncomputable def mq (j:Nat)(fi fa:DS→Res D):DS→Out:=fun ρ=>match ρ[j]? with
 | some (some (.lst l))=>(fi ρ).out fun i=>(fa ρ).out fun a=>fB j l ρ i a
 | _=> .bad
theorem uy {j:Nat}{x:Str}{i at':Expr}{px spos apos cpos pos:Pos}{fi fa:DS→Res D}(hm:μ.getD j 0=2)(hN:X.N[j]?=some x)(hv:oe X.env.scope x)(hi:PD X E i fi)(h:PD X E at' fa)(hex:∀ ρ c,fa ρ≠ .exc c)
  (hd:(x == ("__debug__" :Str))=false:=by decide) (hcd:(x == ("__classdict__" :Str))=false:=by decide)
  (hpi:gr i:=by intro _ _; rfl)
  (hs:starEach [at'] X.env=(false,eval at' X.env) :: starEach [] X.env:=by rfl)
  (hbase:attributeBase (.Subscript (.Name x px) i spos) "pop" X.env (eval (.Subscript (.Name x px) i spos) X.env)=eval (.Subscript (.Name x px) i spos) X.env:=by rfl)
  (hfew:((backTo cpos (starEach [at'] X.env)).all (fun x=> !x.1) && (backToKw cpos (keywordEach [] X.env)).all (fun x=>x.1.isSome) && decide (([at'].length+([]:List Keyword).length+if ([]:List Keyword).isEmpty=true then 0 else 1) < 30))=true:=by rfl)
  (hline:(apos.endLine == cpos.line)=true:=by rfl)
  (hsw:swapsWith (.Call (.Attribute (.Subscript (.Name x px) i spos) "pop" apos) [at'] [] cpos) none pos.line X.env=pure false:=by rfl) :
  PQ1 X E μ (.Expr (.Call (.Attribute (.Subscript (.Name x px) i spos) "pop" apos) [at'] [] cpos) pos) (mq j fi fa):=by
 have hp:=kO (apos:=apos) (cpos:=cpos) (r:=mj) PySem.F.plainAttrs_list PySem.F.slot_list_pop PySem.F.type_list_pop (show xf X "list.pop" mj from qg) (nP (pos:=spos) ix_list (cx (pos:=px) hN hv hd hcd) (dq hi) hpi) (bq (dq h) dh hs) hbase hfew hline hs rfl
 refine .of (dN hp hsw) fun σ Ge B G H ρ fp R K=> ?_
 have J:∃ l,ρ[j]?=some (some (.lst l)):=by
  unfold mq at K
  split at K
  ·rename_i l q; exact ⟨l,q⟩
  ·exact K.elim
 obtain ⟨l,P⟩:=J
 have eo:mq j fi fa ρ=(fi ρ).out fun i=>(fa ρ).out fun a=>fB j l ρ i a:=by
  unfold mq
  rw [P]
 rw [eo] at K ⊢
 refine f_ (R.top (n:=1) P hm) fun a xs T p y h3 h4=> ?_
 refine ⟨_,p,jX fp G H,ρ,R.vh,R.ro,K.res.le R.bh,fun di A vi G1 H1 s W=> ?_⟩
 have k:=K.res2 A (Same.refl B)
 have v:∃ d,fa ρ= .ok d:=by
  cases q:fa ρ with
  | ok d=>exact ⟨d,rfl⟩
  | exc c=>exact absurd q (hex ρ c)
  | bad=>rw [q] at k; exact k.elim
 obtain ⟨d0,S⟩:=v
 have I:=k.res2 S (Same.refl B)
 have e0:((fi ρ).out fun i=>(fa ρ).out fun a=>fB j l ρ i a)=fB j l ρ di d0:=by rw [aZ A,aZ S]
 rw [e0]
 unfold fB at I
 split at I
 ·rename_i g O
  rw [rep_int] at W
  subst W
  cases e:iT l.length g with
  | none=>rw [e] at I; exact I.elim
  | some m=>
   rw [e] at I
   dsimp only at I
   split at I
   ·rename_i row Q
    cases u:iT row.length O with
    | none=>rw [u] at I; exact I.elim
    | some t=>
     rw [u] at I
     dsimp only at I
     by_cases f:aN row.length=true
     ·have e1:fB j l ρ (.int g) (.int O)= .nx (ρ.set j (some (.lst (l.set m (.lst (row.eraseIdx t)))))):=by
       unfold fB; dsimp only; rw [e]; dsimp only; rw [Q]; dsimp only; rw [u]; exact if_pos f
      refine uM (R.row0 hm P Q) fun a' xs' b L c1 V c3 Y o Z _=> ?_
      rw [p] at c1; cases c1
      rw [y] at V; cases V
      refine (rk a xs g (.ref b) rfl rfl (.inl (.inl (s.hh _ _ y))) (by unfold L2.atI; rw [← h4.length,e]; exact Y) (.inl ⟨rfl,L,.inl (.inl (s.hh _ _ o))⟩) ⟨G1,ρ,s.gh,R.ro.mono s.gg,?_,fun da z va G2 H2 x2 C=> ?_⟩)
      ·exact (k.res.le R.bh).le s.hh
      ·rw [S] at z
       cases z
       rw [rep_int] at C
       refine cps fun PP U=> ?_
       subst C
       have x:=s.trans x2
       obtain ⟨r1,r2⟩:=R.row1 x hm P Q p y Y o
       obtain ⟨M,R'⟩:=r2 (row.eraseIdx t) (L.eraseIdx t) (r1.erase t)
       have w:t < L.length:=by rw [← Z.length]; exact (dM u).2.1
       obtain ⟨b1,b2⟩:=p9 f u
       refine U ?_; clear U PP
       exact (Dm b L O t (L[t]) rfl rfl (x.hh _ _ o) b1 b2 (by rw [← Z.length]; exact (dM u).1) (cS w) _ _ M e1 rfl R' (R.gg x))
     ·rw [if_neg f] at I; exact I.elim
   ·exact I.elim
 ·exact I.elim
end
section
variable{X:Cx}{E:XK}{μ:List Nat}{n:Nat}
noncomputable def kQ (j:Nat)(l:List D)(ρ:DS)(d:D):D→D→Out
 | .int k,.int h=>(match iT l.length k with
  | some m=>(match l[m]? with
   | some (.lst row)=>(match iT row.length h with | some t=> .nx (ρ.set j (some (.lst (l.set m (.lst (row.set t d)))))) | none=> .bad)
   | _=> .bad)
  | none=> .bad)
 | _,_=> .bad
noncomputable def mw (j:Nat)(fi fa f:DS→Res D):DS→Out:=fun ρ=>match ρ[j]? with
 | some (some (.lst l))=>(f ρ).out fun d=>(fi ρ).out fun i=>(fa ρ).out fun a=>kQ j l ρ d i a
 | _=> .bad
theorem yO {j:Nat}{x:Str}{i at' e:Expr}{px spos tpos pos:Pos}{fi fa f:DS→Res D}(hm:μ.getD j 0=2)(hN:X.N[j]?=some x)(hv:oe X.env.scope x)(hi:PD X E i fi)(ha':PD X E at' fa)(h:PZ X E μ 0 e f)(hex:∀ ρ c,fa ρ≠ .exc c)
  (hd:(x == ("__debug__" :Str))=false:=by decide) (hcd:(x == ("__classdict__" :Str))=false:=by decide)
  (hpi:gr i:=by intro _ _; rfl)
  (ha:∀ v,assign (.Subscript (.Subscript (.Name x px) i spos) at' tpos) X.env v=(do
   let ov ← holding [v] (eval (.Subscript (.Name x px) i spos) X.env)
   let iv ← holding [v,ov] (eval at' X.env)
   standAt tpos
   holding [v,ov,iv] (setItem ov iv v)
   release [v,ov,iv] []):=by intro _; rfl)
  (hs:swapsWithSole [.Subscript (.Subscript (.Name x px) i spos) at' tpos] e pos.line X.env=pure false:=by rfl) (hw:swappedStores [.Subscript (.Subscript (.Name x px) i spos) at' tpos] e X.env=pure none:=by rfl)
  (ho1:(assignEach [.Subscript (.Subscript (.Name x px) i spos) at' tpos] X.env).map (·.2)=[assign (.Subscript (.Subscript (.Name x px) i spos) at' tpos) X.env]:=by rfl) :
  PQ1 X E μ (.Assign [.Subscript (.Subscript (.Name x px) i spos) at' tpos] e pos) (mw j fi fa f):=by
 have hp:=wB (pos:=pos) (l_ h) (wj (pos:=tpos) (nP (pos:=spos) ix_list (cx (pos:=px) hN hv hd hcd) (dq hi) hpi) (dq ha') qF ha) hs hw ho1
 refine .of hp fun σ Ge B G H ρ r R F=> ?_
 have J:∃ l,ρ[j]?=some (some (.lst l)):=by
  unfold mw at F
  split at F
  ·rename_i l q; exact ⟨l,q⟩
  ·exact F.elim
 obtain ⟨l,P⟩:=J
 have eo:mw j fi fa f ρ=(f ρ).out fun d=>(fi ρ).out fun i=>(fa ρ).out fun a=>kQ j l ρ d i a:=by
  unfold mw
  rw [P]
 rw [eo] at F ⊢
 refine ⟨Ge,B,G,ρ,r,R,F.res,fun d Z v G0 H0 S y sg sh o w=> ?_⟩
 have W:=F.res2 Z (Same.refl B)
 refine f_ (y.top (n:=1) P hm) fun a xs T C p h3 h4=> ?_
 refine ⟨_,C,jX r G0 H0,ρ,y.vh,y.ro,W.res.le y.bh,fun di ei vi G1 H1 s ri=> ?_⟩
 have k:=W.res2 ei (Same.refl B)
 have A:∃ d,fa ρ= .ok d:=by
  cases q:fa ρ with
  | ok d=>exact ⟨d,rfl⟩
  | exc c=>exact absurd q (hex ρ c)
  | bad=>rw [q] at k; exact k.elim
 obtain ⟨d0,U⟩:=A
 have I:=k.res2 U (Same.refl B)
 have e0:((f ρ).out fun d=>(fi ρ).out fun i=>(fa ρ).out fun a=>kQ j l ρ d i a)=kQ j l ρ d di d0:=by rw [aZ Z,aZ ei,aZ U]
 rw [e0]
 unfold kQ at I
 split at I
 ·rename_i z L
  rw [rep_int] at ri
  subst ri
  cases g:iT l.length z with
  | none=>rw [g] at I; exact I.elim
  | some m=>
   rw [g] at I
   dsimp only at I
   split at I
   ·rename_i row Q
    cases u:iT row.length L with
    | none=>rw [u] at I; exact I.elim
    | some t=>
     have e1:kQ j l ρ d (.int z) (.int L)= .nx (ρ.set j (some (.lst (l.set m (.lst (row.set t d)))))):=by
      unfold kQ; dsimp only; rw [g]; dsimp only; rw [Q]; dsimp only; rw [u]
     refine uM (y.row0 hm P Q) fun a' xs' b ys c1 V c3 Y O c6 _=> ?_
     rw [C] at c1; cases c1
     rw [p] at V; cases V
     refine (rj a xs z (.ref b) rfl rfl (.inl (.inl (s.hh _ _ p))) (by unfold L2.atI; rw [← h4.length,g]; exact Y) ⟨G1,ρ,s.gh,y.ro.mono s.gg,(k.res.le y.bh).le s.hh,fun da ea va G2 H2 x2 ra=> ?_⟩)
     rw [U] at ea
     cases ea
     rw [rep_int] at ra
     subst ra
     have x:=s.trans x2
     obtain ⟨r1,r2⟩:=y.row1 x hm P Q C p Y O
     have rd:Rep X.K (jZ (nu r) G2) d v:=o.2.mono (y.gg x)
     obtain ⟨M,R'⟩:=r2 (row.set t d) (ys.set t v) (r1.set rd t)
     exact (Dl b ys L t rfl rfl (x.hh _ _ O) (by rw [← c6.length]; exact u) _ _ M e1 rfl R' (sg.trans (y.gg x)))
   ·exact I.elim
 ·exact I.elim
end
theorem Rw.forget {K:W.Frag}{μ:List Nat}{Ge B G H:Hp}{σ:St}{ρ:DS}{fp:Nat→List Addr}{i:Nat}{o:Option V}(R:Rw K μ Ge B G H σ ρ fp):Rw K μ Ge B G H (σ.set i o) (ρ.set i none) (fun j=>if j=i then [] else fp j):=by
 have S:=R.drop (i:=i)
 refine ⟨S.gh,S.eg,S.bh,S.nw,S.gf,S.ob,S.oc,S.nd,S.dj,fun k d e=> ?_⟩
 obtain ⟨v,A,h⟩:=S.sl k d e
 refine ⟨v,?_,h⟩
 have O:k≠i:=fun z=>by
  subst z
  rw [List.getElem?_set] at e
  split at e
  ·split at e <;> cases e
  ·rename_i X; exact X rfl
 rw [List.getElem?_set_ne (Ne.symm O)]
 exact A
section
variable{X:Cx}{E:XK}{μ:List Nat}{n:Nat}
end
noncomputable def zB (K:W.Frag)(j n:Nat)(m:List D→Res D):Sp:=fun vs H Q E=>∃ ds G S v,Same G H∧vs.length=ds.length∧(∀ (i:Nat) (d:D),i≠j→ds[i]?=some d→∃ u,vs[i]?=some u∧Rep K G d u)∧vs[j]?=some v∧(∃ d,ds[j]?=some d∧Ow K G H n d v S)∧S.Nodup∧(∀ a∈S,G a=none)∧OkR E (jZ (· ∈S) H) (m ds)∧
 ∀ d,m ds= .ok d→∀ G' H' S',Ext G (jZ (· ∈S) H) G' H'→Ow K G' H' n d v S'→New (jZ (· ∈S) H) G' S'→Q .non H'
noncomputable def oP (n:Nat)(N:List Str)(j:Nat)(F:DS→Out):List D→Res D:=fun ds=>if ds.length=n then (match F (aA N ds) with
 | .nx ρ=>(match ρ[j]? with | some (some d)=> .ok d | _=> .bad)
 | .exc c=> .exc c
 | _=> .bad) else .bad
section
variable{P:Program}{w:World}{K:W.Frag}{mg:Str→Option Value}{base:Heap}
theorem Fun.mut {x qual:Str}{st:Stmt}{f:Addr}{fd:FuncData}{N ps:List Str}{k j n c:Nat}{F:DS→Out}(Fn:Fun K x qual st f fd)(S:FnScope N ps (ah st))(μ:List Nat)(hj:j < ps.length)(hμj:μ.getD j 0=n)(hμ:∀ i,i < ps.length→i≠j→μ.getD i 0=0)(hc:ps.length=c)
  (hbody:∀ (cdv:Value) (A:Around) (outer:List Env) (s:Shared) (H:Hp) (E:XK),Room k (A.deeper (envOfC qual (ah st) s.heap.objs.size f cdv))→
   zM (qQ P w K mg base N qual (ah st) f cdv A outer s H E) E μ j (b_ st) F):FnOk P w K mg base (CXF P w) (k+1) f fd ps (zB K j n (oP c N j F)):=by
 have nb:∀ {E:XK} {H:Hp} {r:Res D},OkR E H r→r≠ .bad:=fun h z=>by rw [z] at h; exact h
 have X:∀ g,oP c N j F g≠ .bad→g.length=ps.length:=fun g h=>by
  unfold oP at h
  split at h
  ·rename_i e; rw [e,hc]
  ·exact absurd rfl h
 refine wZ (Fn.ex) fun oc od kV doc pm an cdv ct osl C lk hcd=> ?_; subst C
 refine sM lk hcd S (fun t H Q E B=>(by refine El (B) fun g G T v _ hl _ _ _ _ _ J _=> ?_; rw [hl]; exact X g (nb J))) fun A outer s H t Q E hr hsp=> ?_
 refine El (hsp) fun g G T v hs hl W Z V ndT gT J kk=> ?_; obtain ⟨dj,hdj,ow⟩:=V
 have hb:=hbody cdv A outer s H E hr
 have L:=X g (nb J)
 have U:oP c N j F g=match F (aA N g) with
   | .nx ρ=>(match ρ[j]? with | some (some d)=> .ok d | _=> .bad)
   | .exc c=> .exc c
   | _=> .bad:=by
  unfold oP; rw [if_pos (L.trans hc)]
 have hoO:OkO E (jZ (· ∈T) H) (F (aA N g)):=by
  rw [U] at J
  cases q:F (aA N g) with
  | exc c=>rw [q] at J; exact J
  | bad=>rw [q] at J; exact J
  | _=>trivial
 have R0:Rw K μ G (jZ (· ∈T) H) G H (cP N t) (aA N g) (fun i=>if i=j then T else []):=by
  refine ⟨hs,.refl _,fun b o e=>(fU e).2,fun b o e=> .inl e,fun i a e=> ?_,fun i a e=> ?_,fun i a e=> ?_,fun i=> ?_,fun i i' a e O=> ?_,fun i d e=> ?_⟩
  ·split at e
   ·exact gT a e
   ·cases e
  ·split at e
   ·exact vv e
   ·cases e
  ·by_cases z:i=j
   ·simp only [if_pos z] at e ⊢; exact ow.cell a e
   ·simp only [if_neg z] at e; cases e
  ·split
   ·exact ndT
   ·exact List.nodup_nil
  ·split at e
   ·rename_i z
    split at O
    ·rename_i z'; rw [z,z']
    ·cases O
   ·cases e
  ·have hi:i < g.length:=by
    apply Classical.byContradiction
    intro hi
    unfold aA at e
    rw [List.getElem?_append_right (by simpa using hi),List.getElem?_replicate] at e
    split at e <;> cases e
   have M:g[i]?=some d:=by
    unfold aA at e
    rw [List.getElem?_append_left (by simpa using hi),List.getElem?_map] at e
    cases q:g[i]? with
    | none=>rw [q] at e; cases e
    | some d'=>rw [q] at e; cases e; rfl
   have l:∀ u,t[i]?=some u→(cP N t)[i]?=some (some u):=fun u hu=>by
    unfold cP
    rw [List.getElem?_append_left (by rw [List.length_map,hl]; exact hi),List.getElem?_map,hu]; rfl
   by_cases O:i=j
   ·subst O
    rw [hdj] at M
    cases M
    rw [if_pos rfl,hμj]
    exact ⟨v,l v Z,ow⟩
   ·rw [if_neg O,hμ i (by omega) O]
    obtain ⟨u,hu,ru⟩:=W i d O M
    exact (iZ u (l u hu) rfl ru)
 refine ⟨fun D σ H1=>(σ=cP N t∧H1=H∧(D.nx=fun _ H'=>Q .non H')∧D.rt=Q),?_,rfl,rfl,rfl,rfl⟩
 intro Y s1 σ H1 D I y
 refine lf (y) fun e1 e2 e3 e4=> ?_
 subst e1 e2
 refine aO (hb Y s1 _ G (jZ (· ∈T) H1) G H1 (aA N g) _ I R0 hoO) fun fl s2 q=> ?_
 cases fl with
 | next=>
  refine w6 (q) fun p σ' G' H' fp' e I' R _ z=> ?_
  refine ⟨σ',H',I',?_⟩
  rw [e3]
  rw [e] at U
  dsimp only at U
  have M:∃ d,p[j]?=some (some d):=by
   cases q:p[j]? with
   | none=>rw [U,q] at J; exact J.elim
   | some o=>
    cases o with
    | none=>rw [U,q] at J; exact J.elim
    | some d=>exact ⟨d,rfl⟩
  obtain ⟨d,M⟩:=M
  rw [M] at U
  obtain ⟨v',m,o'⟩:=R.sl j d M
  have l:(cP N t)[j]?=some (some v):=by
   unfold cP
   rw [List.getElem?_append_left (by rw [List.length_map,hl,L]; exact hj),List.getElem?_map,Z]; rfl
  rw [z,l] at m
  cases m
  rw [hμj] at o'
  exact kk d U G' H' (fp' j) R.ext o' ⟨R.nd j,fun a ha=>⟨R.ob j a ha,R.gf j a ha⟩⟩
 | brk=>exact q.elim
 | cont=>exact q.elim
 | ret u=>exact q.elim
end
noncomputable def kD (μ:List Nat)(j:Nat)(f0:DS→Res D)(fs:DS→Res (List D))(m:List D→Res D):DS→Out:=fun ρ=>match ρ[j]? with
 | some (some dj)=>(f0 (cR μ ρ)).out fun d0=>(fs (cR μ ρ)).out fun ds=>(m (d0 :: dj :: ds)).out fun d=> .nx (ρ.set j (some d))
 | _=> .bad
section
variable{P:Program}{w:World}{K:W.Frag}{mg:Str→Option Value}{base:Heap}
structure CalU (P:Program)(w:World)(K:W.Frag)(mg:Str→Option Value)(base:Heap)(x:Str)(k:Nat)(ps:List Str)(n:Nat)(m:List D→Res D):Prop where
 ex:∃ f fd,FnOk P w K mg base (CXF P w) k f fd ps (zB K 1 n m)∧Binds K fd ps []∧mg x=some (.ref f)∧W.keepIn K (.ref f)=true
theorem Sta.calU {x:Str}{st:Stmt}{N ps:List Str}{k n c:Nat}{F:DS→Out}(S:Sta K mg x st ps)(sc:FnScope N ps (ah st))(μ:List Nat)(hj:1 < ps.length)(hμj:μ.getD 1 0=n)(hμ:∀ i,i < ps.length→i≠1→μ.getD i 0=0)(hn:ps.length=c)
  (hbody:∀ (f:Addr) (cdv:Value) (A:Around) (outer:List Env) (s:Shared) (H:Hp) (E:XK),Room k (A.deeper (envOfC x (ah st) s.heap.objs.size f cdv))→
   zM (qQ P w K mg base N x (ah st) f cdv A outer s H E) E μ 1 (b_ st) F):CalU P w K mg base x (k+1) ps n (oP c N 1 F):=by
 refine mH (S.ex) fun f U L u B O=> ?_
 exact ⟨f,U,L.mut sc μ hj hμj hμ hn (fun cdv A outer s H E Q=>hbody f cdv A outer s H E Q),u,B,O⟩
end
section
variable{X:Cx}{E:XK}{μ:List Nat}{r n:Nat}
theorem wq {k i j:Nat}{ps:List Str}{m:List D→Res D}{x y:Str}{p px pos pos2:Pos}{e0:Expr}{es:List Expr}{f0:DS→Res D}{fs:DS→Res (List D)}(C:CalU X.prog X.w X.K X.mg X.base x k ps n m)(hr:Room i X.A)
  (hm:μ.getD j 0=n) (hN:X.N[j]?=some y) (hv:oe X.env.scope y) (h0:PD X E e0 f0) (ha:j0 X E es fs)
  (hx:cv (CXF X.prog X.w) X E:=by exact fT fun _ _ _ h=>h) (hki:k≤i:=by decide) (hg:Gl X x:=by rfl) (hdb:(x == ("__debug__" :Str))=false:=by decide) (hd:(y == ("__debug__" :Str))=false:=by decide) (hcd:(y == ("__classdict__" :Str))=false:=by decide)
  (he:starEach (e0 :: .Name y px :: es) X.env=(false,eval e0 X.env) :: starEach (.Name y px :: es) X.env:=by rfl) (he2:starEach (.Name y px :: es) X.env=(false,eval (.Name y px) X.env) :: starEach es X.env:=by rfl) (hpl:(backTo pos (starEach (.Name y px :: es) X.env)).any (·.1)=false:=by rfl)
  (hsw:swapsWith (.Call (.Name x p) (e0 :: .Name y px :: es) [] pos) none pos2.line X.env=pure false:=by rfl) :
  j1 X E μ r (.Expr (.Call (.Name x p) (e0 :: .Name y px :: es) [] pos) pos2) (kD μ j f0 fs m):=by
 refine mH (C.ex) fun f fd F v hmg hk=> ?_
 have hp:=sY (pos:=pos) (p:=p) F (hr.mono hki) hg hmg hk v .nil hx (bq (dq h0) (bq (cx (pos:=px) hN hv hd hcd) (g_ ha) he2) he) hdb he hpl
 refine PQ1.pm (.of (dN hp hsw) fun σ Ge B G H g c R S=> ?_)
 have P:∃ dj,g[j]?=some (some dj):=by
  unfold kD at S
  split at S
  ·rename_i l q; exact ⟨l,q⟩
  ·exact S.elim
 obtain ⟨dj,L⟩:=P
 have eo:kD μ j f0 fs m g=(f0 (cR μ g)).out fun d0=>(fs (cR μ g)).out fun ds=>(m (d0 :: dj :: ds)).out fun d=> .nx (g.set j (some d)):=by
  unfold kD
  rw [L]
 rw [eo] at S ⊢
 obtain ⟨vj,M,oj⟩:=R.sl j dj L
 have hjσ:j < σ.length:=(dZ M).1
 refine ⟨G,cR μ g,R.gh,R.rof,S.res.le R.bh,fun d0 U v0 G1 H1 W r0=> ?_⟩
 have k1:=S.res2 U (Same.refl B)
 refine ⟨vj,M,G1,cR μ g,W.gh,R.rof.mono W.gg,(k1.res.le R.bh).le W.hh,fun ds eds vs G2 t x2 rl=> ?_⟩
 have k2:=k1.res2 eds (Same.refl B)
 have R2:=(R.growF W).growF x2
 obtain ⟨vj2,O,Z⟩:=R2.sl j dj L
 rw [M] at O
 cases O
 rw [hm] at Z
 have sB:Same B (jZ (· ∈c j) t):=fun b o e=>im (fun z=>by rw [R2.ob j b z] at e; cases e) (R2.bh b o e)
 dsimp only
 rw [List.append_nil]
 refine (CS (d0 :: dj :: ds) G2 (c j) vj R2.gh (by rw [List.length_cons,List.length_cons,List.length_cons,List.length_cons,rl.length]) (fun i d hi hd=> ?_) rfl ⟨dj,rfl,Z⟩ (R2.nd j) (R2.gf j) (k2.res.le sB) (fun d ed G' H' S' Y o' w'=> ?_))
 ·cases i with
  | zero=>simp at hd; subst hd; exact ⟨v0,rfl,r0.mono x2.gg⟩
  | succ i=>
   cases i with
   | zero=>exact absurd rfl hi
   | succ i=>exact rl.get (by simpa using hd)
 ·have Q:∀ b o,b∉c j→t b=some o→H' b=some o:=fun b o v e=>Y.hh b o (im v e)
  have gz:∀ b o,G' b=some o→G2 b=some o∨((t b=none∨b∈c j)∨lW o):=fun b o e=>by
   rcases Y.nw b o e with z | z
   ·exact .inl z
   ·rcases z with z | z
    ·refine .inr (.inl ?_)
     by_cases v:b∈c j
     ·exact .inr v
     ·cases q:t b with
      | none=>exact .inl rfl
      | some u=>rw [im v q] at z; cases z
    ·exact .inr (.inr z)
  have sz:∀ b∈S',t b=none∨b∈c j:=fun b v=>by
   by_cases V:b∈c j
   ·exact .inr V
   ·cases q:t b with
    | none=>exact .inl rfl
    | some u=>have:=(w'.2 b v).1; rw [im V q] at this; cases this
  refine (iM (g.set j (some d)) G' (fun i=>if i=j then S' else c i) (by rw [aZ U,aZ eds,aZ ed]) rfl ?_ ((W.gg.trans x2.gg).trans Y.gg))
  refine ⟨Y.gh,R2.eg.trans Y.gg,fun b o e=>Y.hh b o (sB b o e),fun b o e=> ?_,fun i a e=> ?_,fun i a e=> ?_,fun i a e=> ?_,fun i=> ?_,fun i i' a e T=> ?_,fun i d' e=> ?_⟩
  ·rcases gz b o e with z | (z | z) | z
   ·exact R2.nw b o z
   ·exact .inr (.inl (R2.bh.free z))
   ·exact .inr (.inl (R2.ob j b z))
   ·exact .inr (.inr z)
  ·split at e
   ·exact (w'.2 a e).2
   ·rename_i I
    cases q:G' a with
    | none=>rfl
    | some o=>
     obtain ⟨u,J,hc⟩:=R2.oc i a e
     rcases gz a o q with z | (z | z) | z
     ·rw [R2.gf i a e] at z; cases z
     ·rw [z] at J; cases J
     ·exact absurd (R2.dj i j a e z) I
     ·have s:=Y.gh a o q
      rw [Q a u (fun z=>I (R2.dj i j a e z)) J] at s
      cases s
      exact (hc.nokey z).elim
  ·split at e
   ·rcases sz a e with z | z
    ·exact R2.bh.free z
    ·exact R2.ob j a z
   ·exact R2.ob i a e
  ·by_cases I:i=j
   ·simp only [if_pos I] at e ⊢; exact o'.cell a e
   ·simp only [if_neg I] at e ⊢
    obtain ⟨u,J,hc⟩:=R2.oc i a e
    exact ⟨u,Q a u (fun z=>I (R2.dj i j a e z)) J,hc⟩
  ·split
   ·exact w'.1
   ·exact R2.nd i
  ·split at e
   ·rename_i h1
    split at T
    ·rename_i s; rw [h1,s]
    ·rename_i s
     obtain ⟨u,J,_⟩:=R2.oc i' a T
     rcases sz a e with z | z
     ·rw [z] at J; cases J
     ·exact absurd (R2.dj i' j a T z) s
   ·rename_i h1
    split at T
    ·rename_i s
     obtain ⟨u,J,_⟩:=R2.oc i a e
     rcases sz a T with z | z
     ·rw [z] at J; cases J
     ·exact absurd (R2.dj i j a e z) h1
    ·exact R2.dj i i' a e T
  ·by_cases I:i=j
   ·subst I
    rw [List.getElem?_set_self'] at e
    rw [L] at e
    cases e
    rw [if_pos rfl,hm]
    exact ⟨vj,M,o'⟩
   ·rw [List.getElem?_set_ne (Ne.symm I)] at e
    rw [if_neg I]
    obtain ⟨u,J,ou⟩:=R2.sl i d' e
    exact ⟨u,J,ou.mono Y.gg fun a ha o eo=>Q a o (fun z=>I (R2.dj i j a ha z)) eo⟩
theorem Ow.up {K:W.Frag}{G H:Hp}:∀ {n:Nat} {d:D} {v:V} {S:List Addr},bw n d=true→Ow K G H n d v S→Ow K G H (n+1) d v S
 | 0,d,v,S,hf,h=>by
  cases d with
  | lst e=>cases hf
  | dct j e=>cases hf
  | tup e=>exact .inl ⟨hf,h.1,h.2⟩
  | _=>exact ⟨hf,h.1,h.2⟩
 | n+1,d,v,S,hf,h=>by
  cases d with
  | lst e=>
   refine f_ (h) fun a f T U t g b=> ?_
   unfold bw at hf
   exact (iM a f T U t g (b.mono fun d v A I _ z=>Ow.up (List.all_eq_true.mp hf d I) z))
  | dct j e=>
   refine ju (h) fun a f T U t u g b=> ?_
   unfold bw at hf
   exact (pY a f T U t u g (b.mono fun d v A I _ z=>Ow.up (List.all_eq_true.mp hf d I) z))
  | tup e=>
   rcases h with h | ⟨a,f,T,U,t,g,x,b⟩
   ·exact .inl h
   ·refine .inr (pY a f T U t g x (b.mono fun d v A I _ z=>Ow.up ?_ z))
    unfold bw at hf
    rw [Bool.or_eq_true] at hf
    rcases hf with y | y
    ·unfold L2.flat at y; exact ka (iK y I)
    ·exact List.all_eq_true.mp y d I
  | _=>exact h
theorem PN.up {e:Expr}{f:DS→Res D}(h:PN X E n e f):PN X E (n+1) e (fW n f):=by
 intro A s B G H a I L Q F
 refine aO (h A s B G H a I L Q F.fst) fun u V N=> ?_
 obtain ⟨d,e,v,b,P,S,y,c,x,o,w⟩:=N
 have k:=F.snd e (Same.refl H)
 by_cases O:bw n d=true
 ·exact ⟨d,ao e (if_pos O),v,b,P,S,y,c,x,o.up O,w⟩
 ·rw [if_neg O] at k; exact k.elim
inductive tNA (K:W.Frag)(E:XK)(n:Nat)(f:DS→Res (List D))(σ:St)(H:Hp)(Q:List V→Hp→Prop):Prop
 | mk (G:Hp) (ρ:DS) (s:Same G H) (r:Ro K G σ ρ) (o:OkR E H (f ρ)) (k:∀ ds,f ρ= .ok ds→∀ vs G' H' S,Ext G H G' H'→AllW (Ow K G' H' n) ds vs S→New H G' S→Q vs H')
noncomputable def Ev (X:Cx)(E:XK)(n:Nat)(es:List Expr)(f:DS→Res (List D)):Prop:=PA X es (tNA X.K E n f)
theorem lw:Ev X E n [] pN:=fun m A s B H Q I O=>(by obtain ⟨G,a,L,l,D,k⟩:=O; exact Calls.spliced_nil ⟨[],H,I,.nil,k [] rfl [] G H [] (.refl L) ⟨rfl,rfl⟩ .nil⟩)
theorem f5 {e:Expr}{es:List Expr}{f:DS→Res D}{g:DS→Res (List D)}(h:PN X E n e f)(hes:Ev X E n es g)(hs:starEach (e :: es) X.env=(false,eval e X.env) :: starEach es X.env:=by rfl):Ev X E n (e :: es) (pC f g):=by
 intro q A s L H Q I P
 obtain ⟨G,b,p,l,F,k⟩:=P
 refine bq (yH h) hes hs q A s L H Q I ⟨G,b,p,l,F.fst,fun d y v B U S t o w=>⟨B,b,t.gh,l.mono t.gg,(F.snd y t.hh).fst,fun J m r z j T x Y K=> ?_⟩⟩
 have i:∀ a∈S,∃ u,U a=some u∧¬ lW u:=fun a C=>let ⟨u,e,c⟩:=o.cell a C; ⟨u,e,c.nokey⟩
 have R:=w.step i x
 exact k (d :: J) (ao y (ao m rfl)) (v :: r) z j (S ++ T) (t.trans x) (lU v r S T rfl rfl (o.mono x.gg fun a _ u e=>x.hh a u e) Y) (R.join K i t.hh)
theorem lv {es:List Expr}{pos:Pos}{f:DS→Res (List D)}(h:Ev X E n es f):PN X E (n+1) (.List es pos) (cw f):=by
 refine .tn (rM h) fun C G H j Q L l F k=>⟨G,j,L,l,F.fst,fun g e t r T S s Y w=> ?_⟩
 have I:=F.snd e s.hh
 by_cases N:aN g.length=true
 ·refine ⟨by rw [← Y.length]; exact bY N,fun p Z=> ?_⟩
  have R:p∉S:=fun z=>by obtain ⟨u,J,_⟩:=Y.has p z; rw [Z] at J; cases J
  have c:r p=none:=by
   cases q:r p with
   | none=>rfl
   | some u=>rw [s.gh p u q] at Z; cases Z
  have m:AllW (Ow X.K r (bu T p (.lst t)) n) g t S:=Y.mono fun d v A _ i z=>z.mono (.refl _) fun b x u e=>by
   have W:b≠p:=fun U=>R (U ▸ i b x)
   rw [am W]; exact e
  have y:New H r (p :: S):=⟨List.nodup_cons.mpr ⟨R,w.1⟩,fun a B=>by
   rcases List.mem_cons.mp B with z | z
   ·subst z; exact ⟨s.hh.free Z,c⟩
   ·exact w.2 a z⟩
  exact k (.lst g) (ao e (if_pos N)) (.ref p) r _ (p :: S) (s.hnew Z _) (iM p t S rfl az rfl m) y
 ·rw [if_neg N] at I; exact I.elim
noncomputable def tO:List D→Res D
 | [.int i]=> .ok (.int (if i < 0 then -i else i))
 | _=> .bad
theorem zW {K:W.Frag}:w9 K E (fun xs H Q=>∃ i,xs=[.int i]∧Q (.int (if i < 0 then -i else i)) H) tO:=by
 intro G H s e Q L a ok k
 unfold tO at ok k
 split at ok
 ·rename_i i
  refine bL (a.inv) fun v r T w d=> ?_; subst T
  rw [d.inv0]
  rw [rep_int] at w
  subst w
  exact ⟨i,rfl,k _ _ G H rfl (.refl L) (rep_int.mpr rfl)⟩
 ·exact ok.elim
theorem zS:bootBuiltins "abs" =some (.builtin "abs"):=by decide +kernel
theorem Bn {e:Expr}{p pos:Pos}{f:DS→Res D}(hm:X.mg "abs" =none)(h:PD X E e f)(hg:Gl X "abs" :=by rfl)(he:starEach [e] X.env=(false,eval e X.env) :: starEach [] X.env:=by rfl):PD X E (.Call (.Name "abs" p) [e] [] pos) (fun ρ=>(f ρ).bind fun a=>tO [a]):=
 yz ▸ fZ (X:=X) (E:=E) (p:=p) (pos:=pos) uY zW hg hm zS (aa h ag he) (by decide) (by decide) he rfl
theorem uw {j:Nat}{x:Str}{e:Expr}{px apos cpos pos:Pos}{f:DS→Res D}(hm:μ.getD j 0=n+1)(hN:X.N[j]?=some x)(hv:oe X.env.scope x)(h:PZ X E μ n e f)
  (hd:(x == ("__debug__" :Str))=false:=by decide) (hcd:(x == ("__classdict__" :Str))=false:=by decide)
  (hs:starEach [e] X.env=(false,eval e X.env) :: starEach [] X.env:=by rfl)
  (hbase:attributeBase (.Name x px) "append" X.env (eval (.Name x px) X.env)=eval (.Name x px) X.env:=by rfl)
  (hfew:((backTo cpos (starEach [e] X.env)).all (fun x=> !x.1) && (backToKw cpos (keywordEach [] X.env)).all (fun x=>x.1.isSome) && decide (([e].length+([]:List Keyword).length+if ([]:List Keyword).isEmpty=true then 0 else 1) < 30))=true:=by rfl)
  (hline:(apos.endLine == cpos.line)=true:=by rfl)
  (hsw:swapsWith (.Call (.Attribute (.Name x px) "append" apos) [e] [] cpos) none pos.line X.env=pure false:=by rfl) :
  PQ1 X E μ (.Expr (.Call (.Attribute (.Name x px) "append" apos) [e] [] cpos) pos) (fS j f):=by
 have Z:=kO (apos:=apos) (cpos:=cpos) (r:=dk) PySem.F.plainAttrs_list PySem.F.slot_list_append PySem.F.type_list_append (show xf X "list.append" dk from fX) (cx (pos:=px) hN hv hd hcd) (bq (l_ h) dh hs) hbase hfew hline hs rfl
 refine .of (dN Z hsw) fun σ Ge B G H b u R I=> ?_
 have J:∃ l,b[j]?=some (some (.lst l)):=by
  unfold fS at I
  split at I
  ·rename_i l q; exact ⟨l,q⟩
  ·exact I.elim
 obtain ⟨l,P⟩:=J
 have s:fS j f b=(f b).out fun d=>if aN l.length=true then .nx (b.set j (some (.lst (l ++ [d])))) else .bad:=by
  unfold fS
  rw [P]
 rw [s] at I ⊢
 refine f_ (R.top P hm) fun a m T i c Q K=> ?_
 refine (iZ _ i (.inl ⟨rfl,m,.inl (.inl c)⟩) ⟨Ge,B,G,b,u,R,I.res,fun d p v A W S U t C o w=> ?_⟩)
 have k:=I.res2 p (Same.refl B)
 by_cases g:aN l.length=true
 ·refine f_ (U.top P hm) fun L V Y O M z y=> ?_
  rw [i] at O
  cases O
  rw [C _ _ c] at M
  cases M
  exact (Do a m v rfl rfl (C _ _ c) (by rw [← K.length]; exact iq g) _ _ _ (by rw [aZ p,if_pos g]) rfl (U.app1 hm i (C _ _ c) z y o w.1 (U.freshOf w R)) t)
 ·rw [if_neg g] at k; exact k.elim
theorem ux {j:Nat}{x:Str}{i e:Expr}{px spos apos cpos pos:Pos}{fi f:DS→Res D}(hm:μ.getD j 0=2)(hN:X.N[j]?=some x)(hv:oe X.env.scope x)(hi:PD X E i fi)(h:PZ X E μ 0 e f)(hex:∀ ρ c,f ρ≠ .exc c)
  (hd:(x == ("__debug__" :Str))=false:=by decide) (hcd:(x == ("__classdict__" :Str))=false:=by decide)
  (hpi:gr i:=by intro _ _; rfl)
  (hs:starEach [e] X.env=(false,eval e X.env) :: starEach [] X.env:=by rfl)
  (hbase:attributeBase (.Subscript (.Name x px) i spos) "append" X.env (eval (.Subscript (.Name x px) i spos) X.env)=eval (.Subscript (.Name x px) i spos) X.env:=by rfl)
  (hfew:((backTo cpos (starEach [e] X.env)).all (fun x=> !x.1) && (backToKw cpos (keywordEach [] X.env)).all (fun x=>x.1.isSome) && decide (([e].length+([]:List Keyword).length+if ([]:List Keyword).isEmpty=true then 0 else 1) < 30))=true:=by rfl)
  (hline:(apos.endLine == cpos.line)=true:=by rfl)
  (hsw:swapsWith (.Call (.Attribute (.Subscript (.Name x px) i spos) "append" apos) [e] [] cpos) none pos.line X.env=pure false:=by rfl) :
  PQ1 X E μ (.Expr (.Call (.Attribute (.Subscript (.Name x px) i spos) "append" apos) [e] [] cpos) pos) (kv j fi f):=by
 have hp:=kO (apos:=apos) (cpos:=cpos) (r:=dk) PySem.F.plainAttrs_list PySem.F.slot_list_append PySem.F.type_list_append (show xf X "list.append" dk from fX) (nP (pos:=spos) ix_list (cx (pos:=px) hN hv hd hcd) (dq hi) hpi) (bq (l_ h) dh hs) hbase hfew hline hs rfl
 refine .of (dN hp hsw) fun σ Ge B G H ρ W R K=> ?_
 have J:∃ l,ρ[j]?=some (some (.lst l)):=by
  unfold kv at K
  split at K
  ·rename_i l q; exact ⟨l,q⟩
  ·exact K.elim
 obtain ⟨l,P⟩:=J
 have eo:kv j fi f ρ=(fi ρ).out fun i=>(f ρ).out fun d=>js j l ρ d i:=by
  unfold kv
  rw [P]
 rw [eo] at K ⊢
 refine f_ (R.top (n:=1) P hm) fun a xs T A g h3 h4=> ?_
 refine ⟨_,A,jX W G H,ρ,R.vh,R.ro,K.res.le R.bh,fun di ei vi G1 H1 s ri=> ?_⟩
 have k:=K.res2 ei (Same.refl B)
 have R1:=R.grow s
 have y:∃ d,f ρ= .ok d:=by
  cases q:f ρ with
  | ok d=>exact ⟨d,rfl⟩
  | exc c=>exact absurd q (hex ρ c)
  | bad=>rw [q] at k; exact k.elim
 obtain ⟨z,U⟩:=y
 have I:=k.res2 U (Same.refl B)
 have e0:((fi ρ).out fun i=>(f ρ).out fun d=>js j l ρ d i)=js j l ρ z di:=by rw [aZ ei,aZ U]
 rw [e0]
 unfold js at I
 split at I
 ·rename_i u
  rw [rep_int] at ri
  subst ri
  cases q:iT l.length u with
  | none=>rw [q] at I; exact I.elim
  | some m=>
   rw [q] at I
   dsimp only at I
   split at I
   ·rename_i row Q
    by_cases t:aN row.length=true
    ·have e1:js j l ρ z (.int u)= .nx (ρ.set j (some (.lst (l.set m (.lst (row ++ [z])))))):=by unfold js; dsimp only; rw [q]; dsimp only; rw [Q]; exact if_pos t
     refine uM (R.row0 hm P Q) fun a' xs' b M c1 V c3 Z p c6 _=> ?_
     rw [A] at c1; cases c1
     rw [g] at V; cases V
     refine (rk a xs u (.ref b) rfl rfl (.inl (.inl (s.hh _ _ g))) (by unfold L2.atI; rw [← h4.length,q]; exact Z) (.inl ⟨rfl,M,.inl (.inl (s.hh _ _ p))⟩) ⟨Ge,B,_,ρ,W,R1,k.res,fun d ed v G2 H2 S R2 sg C o w=> ?_⟩)
     rw [U] at ed
     cases ed
     refine uM (R2.row0 hm P Q) fun a2 xs2 b2 ys2 p1 Y p3 O p5 p6 p7=> ?_
     rw [A] at p1; cases p1
     rw [C _ _ (s.hh _ _ g)] at Y; cases Y
     rw [Z] at O; cases O
     rw [C _ _ (s.hh _ _ p)] at p5; cases p5
     obtain ⟨L,R3⟩:=p7 (row ++ [z]) (M ++ [v]) (p6.append (.cons o.2 .nil))
     exact (Do b M v rfl rfl (C _ _ (s.hh _ _ p)) (by rw [← c6.length]; exact iq t) _ _ L e1 rfl R3 ((R.gg s).trans sg))
    ·rw [if_neg t] at I; exact I.elim
   ·exact I.elim
 ·exact I.elim
theorem d7 {i:Nat}:∀ ρ c,ac i ρ≠ .exc c:=fun ρ c=>tK
end
end L2
namespace L2
open PySem
theorem sV {f g:DS→Res D}{o:D→D→Res D}(hf:∀ ρ c,f ρ≠ .exc c)(hg:∀ ρ c,g ρ≠ .exc c)(ho:∀ {a b:D} {c:Addr},o a b≠ .exc c):∀ ρ c,ae f g o ρ≠ .exc c:=fun ρ c h=>by
 rw [zp] at h
 cases q:f ρ with
 | exc e=>exact hf ρ e q
 | bad=>rw [q] at h; cases h
 | ok a=>
  rw [q,aq] at h
  cases j:g ρ with
  | exc e=>exact hg ρ e j
  | bad=>rw [j] at h; cases h
  | ok b=>rw [j,aq] at h; exact ho h
theorem Ba {i:Int}:∀ (ρ:DS) (c:Addr),kI i ρ≠ .exc c:=fun ρ c h=>by cases h
theorem DJ {n:Nat}{f:DS→Res D}(hf:∀ ρ c,f ρ≠ .exc c):∀ ρ c,fW n f ρ≠ .exc c:=fun ρ c h=>by
 rw [lG] at h
 cases q:f ρ with
 | exc e=>exact hf ρ e q
 | bad=>rw [q] at h; cases h
 | ok a=>
  rw [q,aq] at h
  split at h <;> cases h
theorem Bb {f:DS→Res D}(hf:∀ ρ c,f ρ≠ .exc c):∀ (ρ:DS) (c:Addr),nG f ρ≠ .exc c:=fun ρ c h=>by
 have h:(f ρ).bind yt= .exc c:=h
 cases q:f ρ with
 | exc e=>exact hf ρ e q
 | bad=>rw [q] at h; cases h
 | ok a=>
  rw [q,aq] at h
  cases a <;> cases h
theorem xi {a b:D}{c:Addr}:a_ a b≠ .exc c:=by
 unfold a_ zD
 have d:∀ x y:D,uR x y≠ .exc c:=fun x y h=>by
  unfold uR gY at h
  split at h
  ·split at h <;> cases h
  ·cases h
 have e:∀ x y:D,uS x y≠ .exc c:=fun x y h=>by
  unfold uS at h
  split at h
  ·split at h <;> cases h
  ·cases h
 have A:∀ x y:D,tT x y≠ .exc c:=fun x y h=>by
  unfold tT at h
  split at h
  ·split at h <;> cases h
  ·cases h
 intro h
 split at h
 ·split at h
  ·exact A _ _ h
  ·exact e _ _ h
 ·exact d _ _ h
noncomputable def Ew (fs:List (Nat×Nat))(a b:Nat):List (Nat×Nat):=
 (a,b) :: fs ++ (fs.filter (fun u=>u.2 == a)).map (fun u=>(u.1,b)) ++ (fs.filter (fun u=>u.1 == b)).map (fun u=>(a,u.2)) ++
  (fs.filter (fun u=>u.2 == a)).flatMap fun u=>(fs.filter (fun v=>v.1 == b)).map fun v=>(u.1,v.2)
noncomputable def k_ (n:Nat):List (Nat×Nat)→W.KasT (Array Nat)→Bool
 | fs,.ret p=>decide (p.size=n) && p.toList.all (fun i=>decide (i < n)) && (List.range n).all (fun i=>p.toList.contains i) && decide p.toList.Nodup &&
   (p.toList.zip p.toList.tail).all fun u=>fs.contains u
 | fs,.ask i j k=>decide (i < n) && decide (j < n) && decide (i≠j) && (if fs.contains (i,j) then k_ n fs (k true) else if fs.contains (j,i) then k_ n fs (k false) else k_ n (Ew fs i j) (k true) && k_ n (Ew fs j i) (k false))
theorem uZ {lt:Nat→Nat→Bool}(tr:∀ a b c,lt a b=true→lt b c=true→lt a c=true){fs:List (Nat×Nat)}{a b:Nat}(hf:∀ f∈fs,lt f.1 f.2=true)(h:lt a b=true):∀ f∈Ew fs a b,lt f.1 f.2=true:=by
 intro f W
 unfold Ew at W
 rcases List.mem_append.mp W with z | z
 ·rcases List.mem_append.mp z with z | z
  ·rcases List.mem_append.mp z with z | z
   ·rcases List.mem_cons.mp z with z | z
    ·subst z; exact h
    ·exact hf f z
   ·obtain ⟨u,E,rfl⟩:=List.mem_map.mp z
    obtain ⟨d,g⟩:=List.mem_filter.mp E
    have e:u.2=a:=by simpa using g
    have:=hf u d
    rw [e] at this
    exact tr _ _ _ this h
  ·obtain ⟨u,E,rfl⟩:=List.mem_map.mp z
   obtain ⟨d,g⟩:=List.mem_filter.mp E
   have e:u.1=b:=by simpa using g
   have:=hf u d
   rw [e] at this
   exact tr _ _ _ h this
 ·refine cps fun PP G=> ?_
  obtain ⟨u,E,z⟩:=List.mem_flatMap.mp z
  obtain ⟨v,B,rfl⟩:=List.mem_map.mp z
  obtain ⟨d,g⟩:=List.mem_filter.mp E
  obtain ⟨A,F⟩:=List.mem_filter.mp B
  refine G ?_; clear G PP
  have e:u.2=a:=by simpa using g
  have t:v.1=b:=by simpa using F
  have R:=hf u d
  have j:=hf v A
  rw [e] at R
  rw [t] at j
  exact tr _ _ _ (tr _ _ _ R h) j
theorem iC {n:Nat}{lt:Nat→Nat→Bool}(tr:∀ a b c,lt a b=true→lt b c=true→lt a c=true)(asy:∀ a b,lt a b=true→lt b a=false)(tot:∀ a b,a < n→b < n→a≠b→lt a b=false→lt b a=true):∀ (t:W.KasT (Array Nat)) (fs:List (Nat×Nat)),(∀ f∈fs,lt f.1 f.2=true)→k_ n fs t=true→
  ∃ p,mr n lt t=some p∧p.size=n∧(∀ i∈p.toList,i < n)∧(∀ i,i < n→i∈p.toList)∧p.toList.Nodup∧∀ u∈p.toList.zip p.toList.tail,lt u.1 u.2=true
 | .ret p,fs,hf,h=>by
  unfold k_ at h
  simp only [Bool.and_eq_true,decide_eq_true_eq,List.all_eq_true] at h
  obtain ⟨⟨⟨⟨d,g⟩,A⟩,E⟩,L⟩:=h
  exact (Dp p rfl d (fun i l=>g i l) (fun i l=>List.contains_iff_mem.mp (A i (List.mem_range.mpr l))) E (fun u F=>hf u (List.contains_iff_mem.mp (L u F))))
 | .ask i j k,fs,hf,h=>by
  unfold k_ at h
  simp only [Bool.and_eq_true,decide_eq_true_eq] at h
  obtain ⟨⟨⟨d,g⟩,I⟩,A⟩:=h
  have e:mr n lt (.ask i j k)=mr n lt (k (lt i j)):=by
   conv=>lhs; unfold mr
   rw [if_pos ⟨d,g⟩]
  rw [e]
  split at A
  ·rename_i c
   have q:lt i j=true:=hf (i,j) (List.contains_iff_mem.mp c)
   rw [q]
   exact iC tr asy tot _ fs hf A
  ·split at A
   ·rename_i c
    have q:lt i j=false:=asy _ _ (hf (j,i) (List.contains_iff_mem.mp c))
    rw [q]
    exact iC tr asy tot _ fs hf A
   ·rw [Bool.and_eq_true] at A
    cases q:lt i j with
    | true=>exact iC tr asy tot _ _ (uZ tr hf q) A.1
    | false=>exact iC tr asy tot _ _ (uZ tr hf (tot i j d g I q)) A.2
theorem EY:k_ 2 [] (W.kas_sort 2)=true:=by decide +kernel
theorem EZ:k_ 3 [] (W.kas_sort 3)=true:=by decide +kernel
theorem E_:k_ 4 [] (W.kas_sort 4)=true:=by decide +kernel
theorem Fc:k_ 5 [] (W.kas_sort 5)=true:=by decide +kernel
theorem vU {n:Nat}(h2:2≤n)(h5:n≤5):k_ n [] (W.kas_sort n)=true:=by
 rcases (show n=2∨n=3∨n=4∨n=5 by omega) with rfl | rfl | rfl | rfl
 ·exact EY
 ·exact EZ
 ·exact E_
 ·exact Fc
theorem jm:∀ (a b:List Int),HT.aI a b=true→HT.aI b a=false
 | [],[],h=>by cases h
 | [],_ :: _,_=>rfl
 | _ :: _,[],h=>by cases h
 | x :: xs,y :: ys,h=>by
  unfold HT.aI at h ⊢
  by_cases e:x=y
  ·subst e
   rw [if_pos rfl] at h ⊢
   exact jm xs ys h
  ·rw [if_neg e] at h
   rw [if_neg (Ne.symm e)]
   have:=of_decide_eq_true h
   exact decide_eq_false (by omega)
theorem kJ:∀ (a b c:List Int),HT.aI a b=true→HT.aI b c=true→HT.aI a c=true
 | [],[],_,h,_=>by cases h
 | [],_ :: _,[],_,h=>by cases h
 | [],_ :: _,_ :: _,_,_=>rfl
 | _ :: _,[],_,h,_=>by cases h
 | _ :: _,_ :: _,[],_,h=>by cases h
 | x :: xs,y :: ys,z :: zs,h1,h2=>by
  unfold HT.aI at h1 h2 ⊢
  by_cases T:x=y
  ·subst T
   rw [if_pos rfl] at h1
   by_cases t:x=z
   ·subst t
    rw [if_pos rfl] at h2 ⊢
    exact kJ xs ys zs h1 h2
   ·rw [if_neg t] at h2 ⊢
    exact h2
  ·rw [if_neg T] at h1
   have R:=of_decide_eq_true h1
   by_cases t:y=z
   ·subst t
    rw [if_neg T]
    exact h1
   ·rw [if_neg t] at h2
    have j:=of_decide_eq_true h2
    rw [if_neg (show x≠z by omega)]
    exact decide_eq_true (by omega)
theorem nA:∀ (a b:List Int),a≠b→HT.aI a b=false→HT.aI b a=true
 | [],[],h,_=>absurd rfl h
 | [],_ :: _,_,h=>by cases h
 | _ :: _,[],_,_=>rfl
 | x :: xs,y :: ys,hne,h=>by
  unfold HT.aI at h ⊢
  by_cases e:x=y
  ·subst e
   rw [if_pos rfl] at h ⊢
   exact nA xs ys (fun z=>hne (by rw [z])) h
  ·rw [if_neg e] at h
   rw [if_neg (Ne.symm e)]
   have:=of_decide_eq_false h
   exact decide_eq_true (by omega)
theorem rZ (l:List (List Int))(h:l.length≤5)(hne:∀ t∈l,t≠[])(hnd:l.Nodup):∃ l':List (List Int),cq [.lst (l.map fun t=> .tup (t.map D.int))]= .ok (.lst (l'.map fun t=> .tup (t.map D.int)))∧l'.length=l.length∧(∀ t,t∈l'↔t∈l)∧l'.Nodup∧∀ u∈l'.zip l'.tail,HT.aI u.2 u.1=false:=by
 by_cases d:l.length < 2
 ·refine (yk l ?_ rfl (fun _=>Iff.rfl) hnd (fun u E=> ?_))
  ·unfold cq
   dsimp only
   rw [if_pos (by rw [List.length_map]; exact d)]
  ·match l,d,E with
   | [],_,E=>simp at E
   | [_],_,E=>simp at E
   | _ :: _ :: _,d,_=>simp at d; omega
 ·have Z:∀ i,(g:i < l.length)→l.getD i []=l[i]:=fun i g=>by rw [List.getD_eq_getElem?_getD,cS g]; rfl
  refine Em (iC (lt:=fun i j=>HT.aI (l.getD i []) (l.getD j [])) (fun a b c=>kJ _ _ _) (fun a b=>jm _ _) (fun a b B w Y=>nA _ _ (by rw [Z a B,Z b w]; exact fun z=>Y ((List.getElem_inj hnd).mp z))) _ [] (fun _ z=>by cases z) (vU (by omega) h)) fun p e A F L C O=> ?_
  refine (yk (p.toList.map fun i=>l.getD i []) ?_ (by rw [List.length_map,Array.length_toList]; exact A) (fun t=> ?_) ?_ (fun u E=> ?_))
  ·unfold cq
   dsimp only
   rw [if_neg (by rw [List.length_map]; exact d),hJ]
   dsimp only
   rw [if_pos,e]
   ·dsimp only
    rw [if_pos,List.map_map]
    ·rfl
    ·exact ⟨A,List.all_eq_true.mpr fun i g=>decide_eq_true (F i g)⟩
   ·rw [Bool.and_eq_true,List.all_eq_true]
    refine ⟨fun t f=> ?_,decide_eq_true (by omega)⟩
    cases t with
    | nil=>exact absurd rfl (hne [] f)
    | cons _ _=>rfl
  ·rw [List.mem_map]
   constructor
   ·intro X
    obtain ⟨i,g,rfl⟩:=X
    have N:=F i g
    rw [List.getD_eq_getElem?_getD,cS N]
    exact List.getElem_mem N
   ·intro f
    obtain ⟨i,g,e⟩:=List.getElem_of_mem f
    refine ⟨i,L i g,?_⟩
    rw [List.getD_eq_getElem?_getD,cS g]
    exact e
  ·refine List.pairwise_map.mpr ((List.Pairwise.imp_of_mem ?_ C))
   intro i j g n I z
   have m:=F i g
   have k:=F j n
   rw [List.getD_eq_getElem?_getD,cS m,List.getD_eq_getElem?_getD,cS k] at z
   exact I ((List.getElem_inj hnd).mp z)
  ·rw [← List.map_tail,List.zip_map] at E
   obtain ⟨v,G,rfl⟩:=List.mem_map.mp E
   exact jm _ _ (O v G)
noncomputable def FV:=And.intro @de (And.intro @lJ (And.intro @zn (And.intro @zp (And.intro @Cn (And.intro @Ae (And.intro @q_ (And.intro @xZ (And.intro @x6 (And.intro @xT (And.intro @xV (And.intro @aq (And.intro @pQ (And.intro @aU (And.intro @q0 (And.intro @cg (And.intro @rb (And.intro @pT (And.intro @ve (And.intro @vd (And.intro @t5 (And.intro @sC (And.intro @xI (And.intro @Cq (And.intro @zo (And.intro @Cp (And.intro @Co (And.intro @Ab (And.intro @AF (And.intro @Ac (And.intro @Cr (And.intro @AC (And.intro @xG (And.intro @Al (And.intro @Az (And.intro @Aj (And.intro @xF (And.intro @xO (And.intro @xL (And.intro @xJ (And.intro @sD (And.intro @xX (And.intro @xK (And.intro @vf (And.intro @AG (And.intro @Ar (And.intro @xP (And.intro @tX (And.intro @At (And.intro @Af (And.intro @xY (And.intro @xS (And.intro @Cs (And.intro @AB (And.intro @xW (And.intro @no (And.intro @sG (And.intro @pS (And.intro @nj (And.intro @nk (And.intro @AE (And.intro @Au (And.intro @Av (And.intro @u_ (And.intro @Aw (And.intro @Ax (And.intro @ot (And.intro @Ak (And.intro @AA (And.intro @u9 (And.intro @Aq (And.intro @lG (And.intro @Am (And.intro @Ao (And.intro @An (And.intro @xH (And.intro @u8 (And.intro @u4 @jG)))))))))))))))))))))))))))))))))))))))))))))))))))))))))))))))))))))))))))))
def aL:=And.intro FV (And.intro @if_true.{1} (And.intro @if_false.{1} (And.intro @Bool.false_eq_true (And.intro @Bool.not_true (And.intro @Bool.not_false (And.intro @Bool.true_and (And.intro @Bool.false_and (And.intro @Bool.true_or (And.intro @Bool.false_or (And.intro @pC.eq_1 (And.intro @pN.eq_1 (And.intro @kI.eq_1 (And.intro @kB.eq_1 (And.intro @kN.eq_1 (And.intro @c1.eq_1 (And.intro @sL.eq_1 (And.intro @sT.eq_1 (And.intro @sR1.eq_1 (And.intro @sR2.eq_1 (And.intro @sE.eq_1 (And.intro @sZ.eq_1 (And.intro @oI.eq_1 (And.intro @oN.eq_1 (And.intro @nG.eq_1 (And.intro @yes.eq_1 (And.intro @bad1.eq_1 (And.intro @nxt.eq_1 (And.intro @List.length_map.{0,0} (And.intro @beq_self_eq_true.{0} @bne_self_eq_false.{0})))))))))))))))))))))))))))))
section
variable{α:Type}{ρ ρ' ρ1:DS}{F R:DS→Out}{asg:D→DS→Option DS}{d:D}
noncomputable def dg (ok:List α→α→Bool):List α→List α→Bool
 | _,[]=>true
 | pre,x :: xs=>ok pre x && dg ok (pre ++ [x]) xs
theorem j7 (d:D){st:List α→DS→Prop}{c:α→D}{ok:List α→α→Bool}:∀ (xs pre:List α) (ρ:DS),st pre ρ→
  (∀ pre' x post,pre ++ xs=pre' ++ x :: post→∀ ρ,st pre' ρ→∃ ρ1,asg (c x) ρ=some ρ1∧(ok pre' x=true→∃ ρ',F ρ1= .nx ρ'∧st (pre' ++ [x]) ρ')∧(ok pre' x=false→F ρ1= .rt d))→
  (dg ok pre xs=true→∃ ρ',ci asg F (xs.map c) ρ= .nx ρ'∧st (pre ++ xs) ρ')∧(dg ok pre xs=false→ci asg F (xs.map c) ρ= .rt d)
 | [],pre,ρ,h,_=>⟨fun _=>⟨ρ,rfl,by rw [List.append_nil]; exact h⟩,fun z=>by cases z⟩
 | x :: xs,pre,ρ,h,step=>by
  refine dr (step pre x xs rfl ρ h) fun ρ1 a f A=> ?_
  have e:dg ok pre (x :: xs)=(ok pre x && dg ok (pre ++ [x]) xs):=rfl
  rw [e]
  cases q:ok pre x with
  | false=>exact ⟨fun z=>(by cases z),fun _=>yc a (A q)⟩
  | true=>
   rw [Bool.true_and]
   obtain ⟨ρ',E,L⟩:=f q
   have s:=j7 d (c:=c) (ok:=ok) xs (pre ++ [x]) ρ' L fun pre' y post e=>step pre' y post (by rw [← e,List.append_assoc]; rfl)
   have b:ci asg F ((x :: xs).map c) ρ=ci asg F (xs.map c) ρ':=oB a E
   rw [b]
   refine ⟨fun z=> ?_,s.2⟩
   obtain ⟨m,B,N⟩:=s.1 z
   refine ⟨m,B,?_⟩
   rw [List.append_assoc] at N
   exact N
theorem iQ {x:Res D}{xs:List α}{c:α→D}(st:List α→DS→Prop)(ok:List α→α→Bool)(d:D)(h:st [] ρ)
  (step:∀ pre y post,xs=pre ++ y :: post→∀ ρ,st pre ρ→∃ ρ1,asg (c y) ρ=some ρ1∧(ok pre y=true→∃ ρ',F ρ1= .nx ρ'∧st (pre ++ [y]) ρ')∧(ok pre y=false→F ρ1= .rt d))
  (fin:dg ok [] xs=true→∀ ρ',st xs ρ'→e8 (R ρ')=x) (fal:dg ok [] xs=false→ .ok d=x):e8 ((ci asg F (xs.map c) ρ).then R)=x:=by
 obtain ⟨a,b⟩:=j7 d (asg:=asg) (F:=F) (c:=c) (ok:=ok) xs [] ρ h step
 cases q:dg ok [] xs with
 | true=>
  obtain ⟨ρ',e,o⟩:=a q
  rw [e]
  exact fin q ρ' o
 | false=>
  rw [b q]
  exact fal q
theorem jT {P:DS→Prop}{xs:List α}{c:α→D}(st:List α→DS→Prop)(ok:List α→α→Bool)(h:st [] ρ)
  (step:∀ pre y post,xs=pre ++ y :: post→∀ ρ,st pre ρ→∃ ρ1,asg (c y) ρ=some ρ1∧(ok pre y=true→∃ ρ',F ρ1= .nx ρ'∧st (pre ++ [y]) ρ')∧(ok pre y=false→F ρ1= .rt d))
  (fin:∀ ρ',st xs ρ'→P ρ'):(dg ok [] xs=true→∃ ρ',ci asg F (xs.map c) ρ= .nx ρ'∧P ρ')∧(dg ok [] xs=false→ci asg F (xs.map c) ρ= .rt d):=by
 obtain ⟨a,b⟩:=j7 d (asg:=asg) (F:=F) (c:=c) (ok:=ok) xs [] ρ h step
 exact ⟨fun z=>let ⟨ρ',e,h'⟩:=a z; ⟨ρ',e,fin ρ' h'⟩,b⟩
theorem bT {p:α→Bool}:∀ (xs pre:List α),dg (fun _ x=>p x) pre xs=xs.all p
 | [],_=>rfl
 | x :: xs,pre=>by
  show (p x && dg (fun _ x=>p x) (pre ++ [x]) xs)=_
  rw [bT xs,List.all_cons]
end
theorem oS {n:Nat}{α:Type}{f:α→D}:∀ (l:List α),(∀ x∈l,ba n (f x)=true)→plL n (l.map f)=true
 | [],_=>by unfold plL; rfl
 | x :: l,h=>by
  rw [List.map_cons]
  unfold plL
  rw [h x (List.mem_cons_self ..),oS l fun y B=>h y (dt B)]
  rfl
theorem gI {n:Nat}{i:Int}:ba n (.int i)=true:=by unfold ba; rfl
theorem kq {n:Nat}{α:Type}{f:α→D}{l:List α}(h:∀ x∈l,ba n (f x)=true):ba (n+1) (.lst (l.map f))=true:=by
 unfold ba
 rw [show n+1 - 1=n from rfl,oS l h,decide_eq_true (by omega)]
 rfl
theorem lr {d:D}(h:ba 20 d=true):k9 d d= .ok (.bl false):=by
 unfold k9
 rw [if_pos ⟨h,h⟩,pP h]
 rfl
section
variable{ρ:DS}{F:DS→Out}{fi fa f:DS→Res D}{l row ds:List D}{j m t n:Nat}{d:D}{N:List Str}
theorem dA {R:DS→Out}{x:Res D}(ρ':DS)(h:F ρ= .nx ρ')(hr:e8 (R ρ')=x):e8 (ay F R ρ)=x:=by
 rw [de,h]; exact hr
theorem AD (h:ac j ρ= .ok (.lst l))(hi:fi ρ= .ok (.int (m:Int)))(hm:m < l.length)(hl:l.length≤100000):rR j fi ρ= .nx (ρ.set j (some (.lst (l.eraseIdx m)))):=by
 unfold rR
 rw [gP h]; dsimp only
 rw [hi,aU]
 unfold kr
 dsimp only
 rw [en hm]
 dsimp only
 rw [if_pos (eS hl)]
theorem xR (h:ac j ρ= .ok (.lst l))(hi:fi ρ= .ok (.int (m:Int)))(ha:fa ρ= .ok (.int (t:Int)))(hm:l[m]?=some (.lst row))(ht:t < row.length)(hl:row.length≤100000):mq j fi fa ρ= .nx (ρ.set j (some (.lst (l.set m (.lst (row.eraseIdx t)))))):=by
 unfold mq
 rw [gP h]; dsimp only
 rw [hi,aU,ha,aU]
 unfold fB
 dsimp only
 rw [en (dZ hm).1]
 dsimp only
 rw [hm]
 dsimp only
 rw [en ht]
 dsimp only
 rw [if_pos (eS hl)]
theorem xU (h:ac j ρ= .ok (.lst l))(hf:f ρ= .ok d)(hi:fi ρ= .ok (.int (m:Int)))(ha:fa ρ= .ok (.int (t:Int)))(hm:l[m]?=some (.lst row))(ht:t < row.length):mw j fi fa f ρ= .nx (ρ.set j (some (.lst (l.set m (.lst (row.set t d)))))):=by
 unfold mw
 rw [gP h]; dsimp only
 rw [hf,aU,hi,aU,ha,aU]
 unfold kQ
 dsimp only
 rw [en (dZ hm).1]
 dsimp only
 rw [hm]
 dsimp only
 rw [en ht]
theorem Ay (h:ds.length=n)(hF:F (aA N ds)= .nx ρ)(hd:ρ[j]?=some (some d)):oP n N j F ds= .ok d:=by
 unfold oP
 rw [if_pos h,hF]
 dsimp only
 rw [hd]
theorem u6 {μ:List Nat}{f0:DS→Res D}{fs:DS→Res (List D)}{mf:List D→Res D}{d0 dj d:D}(h:ac j ρ= .ok dj)(h0:f0 (cR μ ρ)= .ok d0)(hs:fs (cR μ ρ)= .ok ds)(hm:mf (d0 :: dj :: ds)= .ok d):kD μ j f0 fs mf ρ= .nx (ρ.set j (some d)):=by
 unfold kD
 rw [gP h]
 dsimp only
 rw [h0,aU,hs,aU,hm,aU]
theorem ke {α β:Type}{f:α→β}:∀ (l:List α) (i:Nat),(l.eraseIdx i).map f=(l.map f).eraseIdx i
 | [],_=>rfl
 | _ :: _,0=>rfl
 | a :: l,i+1=>by
  show f a :: (l.eraseIdx i).map f=f a :: (l.map f).eraseIdx i
  rw [ke l i]
theorem cM {n:Nat}{α:Type}{f:α→D}{l:List α}(h:∀ x∈l,bw n (f x)=true):bw (n+1) (.lst (l.map f))=true:=by
 unfold bw
 rw [List.all_eq_true]
 intro d H
 obtain ⟨x,B,rfl⟩:=List.mem_map.mp H
 exact h x B
end
end L2
namespace L2
open PySem PySem.Spec PyProof.Rows
noncomputable def bK:D→List D
 | .lst l=>l
 | .tup l=>l
 | .dct _ l=>l
 | _=>[]
noncomputable def e_:D→List D→D
 | .lst _,l=> .lst l
 | .tup _,l=> .tup l
 | .dct ks _,l=> .dct ks l
 | d,_=>d
noncomputable def ny:HO→List V
 | .lst xs=>xs
 | .tup xs=>xs
 | .dT kvs=>kvs.map (·.2)
 | _=>[]
noncomputable def cj:List Nat→D→Option D
 | [],d=>some d
 | m :: p,d=>match (bK d)[m]? with | some c=>cj p c | none=>none
noncomputable def cp:List Nat→D→D→D
 | [],_,e=>e
 | m :: p,d,e=>match (bK d)[m]? with | some c=>e_ d ((bK d).set m (cp p c e)) | none=>d
noncomputable def valP (H:Hp):List Nat→V→V→Prop
 | [],v,u=>u=v
 | m :: p,v,u=>∃ a o w,v= .ref a∧H a=some o∧(ny o)[m]?=some w∧valP H p w u
theorem valP.mono {H H':Hp}(s:Same H H'):∀ {p:List Nat} {v u:V},valP H p v u→valP H' p v u
 | [],_,_,h=>h
 | _ :: _,_,_,⟨a,o,w,e,h,k,r⟩=>⟨a,o,w,e,s _ _ h,k,valP.mono s r⟩
theorem valP.one {H:Hp}:∀ {p:List Nat} {v u u':V},valP H p v u→valP H p v u'→u=u'
 | [],_,_,_,h,h'=>h.trans h'.symm
 | _ :: _,_,_,_,⟨a,o,w,e,h,k,r⟩,⟨a',o',w',e',h',k',r'⟩=>by
  subst e
  cases e'
  rw [h] at h'
  cases h'
  rw [k] at k'
  cases k'
  exact valP.one r r'
theorem valP.snoc {H:Hp}{m:Nat}{a:Addr}{o:HO}{w:V}(h:H a=some o)(k:(ny o)[m]?=some w):∀ {p:List Nat} {v:V},valP H p v (.ref a)→valP H (p ++ [m]) v w
 | [],_,e=>(iM a o w e.symm h k rfl)
 | _ :: _,_,⟨a',o',w',e',h',k',r⟩=>⟨a',o',w',e',h',k',valP.snoc h k r⟩
theorem nt {m:Nat}:∀ {p:List Nat} {d c:D},cj p d=some c→cj (p ++ [m]) d=(bK c)[m]?
 | [],d,c,h=>by
  cases h
  show (match (bK d)[m]? with | some c=>cj [] c | none=>none)=_
  cases (bK d)[m]? <;> rfl
 | i :: p,d,c,h=>by
  show (match (bK d)[i]? with | some c=>cj (p ++ [m]) c | none=>none)=_
  have h':(match (bK d)[i]? with | some c=>cj p c | none=>none)=some c:=h
  cases q:(bK d)[i]? with
  | none=>rw [q] at h'; cases h'
  | some e=>rw [q] at h'; exact nt h'
theorem pV {d c:D}{m:Nat}(h:L2.flat d=true)(e:(bK d)[m]?=some c):L2.flat c=true:=by
 cases d with
 | lst l=>unfold L2.flat at h; cases h
 | dct j l=>unfold L2.flat at h; cases h
 | tup l=>unfold L2.flat at h; exact iK h (List.mem_of_getElem? e)
 | _=>simp [bK] at e
theorem lK:∀ {p:List Nat} {d c:D},L2.flat d=true→cj p d=some c→L2.flat c=true
 | [],d,c,h,e=>by cases e; exact h
 | m :: p,d,c,h,e=>by
  have e':(match (bK d)[m]? with | some c=>cj p c | none=>none)=some c:=e
  cases q:(bK d)[m]? with
  | none=>rw [q] at e'; cases e'
  | some k=>rw [q] at e'; exact lK (pV h q) e'
section
variable{K:W.Frag}{G H:Hp}
theorem Ow.kid {n m:Nat}{d c:D}{v:V}{S:List Addr}(h:Ow K G H (n+1) d v S)(e:(bK d)[m]?=some c)(hc:L2.flat c=false) :
  ∃ a o T,v= .ref a∧H a=some o∧S=a :: T∧AllW (Ow K G H n) (bK d) (ny o) T∧∀ (H':Hp) l' T',H' a=some o→T'≠[]→AllW (Ow K G H' n) l' (ny o) T'→Ow K G H' (n+1) (e_ d l') v (a :: T'):=by
 cases d with
 | lst l=>
  refine f_ (h) fun a f T U t g b=> ?_
  exact (pY a _ T U t g b (fun H' l' T' p _ o=>(iM a f T' U p rfl o)))
 | dct j l=>
  refine ju (h) fun a f T U t u g b=> ?_
  exact (pY a _ T U t g b (fun H' l' T' p _ o=>(pY a f T' U p u rfl o)))
 | tup l=>
  rcases h with h | ⟨a,f,T,U,t,g,x,b⟩
  ·rw [pV h.1 e] at hc; cases hc
  ·exact (pY a _ T U t g b (fun H' l' T' p n o=> .inr (pY a f T' U p rfl n o)))
 | _=>simp [bK] at e
theorem jC {l:List D}:L2.flat (.lst l)=false:=by unfold L2.flat; rfl
theorem Ow.at:∀ {p:List Nat} {n:Nat} {d c:D} {v:V} {S:List Addr},Ow K G H (n+p.length) d v S→cj p d=some c→L2.flat c=false→∃ u A,valP H p v u∧Ow K G H n c u A
 | [],n,d,c,v,S,h,e,hc=>by cases e; exact (kY v S rfl h)
 | m :: p,n,d,c,v,S,h,e,hc=>by
  have e':(match (bK d)[m]? with | some c=>cj p c | none=>none)=some c:=e
  cases q:(bK d)[m]? with
  | none=>rw [q] at e'; cases e'
  | some k=>
   rw [q] at e'
   have O:L2.flat k=false:=by
    cases z:L2.flat k with
    | false=>rfl
    | true=>rw [lK z e'] at hc; cases hc
   refine ju (Ow.kid (n:=n+p.length) h q O) fun a o T U t g b _=> ?_
   refine lh (b.at q) fun w A L R N P r s=> ?_
   refine kT (Ow.at r e' hc) fun u M f B=> ?_
   exact (kY u M (iM a o w U t N f) B)
theorem my {α:Type}{l:List α}{m:Nat}{x:α}(h:l[m]?=some x):l.set m x=l:=by
 apply List.ext_getElem?
 intro k
 by_cases O:k=m
 ·subst O; rw [List.getElem?_set_self (dZ h).1,h]
 ·rw [List.getElem?_set_ne (Ne.symm O)]
theorem Ow.path:∀ {p:List Nat} {n:Nat} {d:D} {row:List D} {v:V} {S:List Addr},Ow K G H (n+1+p.length) d v S→cj p d=some (.lst row)→S.Nodup→
  ∃ b ys U L R,valP H p v (.ref b)∧H b=some (.lst ys)∧S=L ++ (b :: U) ++ R∧AllW (Ow K G H n) row ys U∧
   (∀ q t a,p=q ++ t→t≠[]→valP H q v (.ref a)→a≠b)∧
   ∀ ys' row' U',AllW (Ow K G (bu H b (.lst ys')) n) row' ys' U'→Ow K G (bu H b (.lst ys')) (n+1+p.length) (cp p d (.lst row')) v (L ++ (b :: U') ++ R)
 | [],n,d,row,v,S,h,e,nd=>by
  cases e
  refine f_ (h) fun a xs T W B j l=> ?_
  exact (AM a xs T ([]) ([]) W.symm B (by rw [j]; simp) l (fun q t a e J=>absurd (List.append_eq_nil_iff.mp e.symm).2 J) (fun ys' row' U' o=>(iM a ys' U' W az (by simp) o)))
 | m :: p,n,d,row,v,S,h,e,nd=>by
  have e':(match (bK d)[m]? with | some c=>cj p c | none=>none)=some (.lst row):=e
  cases q:(bK d)[m]? with
  | none=>rw [q] at e'; cases e'
  | some k=>
   rw [q] at e'
   have hk:L2.flat k=false:=by
    cases z:L2.flat k with
    | false=>rfl
    | true=>have:=lK z e'; rw [jC] at this; cases this
   refine cps fun PP O=> ?_
   refine ju (Ow.kid (n:=n+1+p.length) h q hk) fun a o T W B j l f=> ?_
   refine lh (l.at q) fun w A L R N P g3 g4=> ?_
   subst j
   obtain ⟨I,Q⟩:=List.nodup_cons.mp nd
   rw [P] at Q I
   obtain ⟨h2,h3,h4⟩:=List.nodup_append.mp Q
   obtain ⟨h5,h6,h7⟩:=List.nodup_append.mp h2
   refine BY (Ow.path g3 e' h6) fun b ys U L2 R2 k1 k2 s k4 k6 k5=> ?_
   refine O ?_; clear O PP
   have F:b∈A:=by rw [s]; exact List.mem_append_left _ (List.mem_append_right _ (List.mem_cons_self ..))
   have nb:∀ c,c∈L∨c∈R→c≠b:=fun c g z=>by
    subst z
    rcases g with y | y
    ·exact h7 c y c F rfl
    ·exact h4 c (List.mem_append_right _ F) c y rfl
   have X:a≠b:=fun z=>I (z ▸ List.mem_append_left _ (List.mem_append_right _ F))
   refine (AM b ys U (a :: (L ++ L2)) (R2 ++ R) (iM a o w W B N k1) k2 (by rw [P,s]; simp [List.append_assoc]) k4 (fun q t x eq J Z=> ?_) (fun ys' row' U' ou=> ?_))
   ·cases q with
    | nil=>cases (show V.ref x=v from Z); cases W; exact X
    | cons i q=>
     cases eq
     refine f_ (Z) fun a2 o2 w2 z1 Y r z4=> ?_
     subst W
     cases z1
     rw [B] at Y
     cases Y
     rw [N] at r
     cases r
     exact k6 q t x rfl J z4
   have E:=g4 (Ow K G (bu H b (.lst ys')) (n+1+p.length)) (fun d v C hC z=>z.mono (.refl _) fun c g u eu=>by rw [am (nb c (hC c g))]; exact eu) (cp p k (.lst row')) w (L2 ++ (b :: U') ++ R2) (k5 ys' row' U' ou)
   rw [my N] at E
   have M:=f (bu H b (.lst ys')) ((bK d).set m (cp p k (.lst row'))) (L ++ (L2 ++ (b :: U') ++ R2) ++ R) (by rw [am X]; exact B) (by intro z; simp at z) E
   have es:cp (m :: p) d (.lst row')=e_ d ((bK d).set m (cp p k (.lst row'))):=by
    show (match (bK d)[m]? with | some c=>e_ d ((bK d).set m (cp p c (.lst row'))) | none=>d)=_
    rw [q]
   rw [es]
   have el:a :: (L ++ L2) ++ (b :: U') ++ (R2 ++ R)=a :: (L ++ (L2 ++ (b :: U') ++ R2) ++ R):=by simp [List.append_assoc]
   rw [el]
   exact M
end
section
variable{K:W.Frag}{μ:List Nat}{Ge B G H:Hp}{σ:St}{ρ:DS}{fp:Nat→List Addr}{j n:Nat}
theorem Rw.path {p:List Nat}{d:D}{row:List D}(R:Rw K μ Ge B G H σ ρ fp)(hm:μ.getD j 0=n+1+p.length)(hr:ρ[j]?=some (some d))(hp:cj p d=some (.lst row)) :
  ∃ v b ys U,σ[j]?=some (some v)∧valP H p v (.ref b)∧H b=some (.lst ys)∧AllW (Ow K G H n) row ys U∧U.Nodup∧b∉U∧b∈fp j∧(∀ c∈U,c∈fp j)∧(∀ q t a,p=q ++ t→t≠[]→valP H q v (.ref a)→a≠b)∧
   ∀ ys' row' U',AllW (Ow K G (bu H b (.lst ys')) n) row' ys' U'→U'.Nodup→(∀ c∈U',c∈U∨((G c=none∧B c=none)∧∀ i,c∉fp i))→∃ fp',Rw K μ Ge B G (bu H b (.lst ys')) σ (ρ.set j (some (cp p d (.lst row')))) fp':=by
 refine cps fun PP J=> ?_
 obtain ⟨v,C,o⟩:=R.sl j d hr
 rw [hm] at o
 refine BY (o.path hp (R.nd j)) fun b ys U L Q N O A M E T=> ?_
 have nd:=R.nd j
 rw [A] at nd
 obtain ⟨V,Z,X⟩:=List.nodup_append.mp nd
 obtain ⟨Y,r,W⟩:=List.nodup_append.mp V
 obtain ⟨l,u⟩:=List.nodup_cons.mp r
 refine J ?_; clear J PP
 have F:b∈fp j:=by rw [A]; exact List.mem_append_left _ (List.mem_append_right _ (List.mem_cons_self ..))
 have m:∀ c∈U,c∈fp j:=fun c e=>by rw [A]; exact List.mem_append_left _ (List.mem_append_right _ (dt e))
 have sL:∀ c∈L,c∈fp j:=fun c e=>by rw [A]; exact List.mem_append_left _ (List.mem_append_left _ e)
 have k:∀ c∈Q,c∈fp j:=fun c e=>by rw [A]; exact List.mem_append_right _ e
 refine (CT v b ys U C N O M u l F m E (fun ys' row' U' P s g=> ?_))
 have h:(L ++ (b :: U') ++ Q).Nodup:=ki nd (List.nodup_cons.mpr ⟨fun z=>by
   rcases g b z with y | y
   ·exact l y
   ·exact y.2 j F,s⟩) fun c e=>by
  rcases List.mem_cons.mp e with z | z
  ·subst z; exact .inl (List.mem_cons_self ..)
  ·rcases g c z with y | y
   ·exact .inl (dt y)
   ·exact .inr ⟨fun x=>y.2 j (sL c x),fun x=>y.2 j (k c x)⟩
 have f:∀ c∈L ++ (b :: U') ++ Q,c∈fp j∨((G c=none∧B c=none)∧∀ i,c∉fp i):=fun c e=>by
  rcases List.mem_append.mp e with z | z
  ·rcases List.mem_append.mp z with y | y
   ·exact .inl (sL c y)
   ·rcases List.mem_cons.mp y with x | x
    ·subst x; exact .inl F
    ·exact (g c x).imp (m c) id
  ·exact .inl (k c z)
 refine ⟨_,R.write (S:=L ++ (b :: U') ++ Q) F C (by rw [hm]; exact T ys' row' U' P) h (fun c e=> ?_) fun i w c e I=> ?_⟩
 ·rcases f c e with y | y
  ·exact ⟨R.gf j c y,R.ob j c y⟩
  ·exact y.1
 ·rcases f c e with y | y
  ·exact w (R.dj i j c I y)
  ·exact y.2 i I
end
inductive tAt (K:W.Frag)(E:XK)(μ:List Nat)(j:Nat)(g:DS→Res (List Nat))(σ:St)(H:Hp)(Q:VK):Prop
 | mk (Ge B G:Hp) (ρ:DS) (fp:Nat→List Addr) (R:Rw K μ Ge B G H σ ρ fp) (o:OkR E B (g ρ)) (k:∀ p,g ρ= .ok p→∀ v0 v G' H',σ[j]?=some (some v0)→valP H' p v0 v→Rw K μ Ge B G' H' σ ρ fp→Same G G'→Same H H'→Q v H')
noncomputable def Es (X:Cx)(E:XK)(μ:List Nat)(j:Nat)(e:Expr)(g:DS→Res (List Nat)):Prop:=PE X e (tAt X.K E μ j g)
noncomputable def zl (j:Nat):DS→Res (List Nat):=fun ρ=>match ρ[j]? with | some (some _)=> .ok [] | _=> .bad
noncomputable def zr (ρ:DS)(j:Nat)(p:List Nat)(i:D):Res (List Nat):=match ρ[j]? with
 | some (some d)=>(match cj p d with
  | some (.lst l)=>(match i with | .int k=>(match iT l.length k with | some m=> .ok (p ++ [m]) | none=> .bad) | _=> .bad)
  | some (.tup l)=>if L2.flat (.tup l)=true then .bad else (match i with | .int k=>(match iT l.length k with | some m=> .ok (p ++ [m]) | none=> .bad) | _=> .bad)
  | _=> .bad)
 | _=> .bad
noncomputable def kW (j n:Nat)(g:DS→Res (List Nat))(fi:DS→Res D):DS→Res (List Nat):=fun ρ=>(g ρ).bind fun p=>(fi ρ).bind fun i=>if p.length=n then zr ρ j p i else .bad
section
variable{X:Cx}{E:XK}{μ:List Nat}{r n j:Nat}
theorem zR {x:Str}{px:Pos}(hN:X.N[j]?=some x)(hv:oe X.env.scope x)(hd:(x == ("__debug__" :Str))=false:=by decide)(hcd:(x == ("__classdict__" :Str))=false:=by decide):Es X E μ j (.Name x px) (zl j):=by
 intro A s C H Q I p
 obtain ⟨Ge,B,G,a,c,R,D,k⟩:=p
 have L:∃ d,a[j]?=some (some d):=by
  unfold zl at D
  split at D
  ·rename_i d q; exact ⟨d,q⟩
  ·exact D.elim
 obtain ⟨d,F⟩:=L
 obtain ⟨v,g,_⟩:=R.sl j d F
 exact cx hN hv hd hcd A s C H Q I ⟨v,g,k [] (by unfold zl; rw [F]) v v G H g rfl R (.refl _) (.refl _)⟩
theorem Rw.node {K:W.Frag}{Ge B G H:Hp}{σ:St}{ρ:DS}{fp:Nat→List Addr}{p:List Nat}{d c:D}{m:Nat}(R:Rw K μ Ge B G H σ ρ fp)(hm:μ.getD j 0=m+p.length)(hr:ρ[j]?=some (some d))(hp:cj p d=some c)(hc:L2.flat c=false){v0 v:V}(hv:σ[j]?=some (some v0))(h:valP H p v0 v):∃ A,Ow K G H m c v A:=by
 obtain ⟨w,b,o⟩:=R.sl j d hr
 rw [hv] at b
 cases b
 rw [hm] at o
 refine kT (o.at hp hc) fun u A a e=> ?_
 cases valP.one h a
 exact ⟨A,e⟩
theorem zm {o i:Expr}{pos:Pos}{g:DS→Res (List Nat)}{fi:DS→Res D}{m:Nat}(hm:μ.getD j 0=m+1+n)(ho:Es X E μ j o g)(hi:PD X E i fi)(hpi:gr i:=by intro _ _; rfl):Es X E μ j (.Subscript o i pos) (kW j n g fi):=by
 intro C s σ H Q I z
 obtain ⟨Ge,B,G,b,M,R,u,k⟩:=z
 refine nP (IxR.or ix_list ix_tup) ho (dq hi) hpi C s σ H Q I ?_
 refine ⟨Ge,B,G,b,M,R,u.fst,fun p N v0 v G1 H1 Y r S sg sh=>⟨jX M G1 H1,b,S.vh,S.ro,(u.snd N (Same.refl B)).fst.le S.bh,fun L ei vi G3 H3 x W=> ?_⟩⟩
 have J:=(u.snd N (Same.refl B)).snd ei (Same.refl B)
 by_cases hn:p.length=n
 ·subst hn
  rw [if_pos rfl] at J
  have e0:kW j p.length g fi b=zr b j p L:=by unfold kW; rw [N,aq,ei,aq,if_pos rfl]
  unfold zr at J
  cases P:b[j]? with
  | none=>rw [P] at J; exact J.elim
  | some od=>
  cases od with
  | none=>rw [P] at J; exact J.elim
  | some d=>
  rw [P] at J
  dsimp only at J
  have F:∀ {l:List D} {e:List V} {a:Addr} {ob:HO} {k0:Int} {h:Nat} {w:V},v= .ref a→H1 a=some ob→ny ob=e→e[h]?=some w→zr b j p L= .ok (p ++ [h])→Q w H3:=fun {l e a ob k0 h w} ev eo ek ew O=>by
   subst ev ek
   exact k (p ++ [h]) (e0.trans O) v0 w (jZ (nu M) G3) H3 Y ((r.mono x.hh).snoc (x.hh _ _ eo) ew) (S.grow x) (sg.trans (S.gg x)) (sh.trans x.hh)
  cases Z:cj p d with
  | none=>rw [Z] at J; exact J.elim
  | some c=>
  rw [Z] at J
  cases c with
  | lst l=>
   dsimp only at J
   cases L with
   | int k0=>
    dsimp only at J
    cases q:iT l.length k0 with
    | none=>rw [q] at J; exact J.elim
    | some h=>
     rw [rep_int] at W
     subst W
     refine lh (S.node (m:=m+1) hm P Z jC Y r) fun A a e T U y e3 f=> ?_
     have t:h < e.length:=by rw [← f.length]; exact (dM q).2.1
     refine .inl (rj a e k0 (e[h]) U rfl (.inl (.inl (x.hh _ _ y))) (by unfold L2.atI; rw [← f.length,q]; exact cS t) (F (l:=l) (k0:=k0) U y rfl (cS t) ?_))
     unfold zr; rw [P]; dsimp only; rw [Z]; dsimp only; rw [q]
   | _=>exact J.elim
  | tup l=>
   dsimp only at J
   by_cases K:L2.flat (.tup l)=true
   ·rw [if_pos K] at J; exact J.elim
   ·rw [if_neg K] at J
    have hf':=Bool.eq_false_iff.mpr K
    cases L with
    | int k0=>
     dsimp only at J
     cases q:iT l.length k0 with
     | none=>rw [q] at J; exact J.elim
     | some h=>
      rw [rep_int] at W
      subst W
      obtain ⟨A,ow⟩:=S.node (m:=m+1) hm P Z hf' Y r
      rcases ow with ow | ⟨a,e,T,U,y,e3,e5,f⟩
      ·exact absurd ow.1 K
      ·have t:h < e.length:=by rw [← f.length]; exact (dM q).2.1
       refine .inr (rj a e k0 (e[h]) U rfl (.inl (.inl (x.hh _ _ y))) (by unfold L2.atI; rw [← f.length,q]; exact cS t) (F (l:=l) (k0:=k0) U y rfl (cS t) ?_))
       unfold zr; rw [P]; dsimp only; rw [Z]; dsimp only; rw [if_neg K,q]
    | _=>exact J.elim
  | _=>exact J.elim
 ·rw [if_neg hn] at J; exact J.elim
noncomputable def qu (ρ:DS)(j n:Nat)(p:List Nat)(f:List D→Out):Out:=if p.length=n then (match ρ[j]? with
 | some (some t)=>(match cj p t with | some (.lst row)=>f row | _=> .bad)
 | _=> .bad) else .bad
theorem yQ {ρ:DS}{n:Nat}{p:List Nat}{f:List D→Out}{B:Hp}(h:OkO E B (qu ρ j n p f)):p.length=n∧∃ t row,ρ[j]?=some (some t)∧cj p t=some (.lst row)∧qu ρ j n p f=f row:=by
 unfold qu at h
 by_cases v:p.length=n
 ·rw [if_pos v] at h
  refine ⟨v,?_⟩
  cases P:ρ[j]? with
  | none=>rw [P] at h; exact h.elim
  | some o=>
  cases o with
  | none=>rw [P] at h; exact h.elim
  | some t=>
  rw [P] at h
  dsimp only at h
  cases Z:cj p t with
  | none=>rw [Z] at h; exact h.elim
  | some c=>
  rw [Z] at h
  cases c with
  | lst row=>exact (dL t row rfl Z (by unfold qu; rw [if_pos v,P]; dsimp only; rw [Z]))
  | _=>exact h.elim
 ·rw [if_neg v] at h; exact h.elim
end
theorem uc {m:Nat}{p:List Nat}{d c:D}(h:(bK d)[m]?=some c):cj (m :: p) d=cj p c:=by
 show (match (bK d)[m]? with | some c=>cj p c | none=>none)=_
 rw [h]
theorem cO {m:Nat}{p:List Nat}{d c e:D}(h:(bK d)[m]?=some c):cp (m :: p) d e=e_ d ((bK d).set m (cp p c e)):=by
 show (match (bK d)[m]? with | some c=>e_ d ((bK d).set m (cp p c e)) | none=>d)=_
 rw [h]
theorem jI {m:Nat}{p:List Nat}{d c:D}(h:cj (m :: p) d=some c):∃ k,(bK d)[m]?=some k∧cj p k=some c:=by
 have h':(match (bK d)[m]? with | some c=>cj p c | none=>none)=some c:=h
 cases q:(bK d)[m]? with
 | none=>rw [q] at h'; cases h'
 | some k=>rw [q] at h'; exact ⟨k,rfl,h'⟩
theorem oJ {d:D}{l:List D}{m:Nat}{c:D}(h:(bK d)[m]?=some c):bK (e_ d l)=l:=by
 cases d with
 | lst _=>rfl
 | tup _=>rfl
 | dct _ _=>rfl
 | _=>simp [bK] at h
theorem Ea {d:D}{l l':List D}:e_ (e_ d l) l'=e_ d l':=by
 cases d <;> rfl
theorem yR {d:D}:e_ d (bK d)=d:=by
 cases d <;> rfl
theorem nS:∀ {p:List Nat} {d c:D},cj p d=some c→cp p d c=d
 | [],d,c,h=>by cases h; rfl
 | m :: p,d,c,h=>by
  obtain ⟨k,a,b⟩:=jI h
  rw [cO a,nS b,my a,yR]
theorem nr {e:D}:∀ {p:List Nat} {d c:D},cj p d=some c→cj p (cp p d e)=some e
 | [],_,_,_=>rfl
 | m :: p,d,c,h=>by
  obtain ⟨k,a,b⟩:=jI h
  have o:=(dZ a).1
  have A:(bK (e_ d ((bK d).set m (cp p k e))))[m]?=some (cp p k e):=by rw [oJ a,List.getElem?_set_self o]
  rw [cO a,uc A]
  exact nr b
theorem nT {e e':D}:∀ {p:List Nat} {d c:D},cj p d=some c→cp p (cp p d e) e'=cp p d e'
 | [],_,_,_=>rfl
 | m :: p,d,c,h=>by
  obtain ⟨k,a,b⟩:=jI h
  have o:=(dZ a).1
  have A:(bK (e_ d ((bK d).set m (cp p k e))))[m]?=some (cp p k e):=by rw [oJ a,List.getElem?_set_self o]
  rw [cO a,cO A,oJ a,Ea,nT b,cO a,List.set_set]
theorem nU {e:D}{i:Nat}{k:D}:∀ {p:List Nat} {d c:D},cj p d=some c→(bK c)[i]?=some k→cp (p ++ [i]) d e=cp p d (e_ c ((bK c).set i e))
 | [],d,c,h,h'=>by cases h; exact cO h'
 | m :: p,d,c,h,h'=>by
  obtain ⟨q,a,b⟩:=jI h
  show cp (m :: (p ++ [i])) d e=_
  rw [cO a,cO a,nU b h']
noncomputable def eP (c:Int):D→D
 | .lst r=> .lst (r ++ [.int c])
 | d=>d
noncomputable def nv:D→Bool
 | .lst r=>aN r.length
 | _=>false
noncomputable def fQ (c:Int)(i:Nat)(rows:List D):List D:=(rows.take i).map (eP c) ++ rows.drop i
theorem uH {c:Int}{rows:List D}:fQ c 0 rows=rows:=rfl
theorem wU {c:Int}{rows:List D}:fQ c rows.length rows=rows.map (eP c):=by unfold fQ; rw [List.take_length,List.drop_length,List.append_nil]
theorem zf {c:Int}{rows:List D}{i:Nat}(h:i < rows.length):(fQ c i rows)[i]?=rows[i]?:=by
 unfold fQ
 rw [List.getElem?_append_right (by simp; omega)]
 simp [Nat.min_eq_left (Nat.le_of_lt h)]
theorem uG {c:Int}{rows:List D}{i:Nat}{d:D}(h:rows[i]?=some d):(fQ c i rows).set i (eP c d)=fQ c (i+1) rows:=by
 have o:=(dZ h).1
 have H:rows[i]=d:=(dZ h).2
 unfold fQ
 have T:((rows.take i).map (eP c)).length=i:=by simp; omega
 rw [List.set_append_right _ _ (by omega),T,Nat.sub_self,List.drop_eq_getElem_cons o,List.set_cons_zero,List.take_succ_eq_append_getElem o,List.map_append,List.append_assoc,H]
 rfl
theorem Bl {K:W.Frag}{G H:Hp}{c:Int}:∀ {n:Nat},Ow K G H n (.int c) (.int c) []
 | 0=>⟨rfl,rep_int.mpr rfl⟩
 | _+1=>⟨by unfold L2.flat; rfl,rfl,rep_int.mpr rfl⟩
noncomputable def vk (ρ:DS)(j jr:Nat)(c:Int)(p:List Nat)(rows:List D):Out:=match ρ[j]? with
 | some (some t)=>if rows.all nv=true then .nx ((ρ.set jr none).set j (some (cp p t (.lst (rows.map (eP c)))))) else .bad
 | _=> .bad
noncomputable def jk (j jr n:Nat)(c:Int)(g:DS→Res (List Nat)):DS→Out:=fun ρ=>(g ρ).out fun p=>qu ρ j n p fun rows=>vk ρ j jr c p rows
section
variable{X:Cx}{E:XK}{μ:List Nat}{r n j:Nat}
theorem ur {o:Expr}{x:Str}{jr kk m:Nat}{c:Int}{p1 p2 p3 apos cpos pos' pos:Pos}{g:DS→Res (List Nat)}(hp:PassesOwn (model X.prog X.w) X.A X.env X.xe)(hc:X.calm=true)(hm:μ.getD j 0=m+1+(n+1))(hjr:jr≠j)(hNd:X.N.Nodup)(hN:X.N[jr]?=some x)(hx:w_ X.env.scope x)(hv:oe X.env.scope x)(hpa:Es X E μ j o g)
  (hd:(x == ("__debug__" :Str))=false:=by decide) (hcd:(x == ("__classdict__" :Str))=false:=by decide)
  (hf:X.fn x=true∨X.env.scope.names.lookup x=some .local:=by first | exact .inl rfl | exact .inr rfl)
  (hs:starEach [.Constant (.int c) kk p3] X.env=(false,eval (.Constant (.int c) kk p3) X.env) :: starEach [] X.env:=by rfl)
  (hbase:attributeBase (.Name x p2) "append" X.env (eval (.Name x p2) X.env)=eval (.Name x p2) X.env:=by rfl)
  (hfew:((backTo cpos (starEach [.Constant (.int c) kk p3] X.env)).all (fun x=> !x.1) && (backToKw cpos (keywordEach [] X.env)).all (fun x=>x.1.isSome) && decide (([(.Constant (.int c) kk p3:Expr)].length+([]:List Keyword).length+if ([]:List Keyword).isEmpty=true then 0 else 1) < 30))=true:=by rfl)
  (hline:(apos.endLine == cpos.line)=true:=by rfl)
  (hsw:swapsWith (.Call (.Attribute (.Name x p2) "append" apos) [.Constant (.int c) kk p3] [] cpos) none pos'.line X.env=pure false:=by rfl)
  (hfi:∀ x,foldedSetIterable o X.env x=pure x:=by intro _; rfl) :
  j1 X E μ r (.For (.Name x p1) o [.Expr (.Call (.Attribute (.Name x p2) "append" apos) [.Constant (.int c) kk p3] [] cpos) pos'] [] pos) (jk j jr n c g):=by
 intro pins s σ Ge B G H f fp I R ho
 have hjσ:jr < σ.length:=by rw [I.len]; exact (dZ hN).1
 have hb:=kO (apos:=apos) (cpos:=cpos) (r:=dk) PySem.F.plainAttrs_list PySem.F.slot_list_append PySem.F.type_list_append (show xf X "list.append" dk from fX) (cx (pos:=p2) hN hv hd hcd) (bq (we (i:=c) (j:=kk) (pos:=p3)) dh hs) hbase hfew hline hs rfl
 refine aO (BE (pos:=pos) hp hc (tf hpa) (fA (pos:=p1) hNd hN hx hf) (tz (dN (pos:=pos') hb hsw)) hfi pins s σ H { nx:=fun M O=>∃ W G' J,jk j jr n c g f= .nx W∧Rw X.K μ Ge B G' O M W J∧Same G G',bk:=fun _ _=>False,ct:=fun _ _=>False,rt:=fun _ _=>False } I ⟨Ge,B,G,f,fp,R,ho.res,fun p ep v0 v G1 H1 hv0 Z R1 sg sh=> ?_⟩) fun fl s1 P=> ?_
 ·have k:=ho.res2 ep (Same.refl B)
  have e0:jk j jr n c g f=qu f j n p fun rows=>vk f j jr c p rows:=by unfold jk; rw [aZ ep]
  refine uL (yQ k) fun hn t rows hr hg e1=> ?_
  rw [e1] at k
  subst hn
  have e2:vk f j jr c p rows=if rows.all nv=true then .nx ((f.set jr none).set j (some (cp p t (.lst (rows.map (eP c)))))) else .bad:=by unfold vk; rw [hr]
  rw [e2] at k
  by_cases Q:rows.all nv=true
  ·have e3:=(e0.trans e1).trans (e2.trans (if_pos Q))
   refine lh (R1.node (m:=m+2) (by rw [hm]; omega) hr hg jC hv0 Z) fun A a xs T f1 f2 f3 f4=> ?_
   subst f1
   have hjl:j < f.length:=(dZ hr).1
   have L:=f4.length
   refine (iZ a rfl ⟨xs,.inl (.inl f2)⟩ (vm (xs:=xs) (fun i M O=>O a=some (.lst xs)∧M[j]?=some (some v0)∧M.length=σ.length∧valP O p v0 (.ref a)∧∃ J,Rw X.K μ Ge B G1 O M ((f.set jr none).set j (some (cp p t (.lst (fQ c i rows))))) J) ?_ ?_ ?_ ?_))
   ·refine (Dq f2 hv0 rfl Z (fun i=>if i=jr then [] else fp i) ?_)
    rw [uH,nS hg]
    have er:(f.set jr none).set j (some t)=f.set jr none:=my (by rw [List.getElem?_set_ne hjr]; exact hr)
    rw [er]
    exact R1.drop
   ·intro i M O _ hZ28
    obtain ⟨z,_⟩:=hZ28
    exact .inl (.inl z)
   ·intro i y M O hy hZ29
    refine En (hZ29) fun z1 z2 z3 z4 J R2=> ?_
    have hi:i < rows.length:=by rw [L]; exact (dZ hy).1
    have Y:nv rows[i]=true:=List.all_eq_true.mp Q _ (List.getElem_mem hi)
    have hrx:∃ S,rows[i]= .lst S∧aN S.length=true:=by
     unfold nv at Y
     split at Y
     ·rename_i S q; exact ⟨S,q,Y⟩
     ·cases Y
    obtain ⟨S,eri,hlk⟩:=hrx
    have hri':rows[i]?=some (.lst S):=by rw [cS hi,eri]
    have hr2:((f.set jr none).set j (some (cp p t (.lst (fQ c i rows)))))[j]?=some (some (cp p t (.lst (fQ c i rows)))):=List.getElem?_set_self (by rw [List.length_set]; exact hjl)
    have hg1:=nr (e:= .lst (fQ c i rows)) hg
    have hk1:(bK (D.lst (fQ c i rows)))[i]?=some (.lst S):=(zf hi).trans hri'
    have hg2:cj (p ++ [i]) (cp p t (.lst (fQ c i rows)))=some (.lst S):=(nt hg1).trans hk1
    refine FJ (R2.path (n:=m) (p:=p ++ [i]) (by rw [hm]; simp) hr2 hg2) fun v1 b ys U c0 c1 c2 c3 c4 c5 c6 c7 c8 c9=> ?_
    rw [z2] at c0
    cases c0
    have ey:=(valP.snoc z1 (show (ny (HO.lst xs))[i]?=some y from hy) z4).one c1
    subst ey
    have hab:=c8 p [i] a rfl (by intro z; cases z) z4
    have neU:∀ d,d∈U→d≠b:=fun d hd z=>c5 (z ▸ hd)
    obtain ⟨fp3,R3⟩:=c9 (ys ++ [.int c]) (S ++ [.int c]) (U ++ []) (.append (c3.mono fun d v A _ hA z=>z.mono (.refl _) fun e he u eu=>by rw [am (neU e (hA e he))]; exact eu) (.one Bl)) (by rw [List.append_nil]; exact c4) (fun d hd=> .inl (by rw [List.append_nil] at hd; exact hd))
    have hv1:valP (bu O b (.lst (ys ++ [.int c]))) p v0 (.ref a):=by
     have go:∀ {q:List Nat} {w:V},valP O q w (.ref a)→(∀ l t1 C,q=l ++ t1→valP O l w (.ref C)→C≠b)→valP (bu O b (.lst (ys ++ [.int c]))) q w (.ref a):=by
      intro q
      induction q with
      | nil=>intro w h _; exact h
      | cons i0 q ih=>
       intro w h hb'
       refine f_ (h) fun C o1 w1 y1 y2 y3 y4=> ?_
       refine (iM C o1 w1 y1 (by rw [am (hb' [] (i0 :: q) C rfl y1.symm)]; exact y2) y3 (ih y4 fun l t1 a2 eq h2=>hb' (i0 :: l) t1 a2 (by rw [eq]; rfl) (iM C o1 w1 y1 y2 y3 h2)))
     exact go z4 fun l t1 C eq h1=>c8 l (t1 ++ [i]) C (by rw [eq,List.append_assoc]) (by simp) h1
    refine (CU (.ref b) (List.getElem?_set_self (by rw [z3]; exact hjσ)) (.inl ⟨rfl,ys,.inl (.inl c2)⟩) b ys (.int c) rfl rfl c2 (by rw [← c3.length]; exact iq hlk) ?_)
    refine (Dq (by rw [am hab]; exact z1) (by rw [List.getElem?_set_ne hjr]; exact z2) (by rw [List.length_set]; exact z3) hv1 (fun i=>if i=jr then [] else fp3 i) ?_)
    have R4:=R3.forget (i:=jr) (o:=some (.ref b))
    have eρ:((((f.set jr none).set j (some (cp p t (.lst (fQ c i rows))))).set j (some (cp (p ++ [i]) (cp p t (.lst (fQ c i rows))) (.lst (S ++ [.int c]))))).set jr none)=(f.set jr none).set j (some (cp p t (.lst (fQ c (i+1) rows)))):=by
     rw [nU hg1 hk1,nT hg,List.set_set,List.set_comm _ _ (Ne.symm hjr),List.set_set]
     have:e_ (D.lst (fQ c i rows)) ((bK (D.lst (fQ c i rows))).set i (.lst (S ++ [.int c])))= .lst (fQ c (i+1) rows):=by
      show D.lst ((fQ c i rows).set i (.lst (S ++ [.int c])))=_
      rw [← uG hri']; rfl
     rw [this]
    rw [eρ] at R4
    exact R4
   ·intro M O hZ30
    refine En (hZ30) fun z1 z2 z3 z4 J R2=> ?_
    rw [← L,wU] at R2
    exact (Df _ G1 J e3 R2 sg)
  ·rw [if_neg Q] at k; exact k.elim
 ·cases fl with
  | next=>
   obtain ⟨M,O,I',W,G',J,e1,R',sg⟩:=P
   exact ⟨W,_,G',O,J,e1,I',R',sg⟩
  | brk=>obtain ⟨_,_,_,P⟩:=P; exact P.elim
  | cont=>obtain ⟨_,_,_,P⟩:=P; exact P.elim
  | ret u=>obtain ⟨_,_,_,_,_,P⟩:=P; exact P.elim
end
section
variable{X:Cx}{E:XK}{μ:List Nat}{r n j:Nat}
end
theorem Ow.noCells {K:W.Frag}{G H:Hp}{n:Nat}{d:D}{v:V}(h:Ow K G H (n+1) d v []):L2.flat d=true∧Rep K G d v:=by
 cases d with
 | lst l=>refine f_ (h) fun a f T _ _ e _=> ?_; cases e
 | dct j l=>refine ju (h) fun a f T _ _ _ e _=> ?_; cases e
 | tup l=>
  rcases h with h | ⟨a,f,T,_,_,e,_⟩
  ·exact ⟨h.1,h.2.2⟩
  ·cases e
 | _=>exact ⟨h.1,h.2.2⟩
theorem AllW.noCells {K:W.Frag}{G H:Hp}{n:Nat}:∀ {ds:List D} {vs:List V},AllW (Ow K G H (n+1)) ds vs []→flats ds=true∧RepL K G ds vs
 | [],_,h=>by rw [h.1]; exact ⟨by unfold flats; rfl,.nil⟩
 | d :: ds,_,h=>by
  refine cps fun PP I=> ?_
  refine lh (h) fun v r A B T t a b=> ?_
  obtain ⟨rfl,rfl⟩:=List.append_eq_nil_iff.mp t.symm
  subst T
  obtain ⟨z,U⟩:=a.noCells
  obtain ⟨f2,k⟩:=AllW.noCells b
  refine I ?_; clear I PP
  exact ⟨by unfold flats; rw [z,f2]; rfl,.cons U k⟩
section
variable{X:Cx}{E:XK}{μ:List Nat}{r n:Nat}
noncomputable def i6 (f g:DS→Res D):DS→Res D:=fun ρ=>(f ρ).bind fun a=>(g ρ).bind fun b=> .ok (.tup [a,b])
theorem Ow.pairUp {K:W.Frag}{Ge B G H:Hp}{σ:St}{ρ:DS}{fp:Nat→List Addr}{d1 d2:D}{v1 v2:V}{S1 S2:List Addr}{p:Addr}(R:Rw K μ Ge B G H σ ρ fp)(o1:Ow K G H (n+1) d1 v1 S1)(o2:Ow K G H (n+1) d2 v2 S2)(nd:(S1 ++ S2).Nodup)(hS:∀ a∈S1 ++ S2,G a=none∧B a=none)(hp:H p=none) :
  ∃ G' S,Ext Ge B G' (bu H p (.tup [v1,v2]))∧Ow K G' (bu H p (.tup [v1,v2])) (n+2) (.tup [d1,d2]) (.ref p) S∧New B G' S:=by
 have X:AllW (Ow K G H (n+1)) [d1,d2] [v1,v2] (S1 ++ S2):=(CV v1 ([v2]) S1 S2 rfl rfl o1 v2 ([]) S2 ([]) rfl ((List.append_nil _).symm) o2 rfl rfl)
 by_cases w:S1 ++ S2=[]
 ·rw [w] at X
  obtain ⟨r,f⟩:=X.noCells
  have x:=R.ext.trans (.new R.gh hp (.tup [v1,v2]))
  exact (dL _ ([]) x (.inl ⟨by unfold L2.flat; exact r,rfl,rep_tup.mpr (dL p _ rfl (.of az) (f.mono (Ext.new R.gh hp _).gg))⟩) .nil)
 ·have T:p∉S1 ++ S2:=fun z=>by obtain ⟨u,E,_⟩:=X.has p z; rw [hp] at E; cases E
  have c:G p=none:=by
   cases q:G p with
   | none=>rfl
   | some u=>rw [R.gh p u q] at hp; cases hp
  refine ⟨G,p :: (S1 ++ S2),R.ext.hnew hp _,.inr ⟨p,_,_,rfl,az,rfl,w,X.mono fun d v A _ Z z=>z.mono (.refl _) fun b y u e=>by
   have Y:b≠p:=fun U=>T (U ▸ Z b y)
   rw [am Y]; exact e⟩,List.nodup_cons.mpr ⟨T,nd⟩,fun a C=> ?_⟩
  rcases List.mem_cons.mp C with z | z
  ·subst z; exact ⟨R.bh.free hp,c⟩
  ·exact ⟨(hS a z).2,(hS a z).1⟩
theorem wv {j:Nat}{x:Str}{e:Expr}{x1:Nat}{px tp pos:Pos}{f:DS→Res D}(h:PZ X E μ (n+1) e f)(hm:μ.getD j 0=n+1)(hN:X.N[j]?=some x)(hv:oe X.env.scope x)
  (hd:(x == ("__debug__" :Str))=false:=by decide) (hcd:(x == ("__classdict__" :Str))=false:=by decide)
  (hs:starEach [e,.Name x px] X.env=(false,eval e X.env) :: starEach [.Name x px] X.env:=by rfl) (hs2:starEach [.Name x px] X.env=(false,eval (.Name x px) X.env) :: starEach [] X.env:=by rfl) :
  j1 X E μ (n+2) (.Return (some (.Tuple [e,.Name x px] x1 tp)) pos) (br (i6 f (ac j))):=by
 intro A s V Ge B G H g i I R P
 have Z:=mi (pos:=pos) (rN (x1:=x1) (pos:=tp) (bq (l_ h) (bq (cx (pos:=px) hN hv hd hcd) dh hs2) hs))
 refine aO (Z A s V H { nx:=fun _ _=>False,bk:=fun _ _=>False,ct:=fun _ _=>False,rt:=fun v O=>∃ d c S,i6 f (ac j) g= .ok d∧Ext Ge B c O∧Ow X.K c O (n+2) d v S∧New B c S } I ⟨Ge,B,G,g,i,R,P.res.fst,fun d t v G1 H1 S T sg sh o w=> ?_⟩) fun fl s1 q=> ?_
 ·have k:=P.res.snd t (Same.refl B)
  have J:∃ F,g[j]?=some (some F)∧ac j g= .ok F:=by
   have h:=k.fst
   unfold ac at h
   split at h
   ·rename_i l q; exact ⟨l,q,by unfold ac; rw [q]⟩
   ·exact h.elim
  refine cps fun PP L=> ?_
  obtain ⟨F,U,Q⟩:=J
  obtain ⟨v2,h1,r⟩:=T.sl j _ U
  refine L ?_; clear L PP
  rw [hm] at r
  refine (iZ v2 h1 ((by show 2≤sizeLine; decide)) (fun p Z=> ?_))
  obtain ⟨c,S',x,m,W⟩:=Ow.pairUp T o r (List.nodup_append.mpr ⟨w.1,T.nd j,fun a C b y e=>by subst e; exact R.apart w j a C y⟩) (fun a C=>by
   rcases List.mem_append.mp C with z | z
   ·exact ⟨(w.2 a z).2,R.bh.free (w.2 a z).1⟩
   ·exact ⟨T.gf j a z,T.ob j a z⟩) Z
  exact (iM (.tup [d,F]) c S' (ao t (ao Q rfl)) x m W)
 ·cases fl with
  | next=>obtain ⟨_,_,_,q⟩:=q; exact q.elim
  | brk=>obtain ⟨_,_,_,q⟩:=q; exact q.elim
  | cont=>obtain ⟨_,_,_,q⟩:=q; exact q.elim
  | ret u=>
   obtain ⟨v,M,O,Y,rv,d,c,S,e,x,o,w⟩:=q
   exact ⟨d,v,M,c,O,S,aZ e,Y,rv,x,o,w⟩
theorem ww {j:Nat}{x:Str}{e:Expr}{x1:Nat}{px tp pos:Pos}{f:DS→Res D}(hm:μ.getD j 0=n+1)(hN:X.N[j]?=some x)(hv:oe X.env.scope x)(h:PZ X E μ (n+1) e f)
  (hd:(x == ("__debug__" :Str))=false:=by decide) (hcd:(x == ("__classdict__" :Str))=false:=by decide)
  (hs:starEach [.Name x px,e] X.env=(false,eval (.Name x px) X.env) :: starEach [e] X.env:=by rfl) (hs2:starEach [e] X.env=(false,eval e X.env) :: starEach [] X.env:=by rfl) :
  j1 X E μ (n+2) (.Return (some (.Tuple [.Name x px,e] x1 tp)) pos) (br (i6 (ac j) f)):=by
 intro A s W Ge B G H g k I R P
 have Z:=mi (pos:=pos) (rN (x1:=x1) (pos:=tp) (bq (cx (pos:=px) hN hv hd hcd) (bq (l_ h) dh hs2) hs))
 have J:∃ F,g[j]?=some (some F)∧ac j g= .ok F:=by
  have h:=P.res.fst
  unfold ac at h
  split at h
  ·rename_i l q; exact ⟨l,q,by unfold ac; rw [q]⟩
  ·exact h.elim
 refine cps fun PP L=> ?_
 obtain ⟨F,V,Q⟩:=J
 obtain ⟨v2,i,_⟩:=R.sl j _ V
 refine L ?_; clear L PP
 refine aO (Z A s W H { nx:=fun _ _=>False,bk:=fun _ _=>False,ct:=fun _ _=>False,rt:=fun v O=>∃ d c S,i6 (ac j) f g= .ok d∧Ext Ge B c O∧Ow X.K c O (n+2) d v S∧New B c S } I ⟨v2,i,Ge,B,G,g,k,R,(P.res.snd Q (Same.refl B)).fst,fun d t v G1 H1 S T sg sh o w=> ?_⟩) fun fl s1 q=> ?_
 ·obtain ⟨v3,U,r⟩:=T.sl j _ V
  rw [i] at U
  cases U
  rw [hm] at r
  refine ⟨(by show 2≤sizeLine; decide),fun p Z=> ?_⟩
  obtain ⟨c,S',x,ow,Y⟩:=Ow.pairUp T r o (List.nodup_append.mpr ⟨T.nd j,w.1,fun a C b y e=>by subst e; exact R.apart w j a y C⟩) (fun a C=>by
   rcases List.mem_append.mp C with z | z
   ·exact ⟨T.gf j a z,T.ob j a z⟩
   ·exact ⟨(w.2 a z).2,R.bh.free (w.2 a z).1⟩) Z
  exact (iM (.tup [F,d]) c S' (ao Q (ao t rfl)) x ow Y)
 ·cases fl with
  | next=>obtain ⟨_,_,_,q⟩:=q; exact q.elim
  | brk=>obtain ⟨_,_,_,q⟩:=q; exact q.elim
  | cont=>obtain ⟨_,_,_,q⟩:=q; exact q.elim
  | ret u=>
   obtain ⟨v,M,O,m,rv,d,c,S,e,x,o,w⟩:=q
   exact ⟨d,v,M,c,O,S,aZ e,m,rv,x,o,w⟩
noncomputable def B_ (X:Cx)(μ:List Nat)(st:Stmt)(F:DS→Out):Prop:=
 ∀ (Et:Value→Shared→Prop) (pins:List (Addr×Obj)) (s:Shared) (σ:St) (Ge B G H:Hp) (ρ:DS) (fp:Nat→List Addr),Inv X pins σ H s→Rw X.K μ Ge B G H σ ρ fp→F ρ≠ .bad→
  (∀ c,F ρ= .exc c→∀ G1 H1 s1 ev s2,Inv X pins σ H1 s1→Rw X.K μ Ge B G1 H1 σ ρ fp→Same G G1→CXF X.prog X.w X.stack H1 s1 (fun cls _ H'=>cls= .ref c∧Same H1 H') ev s2→Et ev s2)→
  wpAny (model X.prog X.w) X.A (exec st X.env) (SM X μ 0 Ge B G pins (F ρ)) Et s
theorem lq:∀ {n:Nat} {d:D},bw n d=true→bw (n+1) d=true
 | 0,d,h=>ka h
 | n+1,d,h=>by
  cases d with
  | lst l=>unfold bw at h ⊢; exact List.all_eq_true.mpr fun x B=>lq (List.all_eq_true.mp h x B)
  | dct j l=>unfold bw at h ⊢; exact List.all_eq_true.mpr fun x B=>lq (List.all_eq_true.mp h x B)
  | tup l=>
   unfold bw at h ⊢
   rw [Bool.or_eq_true] at h ⊢
   exact h.imp id fun z=>List.all_eq_true.mpr fun x B=>lq (List.all_eq_true.mp z x B)
  | _=>unfold bw at h ⊢; exact h
theorem Ow.ups {K:W.Frag}{G H:Hp}{d:D}{v:V}{S:List Addr}{n:Nat}(hf:bw n d=true)(h:Ow K G H n d v S):∀ k,Ow K G H (n+k) d v S∧bw (n+k) d=true
 | 0=>⟨h,hf⟩
 | k+1=>by
  obtain ⟨a,b⟩:=Ow.ups hf h k
  exact ⟨a.up b,lq b⟩
theorem CXF.wk {P:Program}{w:World}{st:List Env}{H:Hp}{s s':Shared}{E E':XK}{ev:Value}(k:∀ c a H,E c a H→E' c a H)(h:CXF P w st H s E ev s'):CXF P w st H s E' ev s':=by
 obtain ⟨e,l,x,B,O,b,d,A,F,L,C,N,z,y,q⟩:=h
 exact ⟨e,l,x,B,O,b,d,A,F,L,C,N,z,y,k _ _ _ q⟩
theorem tB {k i r' dd:Nat}{g y:Str}{ps:List Str}{m:List D→Res D}{e:Expr}{es:List Expr}{gp cpos apos py:Pos}{fs:DS→Res (List D)}(hN:X.N.Nodup)(hj:X.N[i]?=some y)(hy:X.env.scope.names.lookup y=some .local)(hmi:μ.getD i 0=r' + dd)
  (C:Cal X.prog X.w X.K X.mg X.base g k ps (freshSp X.K r' m)) {j:Nat} (hr:Room j X.A) (ha:∀ Et pn,j0 (X.tr Et pn) pq (e :: es) fs) (hax:∀ ρ c,fs ρ≠ .exc c)
  (hkj:k≤j:=by decide) (hgc:Gl X g:=by rfl) (hdg:(g == ("__debug__" :Str))=false:=by decide) (hst:starEach (e :: es) X.env=(false,eval e X.env) :: starEach es X.env:=by rfl) (hpl:(backTo cpos (starEach es X.env)).any (·.1)=false:=by rfl)
  (hsw:swapsWith (.Call (.Name g gp) (e :: es) [] cpos) (some (.Name y py)) apos.line X.env=pure false:=by rfl) :
  B_ X μ (.Assign [.Name y py] (.Call (.Name g gp) (e :: es) [] cpos) apos) (aQ i (fW r' (bv fs m))):=by
 intro Et pins s U Ge B G H ρ fp I R L hex
 refine mH (C.ex) fun f fd F hb hmc hk=> ?_
 have I':=I.tr (pins:=pins) Et
 have p:i < U.length:=by rw [I.len]; exact (dZ hj).1
 have Z:∃ h,fs ρ= .ok h:=by
  cases q:fs ρ with
  | ok h=>exact ⟨h,rfl⟩
  | exc c=>exact absurd q (hax ρ c)
  | bad=>exact (L (by unfold aQ fW bv; rw [q]; rfl)).elim
 obtain ⟨h,n⟩:=Z
 have V:aQ i (fW r' (bv fs m)) ρ=((m h).bind fun d=>if bw r' d=true then .ok d else .bad).out fun d=> .nx (ρ.set i (some d)):=by unfold aQ fW bv; rw [n]; rfl
 have Y:wpAny (model X.prog X.w) X.A (eval (.Call (.Name g gp) (e :: es) [] cpos) X.env) (EP (X.tr Et (X.pn ++ pins)) [] U fun v H2=>∃ d l S,m h= .ok d∧bw r' d=true∧Rw X.K μ Ge B l H2 U ρ fp∧Same G l∧Ow X.K l H2 r' d v S∧New H l S) Et s:=by
  refine wpAny_Call_Name_kw (iO (X:=X.tr Et (X.pn ++ pins)) I' hgc hmc ?_ hdg)
  refine W.callWith_K (h₀:=X.base) I'.ok.mod.kin hk (aO (ha Et _ cpos [] s U (jX fp G H) H ρ I' R.vh R.ro (by rw [n]; trivial)) fun us s1 ⟨ds',z,vs,G1,T,Q,r1,t,rl⟩=>⟨Q.kIn,?_⟩) hst hpl
  rw [n] at z
  cases z
  refine BI (X:=X.tr Et (X.pn ++ pins)) (E:=fun r _ H'=>∃ c,m h= .exc c∧r= .ref c∧Same T H') F (hr.mono hkj) hb .nil Q (fun Y s2 hx=> ?_) r1 ⟨h,G1,t.gh,by rw [List.append_nil]; exact rl,?_,fun d M v G3 H3 S x3 o w=> ?_⟩
  ·have b:∃ c,m h= .exc c:=by
    obtain ⟨_,_,_,_,_,_,_,_,_,_,_,_,_,_,c,b,_⟩:=hx
    exact ⟨c,b⟩
   obtain ⟨c,b⟩:=b
   exact hex c (by rw [V,b]; rfl) _ T s1 Y s2 (Q.untr I.ok) (R.grow t) (R.gg t) (CXF.wk (fun r a H' J=>(by refine dr (J) fun c' h1 h2 h3=> ?_; rw [b] at h1; cases h1; exact ⟨h2,h3⟩)) hx)
  ·cases q:m h with
   | ok d=>trivial
   | exc c=>exact fun H' s'=>(iZ c rfl rfl s')
   | bad=>exact (L (by rw [V,q]; rfl)).elim
  ·by_cases O:bw r' d=true
   ·have x:=t.trans x3
    exact ⟨d,_,S,M,O,R.grow x,R.gg x,o.hide (R.cells x) O,w.1,fun a ha=>⟨t.hh.free (w.2 a ha).1,by
     cases q:jZ (nu fp) G3 a with
     | none=>rfl
     | some u=>have:=(fU q).2; rw [(w.2 a ha).2] at this; cases this⟩⟩
   ·refine (L ?_).elim
    rw [V,M]
    show ((if bw r' d=true then Res.ok d else .bad).out fun d=>Out.nx (ρ.set i (some d)))= .bad
    rw [if_neg O]; rfl
 refine wpAny_Assign_Name (aO Y fun v s1 ⟨w,T,Q,r1,d,l,S,M,O,R',sg,o,P⟩=>jU (Q.untr I.ok) hN hj (.inl hy) r1 (fun s2 I2=> ?_) (.inr hy)) hsw
 refine ⟨ρ.set i (some d),_,l,T,_,?_,I2,R'.put p (by rw [hmi]; exact (o.ups O dd).1) P.1 (fun a ha=>⟨(P.2 a ha).2,R.bh.free (P.2 a ha).1⟩) (fun j _=>R.apart P j),sg⟩
 rw [V,M]
 show ((if bw r' d=true then Res.ok d else .bad).out fun d=>Out.nx (ρ.set i (some d)))=_
 rw [if_pos O]; rfl
theorem BF {c:Expr}{a b:Stmt}{pos:Pos}{fc:DS→Res Bool}{Fa Fb:DS→Out}(hc:∀ Et pn,qR (X.tr Et pn) pq c fc)(hcx:∀ ρ c,fc ρ≠ .exc c)(ha:B_ X μ a Fa)(hb:B_ X μ b Fb):B_ X μ (.If c [a] [b] pos) (dn fc Fa Fb):=by
 intro Et pins s D Ge B G H ρ d I R C E
 have I':=I.tr (pins:=pins) Et
 have P:∃ k,fc ρ= .ok k:=by
  cases q:fc ρ with
  | ok k=>exact ⟨k,rfl⟩
  | exc c=>exact absurd q (hcx ρ c)
  | bad=>exact (C (by unfold dn; rw [q]; rfl)).elim
 obtain ⟨k,x⟩:=P
 have U:dn fc Fa Fb ρ=if k=true then Fa ρ else Fb ρ:=aZ x
 rw [U] at C E ⊢
 refine wpAny_If (aO (hc Et _ [] s D (jX d G H) H ρ I' R.vh R.ro (by rw [x]; trivial)) fun V N L=> ?_)
 obtain ⟨e,r,S,Q,t⟩:=L
 rw [x] at e
 cases e
 have one:∀ {y:Stmt} {F:DS→Out},B_ X μ y F→F ρ≠ .bad→(∀ c,F ρ= .exc c→∀ r S N v o,Inv X pins D S N→Rw X.K μ Ge B r S D ρ d→Same G r→CXF X.prog X.w X.stack S N (fun l _ O=>l= .ref c∧Same S O) v o→Et v o)→wpAny (model X.prog X.w) X.A (execs [y] X.env) (SM X μ 0 Ge B G pins (F ρ)) Et N:=fun {y F} Z g h=>by
  refine wpAny_execs_cons (aO (Z Et pins N D Ge B _ S ρ d (Q.untr I.ok) (R.grow t) g fun c hc p i o v z J R2 f M=>h c hc p i o v z J R2 ((R.gg t).trans f) M) fun T o q=> ?_)
  have q:=q.le (R.gg t)
  cases T with
  | next=>exact wpAny_execs_nil q
  | brk=>exact q
  | cont=>exact q
  | ret u=>exact q
 cases k with
 | true=>rw [if_pos rfl] at C E ⊢; exact one ha C E
 | false=>rw [if_neg Bool.false_ne_true] at C E ⊢; exact one hb C E
noncomputable def iU (i:Nat)(cs:List Addr)(F Fh:DS→Out):DS→Out:=fun ρ=>match F ρ with
 | .exc c=>if cs.contains c=true then (match Fh (ρ.set i (some (.xc c))) with | .rt d=> .rt d | _=> .bad) else .bad
 | .nx ρ'=> .nx ρ'
 | _=> .bad
theorem BB {x n0:Str}{i:Nat}{C:Addr}{cs:List Addr}{st b₀:Stmt}{suite:List Stmt}{np hpos pos:Pos}{F Fh:DS→Out}(hN:X.N.Nodup)(hi:X.N[i]?=some n0)(hl:X.env.scope.names.lookup n0=some .local)(hmi:μ.getD i 0=0)(hm:X.mg x=some (.ref C))(hs:X.stack=X.env :: X.outer)(hf:X.env.frame=some X.env.locals)
  (hcs:∀ c∈cs,W.exmOne X.K (.ref c) (.ref C)=some true∧ExcK X.K c) (hb:B_ X μ st F) (hh:∀ (e:Addr) (E':Value→Shared→Prop),qS (X.inH e E') pq μ r (b₀ :: suite) Fh) (hg:Gl X x:=by rfl)
  (hdb:(x == ("__debug__" :Str))=false:=by decide) :
  j1 X E μ r (.Try [st] [.ExceptHandler (some (.Name x np)) (some n0) (b₀ :: suite) hpos] [] [] pos) (iU i cs F Fh):=by
 intro D s l Ge B G H a fp I R P
 have hiσ:i < l.length:=by rw [I.len]; exact (dZ hi).1
 have hnb:F a≠ .bad:=fun z=>by unfold iU at P; rw [z] at P; exact P
 refine wpAny_Try_except ?_
 generalize hEt:(fun (e:Value) (s₁:Shared)=>wpAny (model X.prog X.w) X.A (noteFrame e X.env) (fun _ s₂=>wpAny (model X.prog X.w) X.A (setFlight e Option.none) (fun _ Q=>wpAny (model X.prog X.w) X.A (handleBy e X.env [.ExceptHandler (some (.Name x np)) (some n0) (b₀ :: suite) hpos]) (SM X μ r Ge B G D (iU i cs F Fh a)) X.xe Q) X.xe s₂) X.xe s₁)=Et
 have O:∀ c,F a= .exc c→∀ t Z k ev p,Inv X D l Z k→Rw X.K μ Ge B t Z l a fp→Same G t→CXF X.prog X.w X.stack Z k (fun cls _ H'=>cls= .ref c∧Same Z H') ev p→Et ev p:=by
  intro c hc t Z k ev p J R1 sg hx
  have ho':=P
  unfold iU at ho'
  rw [hc] at ho'
  dsimp only at ho'
  have y:cs.contains c=true:=by
   cases q:cs.contains c with
   | true=>rfl
   | false=>rw [q] at ho'; exact ho'.elim
  rw [if_pos y] at ho'
  have hrt:∃ d,Fh (a.set i (some (.xc c)))= .rt d:=by
   cases q:Fh (a.set i (some (.xc c))) with
   | rt d=>exact ⟨d,rfl⟩
   | _=>rw [q] at ho'; exact ho'.elim
  refine cps fun PP n=> ?_
  obtain ⟨d0,V⟩:=hrt
  have eT:iU i cs F Fh a= .rt d0:=by unfold iU; rw [hc]; dsimp only; rw [if_pos y,V]
  obtain ⟨hmat,hek⟩:=hcs c (by simpa using y)
  refine w6 (J.landed hx) fun e cls a0 Bh H2 T fl hn j O=> ?_; subst T; obtain ⟨ecl,sH⟩:=j
  refine n ?_; clear n PP
  subst ecl
  show Et (.ref e) p
  rw [← hEt]
  show wpAny _ _ (noteFrame (.ref e) X.env) _ _ p
  rw [hs] at fl
  refine wpAny_looks_onW (base:=Bh) (outer:=X.outer) (L:=X.env.locals) (by rw [I.ok.frames,hs]) hf fl fun h4 Y up4=> ?_
  refine wpAny_landsW Y fun h5 U up5=> ?_
  have up5':=up4.trans up5
  obtain ⟨_,J5⟩:=O h5 p.toks (by rw [hs]; exact U) up5'
  have mk:∀ (Ex:Value→Shared→Prop),Inv (X.inH e Ex) D l H2 { p with heap:=h5 }:=fun Ex=>J5.inH e Ex
  refine wpAny_handleBy_cons (codeAny_handlers_test (iO (X:=X.inH e (fun _ _=>True)) (mk _) hg hm ?_ hdb)) (by intro q; cases q)
  obtain ⟨ob,hob,hcl⟩:=U.there
  have LT:W.Looks (model X.prog X.w) h5 (typeOf (.ref e)) (.ref c):=hcl ▸ (W.Looks.ld hob).andThen .now
  refine (W.exm_one (M:=model X.prog X.w) J5.kIn LT hmat).here ?_
  show codeAny _ _ _ _ _
  refine codeAny_handlers_suite_as ?_
  refine lands_againW (s:={ p with heap:=h5 }) U fun h6 fl6 up6=> ?_
  obtain ⟨J6,_⟩:=O h6 p.toks (by rw [hs]; exact fl6) (up5'.trans up6)
  refine jU (X:=X) (i:=i) (v:= .ref e) J6 hN hi (.inl hl) rfl (fun s7 J7=> ?_) (.inr hl)
  generalize hEx:(fun (x:Value) (Q:Shared)=>_)=Ex
  have x2:Ext t Z (bu t e (kU e (.ref c))) (bu H2 e (kU e (.ref c))):=by
   have hs2:Same t H2:=R1.gh.trans sH
   have x0:Ext t Z t H2:=⟨sH,.refl _,hs2,fun b o h=> .inl h⟩
   exact x0.trans (.new hs2 hn _)
  have R2:Rw X.K μ Ge B (bu t e (kU e (.ref c))) (bu H2 e (kU e (.ref c))) l a fp:=R1.growF x2
  have R3:=R2.set0 (i:=i) (d:= .xc c) (v:= .ref e) hiσ hmi (rep_xc.mpr (iZ e rfl az hek))
  refine wpAny_mono (hh e Ex D s7 _ Ge B _ _ _ _ (J7.inH e Ex) R3 (by rw [V]; trivial)) (fun f s8 g=> ?_) fun x s8 g=>g
  rw [V] at g
  cases f with
  | next=>obtain ⟨_,_,_,_,_,q,_⟩:=g; cases q
  | brk=>obtain ⟨_,_,_,_,_,q,_⟩:=g; cases q
  | cont=>obtain ⟨_,_,_,_,_,q,_⟩:=g; cases q
  | ret u=>
   refine cps fun PP n=> ?_
   obtain ⟨d,v,σ8,G8,H8,S8,q,J8,r8,x8,o8,w8⟩:=g
   obtain ⟨m8,n8,_⟩:=J8.loc
   refine n ?_; clear n PP
   refine wpAny_nameGoes hl n8 (by rw [I.ok.kind]; rfl) fun h9 m9 n9 sb=> ?_
   rw [eT]
   cases q
   exact ⟨d0,v,_,G8,H8,S8,rfl,(J8.outH I.ok).forget sb n9,r8,x8,o8,w8⟩
 have m:wpAny (model X.prog X.w) X.A (execs [st] X.env) (SM X μ r Ge B G D (iU i cs F Fh a)) Et s:=by
  refine wpAny_execs_cons (aO (hb Et D s l Ge B G H a fp I R hnb O) fun fl k q=> ?_)
  cases fl with
  | next=>
   obtain ⟨ρ',σ',G',H',fp',e,q,S,q2⟩:=q
   exact wpAny_execs_nil ⟨ρ',σ',G',H',fp',by unfold iU; rw [e],q,S,q2⟩
  | brk=>obtain ⟨_,_,_,_,_,e,_⟩:=q; unfold iU at P; rw [e] at P; exact P.elim
  | cont=>obtain ⟨_,_,_,_,_,e,_⟩:=q; unfold iU at P; rw [e] at P; exact P.elim
  | ret u=>obtain ⟨_,_,_,_,_,_,e,_⟩:=q; unfold iU at P; rw [e] at P; exact P.elim
 refine wpAny_mono m (fun f k S=> ?_) fun e k S=>S
 cases f with
 | next=>exact wpAny_execs_nil S
 | brk=>exact S
 | cont=>exact S
 | ret u=>exact S
end
noncomputable def vw (l:List D)(d:D):Option Nat:=l.findIdx? fun y=>b8 y d
noncomputable def lO (d e:D):Res D:=match d with
 | .lst l=>if plL 19 l=true∧ba 19 e=true∧aN l.length=true then (match vw l e with | some j=> .ok (.int (j:Nat)) | none=> .bad) else .bad
 | _=> .bad
noncomputable def wF (K:W.Frag):V→List V→Hp→VK→Prop:=fun x vs H Q=>∃ G l dx y j,Same G H∧Rep K G (.lst l) x∧vs=[y]∧Rep K G dx y∧plL 19 l=true∧ba 19 dx=true∧aN l.length=true∧vw l dx=some j∧Q (.int (j:Nat)) H
section
variable{X:Cx}{E:XK}{μ:List Nat}{r n:Nat}
theorem vQ (hu:X.A.units+64 < cLine):xf X "list.index" (wF X.K):=by
 intro B s σ H x vs v us Q I rx rv h
 refine cps fun PP J=> ?_
 obtain ⟨G,l,g,y,j,L,b,rfl,Y,Z,hd,S,hj,q⟩:=h
 rw [rep_lst] at b
 obtain ⟨a,xs,rfl,sq,b⟩:=b
 refine J ?_; clear J PP
 cases rx
 refine cps fun PP J=> ?_
 obtain ⟨u,rfl,W⟩:=rv.one
 obtain ⟨o,r,p⟩:=I.isLst (L.seq sq.sq)
 obtain ⟨⟨cls,N,k,V⟩,D,C,n,P⟩:=id p
 refine J ?_; clear J PP
 simp only at C P
 subst C P
 obtain ⟨R,T,U⟩:=List.findIdx?_eq_some_iff_getElem.mp hj
 have len1:=b.length
 have len2:=r.length
 have at':∀ m (c:m < l.length) (f:m < o.toArray.size),zq X.K G l g o.toArray[m]=b8 l[m] g:=fun m c f=>by
  obtain ⟨z,O,rz⟩:=b.get (cS c)
  obtain ⟨w,i,M⟩:=r.get O
  have e:o.toArray[m]=w:=by
   have:o.toArray[m]?=some w:=by rw [List.getElem?_toArray]; exact i
   rw [Array.getElem?_eq_getElem f] at this
   exact Option.some.inj this
  rw [e]
  exact j8 I L Z (List.getElem_mem c) rz M
 have hsz:o.toArray.size=l.length:=by rw [List.size_toArray]; omega
 have hlk':l.length≤100000:=of_decide_eq_true S
 refine call_meets PySem.F.slot_list_index ⟨_,D,rfl⟩ PySem.F.entry_list_index (PySem.F.args_list_index_2 _ _) (PySem.SeqAt.list_indexAt a o.toArray n N V u (zq X.K G l g) j (by omega) (by omega) ((at' j R (by omega)).trans T) fun m hm t=> ?_) ⟨D,fun w i=> ?_,?_⟩
 ·rw [at' m (by omega) hm]
  have:=U m t
  simpa using this
 ·obtain ⟨d,z,c,f,E⟩:=oM b r (by simpa using i)
  rw [j8 I L Z c f E]
  exact (pL I L 19 19 d g z y w u _ (eD Z c) hd f Y E W (by show X.A.units+1+19 < cLine; omega)).1
 ·exact ⟨.int (j:Nat),H,I.tok _,⟨_,rfl⟩,q⟩
theorem v9 {o e:Expr}{apos cpos:Pos}{fo fe:DS→Res D}(hu:X.A.units+64 < cLine)(hoo:PD X E o fo)(he:PD X E e fe)(hex:∀ ρ c,fe ρ≠ .exc c)
  (hs:starEach [e] X.env=(false,eval e X.env) :: starEach [] X.env:=by rfl)
  (hbase:attributeBase o "index" X.env (eval o X.env)=eval o X.env:=by rfl)
  (hfew:((backTo cpos (starEach [e] X.env)).all (fun x=> !x.1) && (backToKw cpos (keywordEach [] X.env)).all (fun x=>x.1.isSome) && decide (([e].length+([]:List Keyword).length+if ([]:List Keyword).isEmpty=true then 0 else 1) < 30))=true:=by rfl)
  (hline:(apos.endLine == cpos.line)=true:=by rfl):PD X E (.Call (.Attribute o "index" apos) [e] [] cpos) (ae fo fe lO):=by
 intro B s W G H ρ I n k p
 have h:=kO (apos:=apos) (cpos:=cpos) (r:=wF X.K) PySem.F.plainAttrs_list PySem.F.slot_list_index PySem.F.type_list_index (vQ hu) (dq hoo) (bq (dq he) dh hs) hbase hfew hline hs rfl
 refine aO (h B s W H (fun v O=>∃ d f,ae fo fe lO ρ= .ok d∧Ext G H f O∧Rep X.K f d v) I ⟨G,ρ,n,k,p.fst,fun P V v1 Q S w M=> ?_⟩) fun u s' T=>(by obtain ⟨v,O,Y,i,d,f,e,x,Z⟩:=T; exact ⟨d,e,v,f,O,Y,i,x,Z⟩)
 have L:=p.snd V w.hh
 have m:∃ l,P= .lst l:=by
  cases q:fe ρ with
  | ok J=>
   have t:=L.snd q (Same.refl S)
   unfold lO at t
   split at t
   ·exact ⟨_,rfl⟩
   ·exact t.elim
  | exc c=>exact absurd q (hex ρ c)
  | bad=>rw [q] at L; exact L.elim
 obtain ⟨l,rfl⟩:=m
 have p1':=M
 rw [rep_lst] at p1'
 refine bL (p1') fun a g U sq rl=> ?_; subst U
 refine ⟨.inl ⟨rfl,g,w.gh.seq sq.sq⟩,Q,ρ,w.gh,k.mono w.gg,L.fst,fun J C v2 z H2 y R=> ?_⟩
 have t:=L.snd C y.hh
 have N:ae fo fe lO ρ=lO (.lst l) J:=by unfold ae; rw [V,aq,C,aq]
 unfold lO at t
 dsimp only at t
 by_cases b:plL 19 l=true∧ba 19 J=true∧aN l.length=true
 ·rw [if_pos b] at t
  cases q:vw l J with
  | none=>rw [q] at t; exact t.elim
  | some j=>
   have e3:lO (.lst l) J= .ok (.int (j:Nat)):=by unfold lO; dsimp only; rw [if_pos b,q]
   exact (CW z l J v2 j y.gh (M.mono y.gg) rfl R b.1 b.2.1 b.2.2 q (.int (j:Nat)) z (N.trans e3) (w.trans y) (rep_int.mpr rfl))
 ·rw [if_neg b] at t; exact t.elim
end
theorem A_ {f:DS→Res D}(hf:∀ ρ c,f ρ≠ .exc c):∀ ρ c,cQ f ρ≠ .exc c:=fun ρ c h=>by
 unfold cQ at h
 cases q:f ρ with
 | ok d=>rw [q] at h; cases d <;> cases h
 | exc e=>exact hf ρ e q
 | bad=>rw [q] at h; cases h
theorem Aa {a b:D}{c:Addr}:nh a b≠ .exc c:=fun h=>by
 unfold nh at h
 split at h <;> cases h
theorem zC:∀ (ρ:DS) (c:Addr),pN ρ≠ .exc c:=fun ρ c h=>by cases h
theorem nI {f:DS→Res D}{g:DS→Res (List D)}(hf:∀ ρ c,f ρ≠ .exc c)(hg:∀ ρ c,g ρ≠ .exc c):∀ ρ c,pC f g ρ≠ .exc c:=fun ρ c h=>by
 unfold pC at h
 cases q:f ρ with
 | ok d=>
  rw [q] at h
  cases j:g ρ with
  | ok d=>rw [j] at h; cases h
  | exc e=>exact hg ρ e j
  | bad=>rw [j] at h; cases h
 | exc e=>exact hf ρ e q
 | bad=>rw [q] at h; cases h
section
variable{j jr n m:Nat}{g:DS→Res (List Nat)}{fi f:DS→Res D}{ρ:DS}{p:List Nat}{t d:D}{l rows:List D}{c:Int}
theorem Ai (h:ρ[j]?=some (some d)):zl j ρ= .ok []:=by unfold zl; rw [h]
theorem Ag (hg:g ρ= .ok p)(hn:p.length=n)(hi:fi ρ= .ok (.int (m:Int)))(ht:ρ[j]?=some (some t))(hp:cj p t=some (.lst l))(hm:m < l.length):kW j n g fi ρ= .ok (p ++ [m]):=by
 unfold kW
 rw [hg,aq,hi,aq,if_pos hn]
 unfold zr
 rw [ht]
 dsimp only
 rw [hp]
 dsimp only
 rw [en hm]
theorem Ah (hg:g ρ= .ok p)(hn:p.length=n)(hi:fi ρ= .ok (.int (m:Int)))(ht:ρ[j]?=some (some t))(hp:cj p t=some (.tup l))(hf:L2.flat (.tup l)=false)(hm:m < l.length):kW j n g fi ρ= .ok (p ++ [m]):=by
 unfold kW
 rw [hg,aq,hi,aq,if_pos hn]
 unfold zr
 rw [ht]
 dsimp only
 rw [hp]
 dsimp only
 rw [if_neg (by rw [hf]; exact Bool.false_ne_true),en hm]
theorem xQ {F:List D→Out}(hn:p.length=n)(ht:ρ[j]?=some (some t))(hp:cj p t=some (.lst rows)):qu ρ j n p F=F rows:=by
 unfold qu
 rw [if_pos hn,ht]
 dsimp only
 rw [hp]
theorem tY (hg:g ρ= .ok p)(hn:p.length=n)(ht:ρ[j]?=some (some t))(hp:cj p t=some (.lst rows))(hr:rows.all nv=true):jk j jr n c g ρ= .nx ((ρ.set jr none).set j (some (cp p t (.lst (rows.map (eP c)))))):=by
 unfold jk
 rw [hg,aU,xQ hn ht hp]
 unfold vk
 rw [ht]
 exact if_pos hr
end
theorem len1 {α:Type}{P:List α→Prop}(h:∀ a,P [a]):∀ us:List α,us.length=1→P us
 | [a],_=>h a
theorem len2 {α:Type}{P:List α→Prop}(h:∀ a b,P [a,b]):∀ us:List α,us.length=2→P us
 | [a,b],_=>h a b
theorem k8 {α:Type}{P:List α→Prop}(h:∀ a b c,P [a,b,c]):∀ us:List α,us.length=3→P us
 | [a,b,c],_=>h a b c
theorem yp {α:Type}{P:List α→Prop}(h:∀ a b c d,P [a,b,c,d]):∀ us:List α,us.length=4→P us
 | [a,b,c,d],_=>h a b c d
section
variable{K:W.Frag}{f:Addr}{x y:Str}{s:Stmt}{m:Str}{t c:Nat}
noncomputable def kf (x y:Str)(s:Stmt)(m:Str)(t c:Nat):Obj:=⟨.type "function",none,.func (W.fnOf x y (gA s) (b_ s) (ah s) .none .none .none (.str m t) none (.ref c) .none),#[]⟩
inductive FK (K:W.Frag)(f:Addr)(x y:Str)(s:Stmt):Prop
 | mk (m:Str) (t c:Nat) (l:K.lookup f=some (kf x y s m t c)) (d:W.codeIn K (.ref c) y=true)
inductive FT (K:W.Frag)(x:Str)(s:Stmt):Prop
 | mk (f:Addr) (a:W.nsIn K mainGlobals x=some (some (.ref f))) (g:FK K f x x s)
inductive FM (K:W.Frag)(C:Addr)(x y:Str)(s:Stmt):Prop
 | mk (f:Addr) (a:W.findIn K (.ref C) x=some (some (.ref f))) (g:FK K f x y s)
theorem oH (l:K.lookup f=some (kf x y s m t c)):W.keepIn K (.ref f)=true:=by
 unfold W.keepIn
 dsimp only
 rw [l]
 rfl
theorem FK.kp:FK K f x y s→W.keepIn K (.ref f)=true
 | ⟨_,_,_,l,_⟩=>oH l
theorem FK.fn:FK K f x y s→W.isFn K (.ref f)=true
 | ⟨_,_,_,l,_⟩=>by
  unfold W.isFn W.typeIn
  dsimp only
  rw [l]
  rfl
theorem FK.mk1:FK K f x y s→∃ fd,Fun K x y s f fd
 | ⟨_,_,_,l,d⟩=>⟨_,vp l d (oH l)⟩
theorem lc {h:Heap}{mg:Str→Option Value}{ps:List Str}(X:K.In h)(G:h.Ns mainGlobals mg)(g:FT K x s)
  (b:∀ (kV doc pm:Value) (an:Option Addr) (cdv ct:Value) (us:List Value),us.length=ps.length→bindArgs (W.fnOf x x (gA s) (b_ s) (ah s) .none kV doc pm an cdv ct) ⟨us,[]⟩=pure (ps.zip us)):Sta K mg x s ps:=by
 obtain ⟨f,a,g⟩:=g
 obtain ⟨U,F⟩:=g.mk1
 exact ⟨f,U,F,F.binds b,W.mg_of X G a,g.kp⟩
end
end L2
set_option maxHeartbeats 4000000
namespace K03
open PySem L2
noncomputable def top (i:Nat):Stmt:=PySem.Challenge.pw_haltline_k03_orders_of_tables.main.body.getD i (.Pass ⟨0,0,0,0⟩)
structure Ad where
 HE:Addr
 BT:Addr
 BO:Addr
 BR:Addr
structure Kit (K:W.Frag)(Y:Ad):Prop where
 i0:W.kitOne K (.ref Y.BT) (.ref Y.BT)=some true
 i1:W.kitOne K (.ref Y.BT) (.type "ValueError")=some true
 i2:W.kitOne K (.ref Y.BT) (.ref Y.BO)=some false
 i3:W.kitOne K (.ref Y.BT) (.ref Y.BR)=some false
structure Txt (K:W.Frag)(mg:Str→Option Value)(CL:Addr)(Y:Ad):Prop where
 b_len:mg "len" =none
 b_list:mg "list" =none
 b_range:mg "range" =none
 b_isinstance:mg "isinstance" =none
 b_min:mg "min" =none
 b_max:mg "max" =none
 b_tuple:mg "tuple" =none
 b_sorted:mg "sorted" =none
 b_enumerate:mg "enumerate" =none
 b_zip:mg "zip" =none
 b_str:mg "str" =none
 b_int:mg "int" =none
 b_bool:mg "bool" =none
 b_abs:mg "abs" =none
 b_ValueError:mg "ValueError" =none
 mS:∃ t,mg "MOST_STRETCHES" =some (.int 5 t)
 mR:∃ t,mg "MOST_RUN" =some (.int 20 t)
 mC:∃ t,mg "MOST_CLEAR" =some (.int 5 t)
 mT:∃ t,mg "MOST_TRAINS" =some (.int 5 t)
 mY:∃ t,mg "MOST_READY" =some (.int 60 t)
 gHE:mg "HaltError" =some (.ref Y.HE)
 xBT:ExcC K mg "BadTable" Y.BT
 kBT:ExcK K Y.BT
 gBT:mg "BadTable" =some (.ref Y.BT)
 gBO:mg "BadOrders" =some (.ref Y.BO)
 gBR:mg "BadTrains" =some (.ref Y.BR)
 hs:∀ c∈[Y.BT],W.exmOne K (.ref c) (.ref Y.HE)=some true∧ExcK K c
 mgL:mg "Line" =some (.ref CL)
 cl:Cls K CL
 nM:NoAttr K CL "minutes"
 nG:NoAttr K CL "gap"
section
variable{P:Program}{w:World}{K:W.Frag}{mg:Str→Option Value}{base:Heap}{CL:Addr}{Y:Ad}
seal L2.PD L2.j0 L2.qR L2.PDW L2.Cc L2.PN L2.PZ L2.j1 L2.qS L2.zN L2.EG
noncomputable abbrev gM:Stmt:=top 13
noncomputable abbrev gl:List Str:=["runs","clear","run"]
@[irreducible] noncomputable def ee (K:W.Frag)(CL:Addr)(Y:Ad):DS→Out:=(ay (dn (fY (gw (kI 1) (c1 (ac 0) bj) (kI 5) qP qP)) bad1 nxt)
  (ay (dY (sL (ac 0)) (bD 2) (dn (fY (gw (kI 1) (ac 2) (kI 20) qP qP)) bad1 nxt))
  (dn (fY (gw (kI 0) (ac 1) (kI 5) qP qP)) bad1 nxt)))
noncomputable def bE (K:W.Frag)(CL:Addr)(Y:Ad):List D→Res D:=iS 2 gl (ee K CL Y)
theorem sc_check_line:FnScope gl ["runs","clear"] (ah gM):=⟨rfl,rfl,rfl,by decide +kernel,rfl,by decide +kernel,by decide +kernel⟩
theorem gu (T:Txt K mg CL Y)(S:Sta K mg "check_line" gM ["runs","clear"]):Cal P w K mg base "check_line" 1 ["runs","clear"] (freshSp K 0 (bE K CL Y)):=by
 refine S.cal (k:=0) (r:=0) (F:=ee K CL Y) sc_check_line [] (by decide) rfl fun f V A m s H E Q=> ?_
 unfold ee
 exact (ai (bz (bZ (eG gR gR af (aR T.b_len (dv 0)) (qk T.mS))) (al dW) aW)
   (ai (cr (j:=2) PassesOwn.leaving rfl sc_check_line.nd rfl (.inl rfl) rfl (kA (b4 (dv 0)))
    (al (bz (bZ (eG gR gR af (dv 2) (qk T.mR))) (al dW) aW)))
   (al (bz (bZ (eG gR gR af (dv 1) (qk T.mC))) (al dW) aW))))
noncomputable abbrev rW:Stmt:=iL (top 12) 0
noncomputable abbrev rX:Stmt:=iL (top 12) 1
noncomputable abbrev oZ:Stmt:=iL (top 12) 2
noncomputable def eU (CL:Addr):List D→Res D
 | [d]=>(jD CL "minutes" d).bind fun x=>dQ [x]
 | _=> .bad
noncomputable def jn (CL:Addr):List D→Res D
 | [d]=>jD CL "gap" d
 | _=> .bad
noncomputable def i5 (K:W.Frag)(CL:Addr)(Y:Ad):List D→Res D
 | [.lst l,.int c]=>(bE K CL Y [.lst l,.int c]).bind fun _=> .ok (.ins CL ["minutes","gap"] [.tup l,.int c])
 | _=> .bad
theorem vK:zK CL (i5 K CL Y):=by
 intro e d h
 unfold i5 at h
 split at h
 ·rename_i l c
  cases q:bE K CL Y [.lst l,.int c] with
  | ok x=>rw [q] at h; cases h; exact ⟨_,_,rfl⟩
  | exc x=>rw [q] at h; cases h
  | bad=>rw [q] at h; cases h
 ·cases h
theorem nD {E:XK}{H:Hp}{ds:List D}(h:OkR E H (i5 K CL Y ds)):∃ l c,ds=[.lst l,.int c]:=by
 unfold i5 at h
 split at h
 ·exact ⟨_,_,rfl⟩
 ·exact h.elim
theorem yb (v u:V):gJ "gap" u (gJ "minutes" v [])=([("minutes",v),("gap",u)]:List (Str×V)):=by
 show (if ("minutes" :Str)= "gap" then [(("minutes" :Str),u)] else (("minutes" :Str),v) :: gJ "gap" u [])=([("minutes",v),("gap",u)]:List (Str×V))
 rw [if_neg (by decide +kernel)]
 rfl
theorem yX:FnScope ["self","runs","clear"] ["self","runs","clear"] (ah rW):=⟨rfl,rfl,rfl,by decide +kernel,rfl,by decide +kernel,by decide +kernel⟩
theorem yw {f:Addr}{fd:FuncData}(F:Fun K "__init__" "Line.__init__" rW f fd)(T:Txt K mg CL Y)(gu:Cal P w K mg base "check_line" 1 ["runs","clear"] (freshSp K 0 (bE K CL Y))):FnOk P w K mg base (CXF P w) 2 f fd ["self","runs","clear"] (oD K CL (i5 K CL Y)):=by
 refine F.okF yX (fun O H Q E h=> ?_) (fun cdv A m s H O Q E hr h=> ?_)
 ·refine cps fun PP I=> ?_
  obtain ⟨p,g,L,ds,G,rfl,_,_,_,a,J,_⟩:=h
  obtain ⟨l,c,rfl⟩:=nD J
  refine I ?_; clear I PP
  have:=a.length
  simp only [List.length_cons,List.length_nil] at this ⊢
  omega
 ·refine cps fun PP I=> ?_
  obtain ⟨p,g,L,ds,G,rfl,n,U,N,a,J,k⟩:=h
  obtain ⟨l,c,rfl⟩:=nD J
  refine I ?_; clear I PP
  ·refine cps fun PP I=> ?_
   obtain ⟨v1,r1,rfl,p1,a⟩:=a.inv
   obtain ⟨M,r2,rfl,B,a⟩:=a.inv
   refine I ?_; clear I PP
   cases a.inv0
   have ho':OkR E H ((bE K CL Y [.lst l,.int c]).bind fun _=> .ok (D.ins CL ["minutes","gap"] [.tup l,.int c])):=J
   refine ⟨_,qt (dN (dq (E:=E) (aD gu hr (aa (dv 1) (aa (dv 2) ag)))))
    (qt (wC (pv 0) (dq (E:=E) (wc T.b_tuple (dv 1))) rfl) (tz (wC (pv 0) (pv 2) rfl))),?_⟩
   have ro:Ro K G (cP ["self","runs","clear"] [.ref p,v1,M]) [none,some (.lst l),some (.int c)]:=Ro.skip (Ro.cons p1 (Ro.cons B Ro.nil))
   refine ⟨G,_,U,ro,ho'.fst,fun d V v S H1 t rp1=> ?_⟩
   refine ⟨S,_,t.gh,ro.mono t.gg,trivial,fun d2 i u r R x2 j=> ?_⟩
   have Z:d2= .tup l:=by cases i; rfl
   subst Z
   have x:=t.trans x2
   have W:R p=some (.ins CL g []):=x.hh _ _ n
   have X:r p=none:=by
    cases q:r p with
    | none=>rfl
    | some o=>
     rcases x.nw p o q with z | z | ⟨ks,z⟩
     ·rw [N] at z; cases z
     ·rw [n] at z; cases z
     ·have C:=x.gh p o q; rw [W] at C; cases C; cases z
   refine ⟨_,rfl,p,CL,g,[],rfl,W,T.cl,T.nM,(by show 0 < 1000; decide),_,rfl,_,rfl,p,CL,g,_,rfl,az,T.cl,T.nG,(by show 1 < 1000; decide),?_⟩
   refine k ["minutes","gap"] [.tup l,.int c] ?_ [("minutes",u),("gap",M)] r _ rfl (.cons j (.cons (B.mono x.gg) .nil)) (by rw [az,yb]) (fun b o e y=> ?_) x.gg (fun b o e=> ?_) x.nw X
   ·show (bE K CL Y [.lst l,.int c]).bind _=_
    have:bE K CL Y [.lst l,.int c]= .ok d:=V
    rw [this]
    rfl
   ·rw [am y,am y]
    exact x.hh b o e
   ·have y:b≠p:=fun z=>by subst z; rw [X] at e; cases e
    rw [am y,am y]
    exact x.gh b o e
theorem yY:FnScope ["self"] ["self"] (ah rX):=⟨rfl,rfl,rfl,by decide +kernel,rfl,by decide +kernel,by decide +kernel⟩
theorem yy {f:Addr}{fd:FuncData}(F:Fun K "runs" "Line.runs" rX f fd)(T:Txt K mg CL Y):FnOk P w K mg base (CXF P w) 1 f fd ["self"] (pureSp K (eU CL)):=by
 refine F.pure yY (fun e h=> ?_) (fun V A m s H E Q=> ?_)
 ·unfold eU at h
  split at h
  ·rfl
  ·exact absurd rfl h
 ·refine ⟨_,tw (wA (nN jx xz rfl T.b_list ll (aa (v6 (dv 0) T.cl T.nM) ag))),?_⟩
  intro e h
  match e,h with
  | [d],h=>
   show e8 ((((jD CL "minutes" d).bind _).bind _).out _)=(jD CL "minutes" d).bind _
   cases jD CL "minutes" d with
   | ok x=>
    show e8 ((dQ [x]).out Out.rt)=dQ [x]
    cases dQ [x] <;> rfl
   | _=>rfl
  | [],h=>exact absurd rfl h
  | _ :: _ :: _,h=>exact absurd rfl h
theorem wM:FnScope ["self"] ["self"] (ah oZ):=⟨rfl,rfl,rfl,by decide +kernel,rfl,by decide +kernel,by decide +kernel⟩
theorem vV {f:Addr}{fd:FuncData}(F:Fun K "clear" "Line.clear" oZ f fd)(T:Txt K mg CL Y):FnOk P w K mg base (CXF P w) 1 f fd ["self"] (pureSp K (jn CL)):=by
 refine F.pure wM (fun e h=> ?_) (fun V A m s H E Q=> ?_)
 ·unfold jn at h
  split at h
  ·rfl
  ·exact absurd rfl h
 ·refine ⟨_,tw (wA (v6 (dv 0) T.cl T.nG)),?_⟩
  intro e h
  match e,h with
  | [d],h=>
   show e8 ((jD CL "gap" d).out _)=jD CL "gap" d
   cases jD CL "gap" d <;> rfl
  | [],h=>exact absurd rfl h
  | _ :: _ :: _,h=>exact absurd rfl h
noncomputable abbrev gK:Stmt:=top 28
noncomputable abbrev gj:List Str:=["script","k","many","cell","stir"]
@[irreducible] noncomputable def d9 (K:W.Frag)(CL:Addr)(Y:Ad):DS→Out:=(ay (aQ 3 (kI 7))
  (ay (dn (cQ (ae (c1 (ac 0) bj) (kI 0) EM)) (aQ 3 (ae (ac 0) (ae (ac 1) (c1 (ac 0) bj) oO) av)) nxt)
  (ay (aQ 4 (ae (ae (ae (ae (ac 3) (kI 48271) iB) (ae (ae (ac 1) (kI 1) a_) (kI 7919) iB) a_) (c1 (ac 0) bj) a_) (kI 2147483647) oO))
  (ay (aQ 4 (ae (ae (ae (ae (ac 4) (ac 4) iB) (ae (ac 1) (kI 16807) iB) a_) (kI 11) a_) (kI 2147483647) oO))
  (br (ae (ae (ae (ae (ac 4) (kI 48271) iB) (kI 2147483647) oO) (kI 16) sK) (ac 2) oO))))))
noncomputable def ap (K:W.Frag)(CL:Addr)(Y:Ad):List D→Res D:=iS 3 gj (d9 K CL Y)
theorem sc__law_drawn:FnScope gj ["script","k","many"] (ah gK):=⟨rfl,rfl,rfl,by decide +kernel,rfl,by decide +kernel,by decide +kernel⟩
theorem ax (T:Txt K mg CL Y)(S:Sta K mg "_law_drawn" gK ["script","k","many"]):Cal P w K mg base "_law_drawn" 1 ["script","k","many"] (freshSp K 0 (ap K CL Y)):=by
 refine S.cal (k:=0) (r:=0) (F:=d9 K CL Y) sc__law_drawn [] (by decide) rfl fun f V A m s H E Q=> ?_
 unfold d9
 exact (ai (aH (i:=3) sc__law_drawn.nd rfl (.inl rfl) (aJ (PN.of af)))
   (ai (bz (aK Cl (aR T.b_len (dv 0)) af (aY _)) (al (aH (i:=3) sc__law_drawn.nd rfl (.inl rfl) (aJ (PN.of (ak (dv 0) (au j2 (dv 1) (aR T.b_len (dv 0)))))))) aW)
   (ai (aH (i:=4) sc__law_drawn.nd rfl (.inl rfl) (aJ (PN.of (au j2 (au aC (au aC (au dc (dv 3) af) (au dc (au aC (dv 1) af) af)) (aR T.b_len (dv 0))) af))))
   (ai (aH (i:=4) sc__law_drawn.nd rfl (.inl rfl) (aJ (PN.of (au j2 (au aC (au aC (au dc (dv 4) (dv 4)) (au dc (dv 1) af)) af) af))))
   (al (aS (aJ (PN.of (au j2 (au xD (au j2 (au dc (dv 4) af) af) af) (dv 2))))))))))
noncomputable abbrev gL:Stmt:=top 29
noncomputable abbrev gk:List Str:=["found"]
@[irreducible] noncomputable def d_ (K:W.Frag)(CL:Addr)(Y:Ad):DS→Out:=(br (xo (fun ρ=>((ac 0) ρ).bind (ej K (cV (.ty "int")))) (AZ (fun ρ=>((ac 0) ρ).bind (ej K (cV (.ty "bool")))))))
noncomputable def bO (K:W.Frag)(CL:Addr)(Y:Ad):List D→Res D:=iS 1 gk (d_ K CL Y)
theorem mU:FnScope gk ["found"] (ah gL):=⟨rfl,rfl,rfl,by decide +kernel,rfl,by decide +kernel,by decide +kernel⟩
theorem cZ (T:Txt K mg CL Y)(S:Sta K mg "_law_whole" gL ["found"]):Cal P w K mg base "_law_whole" 1 ["found"] (freshSp K 0 (bO K CL Y)):=by
 refine S.cal (k:=0) (r:=0) (F:=d_ K CL Y) mU [] (by decide) rfl fun f V A m s H E Q=> ?_
 unfold d_
 exact (al (aS (aJ (PN.of (vZ (kM T.b_isinstance (dv 0) (oQ rfl T.b_int zT rfl)) (wa (Bq (kM T.b_isinstance (dv 0) (oQ rfl T.b_bool xt rfl)))))))))
noncomputable abbrev jt:Stmt:=top 30
noncomputable abbrev i9:List Str:=["found","due","k"]
@[irreducible] noncomputable def gb (K:W.Frag)(CL:Addr)(Y:Ad):DS→Out:=(ay (dn (vW (fY (cQ (fun ρ=>((ac 0) ρ).bind (ej K (cV (.ty "list")))))) (cQ (ae (c1 (ac 0) bj) (c1 (ac 1) bj) k9))) (br (kB false)) nxt)
  (ay (dY (sR1 (pC (c1 (ac 1) bj) pN)) (bD 2) (dn (vW (fY (cQ (bv (pC (ae (ac 0) (ac 2) av) pN) (bO K CL Y)))) (cQ (ae (ae (ac 0) (ac 2) av) (ae (ac 1) (ac 2) av) k9))) (br (kB false)) nxt))
  (br (kB true))))
noncomputable def eV (K:W.Frag)(CL:Addr)(Y:Ad):List D→Res D:=iS 2 i9 (gb K CL Y)
theorem sc__law_row:FnScope i9 ["found","due"] (ah jt):=⟨rfl,rfl,rfl,by decide +kernel,rfl,by decide +kernel,by decide +kernel⟩
theorem ja (T:Txt K mg CL Y)(S:Sta K mg "_law_row" jt ["found","due"])(cZ:Cal P w K mg base "_law_whole" 1 ["found"] (freshSp K 0 (bO K CL Y))):Cal P w K mg base "_law_row" 2 ["found","due"] (freshSp K 0 (eV K CL Y)):=by
 refine S.cal (k:=1) (r:=0) (F:=gb K CL Y) sc__law_row [] (by decide) rfl fun f V A m s H E Q=> ?_
 unfold gb
 exact (ai (bz (PDW.pt (km (bZ (eC (kM T.b_isinstance (dv 0) (wh T.b_list ll)))) (jO (aK (gS Q.units) (aR T.b_len (dv 0)) (aR T.b_len (dv 1)) (aY _))))) (al (aS (aJ (PN.of bJ)))) aW)
   (ai (cr (j:=2) PassesOwn.leaving rfl sc__law_row.nd rfl (.inl rfl) rfl (bW rfl T.b_range (aa (aR T.b_len (dv 1)) ag))
    (al (bz (PDW.pt (km (bZ (eC (aD cZ Q (aa (ak (dv 0) (dv 2)) ag)))) (jO (aK (gS Q.units) (ak (dv 0) (dv 2)) (ak (dv 1) (dv 2)) (aY _))))) (al (aS (aJ (PN.of bJ)))) aW)))
   (al (aS (aJ (PN.of bJ))))))
noncomputable abbrev iG:Stmt:=top 31
noncomputable abbrev hD:List Str:=["found","due","k"]
@[irreducible] noncomputable def fk (K:W.Frag)(CL:Addr)(Y:Ad):DS→Out:=(ay (dn (vW (fY (cQ (fun ρ=>((ac 0) ρ).bind (ej K (cV (.ty "list")))))) (cQ (ae (c1 (ac 0) bj) (c1 (ac 1) bj) k9))) (br (kB false)) nxt)
  (ay (dY (sR1 (pC (c1 (ac 1) bj) pN)) (bD 2) (dn (fY (cQ (bv (pC (ae (ac 0) (ac 2) av) (pC (ae (ac 1) (ac 2) av) pN)) (eV K CL Y)))) (br (kB false)) nxt))
  (br (kB true))))
noncomputable def cm (K:W.Frag)(CL:Addr)(Y:Ad):List D→Res D:=iS 2 hD (fk K CL Y)
theorem sc__law_rows:FnScope hD ["found","due"] (ah iG):=⟨rfl,rfl,rfl,by decide +kernel,rfl,by decide +kernel,by decide +kernel⟩
theorem hX (T:Txt K mg CL Y)(S:Sta K mg "_law_rows" iG ["found","due"])(ja:Cal P w K mg base "_law_row" 2 ["found","due"] (freshSp K 0 (eV K CL Y))):Cal P w K mg base "_law_rows" 3 ["found","due"] (freshSp K 0 (cm K CL Y)):=by
 refine S.cal (k:=2) (r:=0) (F:=fk K CL Y) sc__law_rows [] (by decide) rfl fun f V A m s H E Q=> ?_
 unfold fk
 exact (ai (bz (PDW.pt (km (bZ (eC (kM T.b_isinstance (dv 0) (wh T.b_list ll)))) (jO (aK (gS Q.units) (aR T.b_len (dv 0)) (aR T.b_len (dv 1)) (aY _))))) (al (aS (aJ (PN.of bJ)))) aW)
   (ai (cr (j:=2) PassesOwn.leaving rfl sc__law_rows.nd rfl (.inl rfl) rfl (bW rfl T.b_range (aa (aR T.b_len (dv 1)) ag))
    (al (bz (bZ (eC (aD ja Q (aa (ak (dv 0) (dv 2)) (aa (ak (dv 1) (dv 2)) ag))))) (al (aS (aJ (PN.of bJ)))) aW)))
   (al (aS (aJ (PN.of bJ))))))
noncomputable abbrev dl:Stmt:=top 32
noncomputable abbrev cW:List Str:=["script","base","many","runs"]
@[irreducible] noncomputable def cT (K:W.Frag)(CL:Addr)(Y:Ad):DS→Out:=(ay (aQ 2 (ae (kI 1) (bv (pC (ac 0) (pC (ac 1) (pC (kI 5) pN))) (ap K CL Y)) a_))
  (ay (aQ 3 (bc (sR1 (pC (ac 2) pN)) [none,some 0,some 1] (bD 0) yes (ae (kI 1) (bv (pC (ac 1) (pC (ae (ae (ac 2) (kI 2) a_) (ac 0) a_) (pC (ae (cw (pC (kI 4) (pC (kI 20) pN))) (bv (pC (ac 1) (pC (ae (ac 2) (kI 1) a_) (pC (kI 2) pN))) (ap K CL Y)) av) pN))) (ap K CL Y)) a_)))
  (br (jV (pC (ac 3) (pC (bv (pC (ac 0) (pC (ae (ac 1) (kI 8) a_) (pC (kI 6) pN))) (ap K CL Y)) pN))))))
noncomputable def ck (K:W.Frag)(CL:Addr)(Y:Ad):List D→Res D:=iS 2 cW (cT K CL Y)
theorem sc__law_line_by:FnScope cW ["script","base"] (ah dl):=⟨rfl,rfl,rfl,by decide +kernel,rfl,by decide +kernel,by decide +kernel⟩
theorem eL (T:Txt K mg CL Y)(S:Sta K mg "_law_line_by" dl ["script","base"])(ax:Cal P w K mg base "_law_drawn" 1 ["script","k","many"] (freshSp K 0 (ap K CL Y))):Cal P w K mg base "_law_line_by" 2 ["script","base"] (freshSp K 0 (ck K CL Y)):=by
 refine S.cal (k:=1) (r:=0) (F:=cT K CL Y) sc__law_line_by [] (by decide) rfl fun f V A m s H E Q=> ?_
 unfold cT
 exact (ai (aH (i:=2) sc__law_line_by.nd rfl (.inl rfl) (aJ (PN.of (au aC af (aD ax Q (aa (dv 0) (aa (dv 1) (aa af ag))))))))
   (ai (DV (jQ sc__law_line_by.nd (i:=3) rfl rfl rfl (bf (N:=["k","script","base"]) (caps:=[none,some 0,some 1]) (ah dl) cW rfl rfl (by decide +kernel)) (j:=0) rfl rfl rfl (e9 rfl T.b_range (aa (dv 2) ag)) (fun _ _ _ _=>bn) (fun _ _ _ _=>(PN.of (au aC af (aD ax Q (aa (dv 1) (aa (au aC (au aC (dv 2) af) (dv 0)) (aa (ak (fK (aa af (aa af ag))) (aD ax Q (aa (dv 1) (aa (au aC (dv 2) af) (aa af ag))) dU)) ag))) dU))))) rfl)
   (al (aS (aJ (PN.of (iE (aa (dv 3) (aa (aD ax Q (aa (dv 0) (aa (au aC (dv 1) af) (aa af ag)))) ag)))))))))
noncomputable abbrev dz:Stmt:=top 33
noncomputable abbrev bR:List Str:=["script","base","stretches","most","trains","k","start","goal"]
noncomputable abbrev aX:List Nat:=[0,0,0,0,1,0,0,0]
@[irreducible] noncomputable def bH (K:W.Frag)(CL:Addr)(Y:Ad):DS→Out:=(ay (aQ 4 (cE aX (cw pN)))
  (ay (dY (sR1 (pC (ae (kI 1) (bv (pC (ac 0) (pC (ac 1) (pC (ac 3) pN))) (ap K CL Y)) a_) pN)) (bD 5) (ay (aQ 6 (cE aX (bv (pC (ac 0) (pC (ae (ae (ac 1) (kI 1) a_) (ae (kI 5) (ac 5) iB) a_) (pC (ae (ac 2) (kI 1) a_) pN))) (ap K CL Y))))
  (ay (aQ 7 (cE aX (ae (ae (ae (ac 6) (kI 1) a_) (bv (pC (ac 0) (pC (ae (ae (ac 1) (kI 2) a_) (ae (kI 5) (ac 5) iB) a_) (pC (ac 2) pN))) (ap K CL Y)) a_) (ae (ac 2) (kI 1) a_) oO)))
  (ay (dn (cQ (ae (bv (pC (ac 0) (pC (ae (ae (ac 1) (kI 3) a_) (ae (kI 5) (ac 5) iB) a_) (pC (kI 3) pN))) (ap K CL Y)) (kI 1) nh)) (ay (aQ 6 (cE aX (ae (bv (pC (ac 0) (pC (ae (ae (ac 1) (kI 4) a_) (ae (kI 5) (ac 5) iB) a_) (pC (kI 2) pN))) (ap K CL Y)) (ac 2) iB)))
  (aQ 7 (cE aX (ae (ac 2) (ac 6) pe)))) nxt)
  (fS 4 (cE aX (jV (pC (ac 6) (pC (ac 7) (pC (bv (pC (ac 0) (pC (ae (ae (ac 1) (kI 5) a_) (ae (kI 5) (ac 5) iB) a_) (pC (ae (cw (pC (kI 1) (pC (kI 9) (pC (kI 61) pN)))) (bv (pC (ac 0) (pC (ae (ac 1) (kI 40) a_) (pC (kI 3) pN))) (ap K CL Y)) av) pN))) (ap K CL Y)) pN))))))))))
  (br (ac 4))))
noncomputable def bI (K:W.Frag)(CL:Addr)(Y:Ad):List D→Res D:=iS 4 bR (bH K CL Y)
theorem sc__law_trains_by:FnScope bR ["script","base","stretches","most"] (ah dz):=⟨rfl,rfl,rfl,by decide +kernel,rfl,by decide +kernel,by decide +kernel⟩
theorem du (T:Txt K mg CL Y)(S:Sta K mg "_law_trains_by" dz ["script","base","stretches","most"])(ax:Cal P w K mg base "_law_drawn" 1 ["script","k","many"] (freshSp K 0 (ap K CL Y))):Cal P w K mg base "_law_trains_by" 2 ["script","base","stretches","most"] (freshSp K 1 (bI K CL Y)):=by
 refine S.cal (k:=1) (r:=1) (F:=bH K CL Y) sc__law_trains_by aX (by decide) rfl fun f V A m s H E Q=> ?_
 unfold bH
 exact (ai (aH (i:=4) sc__law_trains_by.nd rfl (.inl rfl) (aB (jq ag)))
   (ai (cr (j:=5) PassesOwn.leaving rfl sc__law_trains_by.nd rfl (.inl rfl) rfl (bW rfl T.b_range (aa (au aC af (aD ax Q (aa (dv 0) (aa (dv 1) (aa (dv 3) ag))))) ag))
    (ai (aH (i:=6) sc__law_trains_by.nd rfl (.inl rfl) (aB (PN.of (aD ax Q (aa (dv 0) (aa (au aC (au aC (dv 1) af) (au dc af (dv 5))) (aa (au aC (dv 2) af) ag)))))))
   (ai (aH (i:=7) sc__law_trains_by.nd rfl (.inl rfl) (aB (PN.of (au j2 (au aC (au aC (dv 6) af) (aD ax Q (aa (dv 0) (aa (au aC (au aC (dv 1) af) (au dc af (dv 5))) (aa (dv 2) ag))))) (au aC (dv 2) af)))))
   (ai (bz (aK (iY Q.units) (aD ax Q (aa (dv 0) (aa (au aC (au aC (dv 1) af) (au dc af (dv 5))) (aa af ag)))) af (aY _)) (ai (aH (i:=6) sc__law_trains_by.nd rfl (.inl rfl) (aB (PN.of (au dc (aD ax Q (aa (dv 0) (aa (au aC (au aC (dv 1) af) (au dc af (dv 5))) (aa af ag)))) (dv 2)))))
   (al (aH (i:=7) sc__law_trains_by.nd rfl (.inl rfl) (aB (PN.of (au lD (dv 2) (dv 6))))))) aW)
   (al (eI (j:=4) (n:=0) rfl rfl (.inl rfl) (aB (PN.of (iE (aa (dv 6) (aa (dv 7) (aa (aD ax Q (aa (dv 0) (aa (au aC (au aC (dv 1) af) (au dc af (dv 5))) (aa (ak (fK (aa af (aa af (aa af ag)))) (aD ax Q (aa (dv 0) (aa (au aC (dv 1) af) (aa af ag))))) ag)))) ag))))))))))))
   (al (oU (i:=4) rfl rfl (.inl rfl)))))
noncomputable abbrev ff:Stmt:=top 34
noncomputable abbrev eJ:List Str:=["train"]
@[irreducible] noncomputable def gc (K:W.Frag)(CL:Addr)(Y:Ad):DS→Out:=(ay (dn (cQ (ae (ae (ac 0) (kI 0) av) (ae (ac 0) (kI 1) av) qd)) (br (bc (sR2 (pC (ae (ac 0) (kI 0) av) (pC (ae (ac 0) (kI 1) av) pN))) [none] (bD 0) yes (ac 0))) nxt)
  (br (ae (bc (sR2 (pC (ae (ac 0) (kI 1) av) (pC (ae (ac 0) (kI 0) av) pN))) [none] (bD 0) yes (ac 0)) (nG (kI 1)) qw)))
noncomputable def aF (K:W.Frag)(CL:Addr)(Y:Ad):List D→Res D:=iS 1 eJ (gc K CL Y)
theorem qC:FnScope eJ ["train"] (ah ff):=⟨rfl,rfl,rfl,by decide +kernel,rfl,by decide +kernel,by decide +kernel⟩
theorem bB (T:Txt K mg CL Y)(S:Sta K mg "_law_way" ff ["train"]):Cal P w K mg base "_law_way" 1 ["train"] (freshSp K 0 (aF K CL Y)):=by
 refine S.cal (k:=0) (r:=0) (F:=gc K CL Y) qC [] (by decide) rfl fun f V A m s H E Q=> ?_
 unfold gc
 exact (ai (bz (aK jz (ak (dv 0) af) (ak (dv 0) af) (aY _)) (al (aS (aJ (PN.of (PN.pd (cf (j:=0) rfl (bf (N:=["k"]) (caps:=[none]) (ah ff) eJ rfl rfl (by decide +kernel)) rfl rfl rfl (md rfl T.b_range (aa (ak (dv 0) af) (aa (ak (dv 0) af) ag))) (fun _ _ _ _=>bn) (fun _ _ _ _=>(PN.of (dv 0))))))))) aW)
   (al (aS (aJ (PN.of (PN.pd (BC (PN.pd (cf (j:=0) rfl (bf (N:=["k"]) (caps:=[none]) (ah ff) eJ rfl rfl (by decide +kernel)) rfl rfl rfl (md rfl T.b_range (aa (ak (dv 0) af) (aa (ak (dv 0) af) ag))) (fun _ _ _ _=>bn) (fun _ _ _ _=>(PN.of (dv 0))))) (iD af))))))))
noncomputable abbrev iF:Stmt:=top 36
noncomputable abbrev hB:List Str:=["runs","gap","trains","table","visits","k","places","soonest","j","a","b","far"]
noncomputable abbrev aM:List Nat:=[0,0,0,0,1,0,0,0,0,0,0,0]
@[irreducible] noncomputable def fj (K:W.Frag)(CL:Addr)(Y:Ad):DS→Out:=(ay (dn (cQ (ae (c1 (ac 3) bj) (c1 (ac 2) bj) k9)) (br (cE aM (kB false))) nxt)
  (ay (aQ 4 (cE aM (cw pN)))
  (ay (dY (sR1 (pC (c1 (ac 2) bj) pN)) (bD 5) (ay (aQ 6 (cE aM (bv (pC (ae (ac 2) (ac 5) av) pN) (aF K CL Y))))
  (ay (dn (cQ (ae (c1 (ae (ac 3) (ac 5) av) bj) (c1 (ac 6) bj) k9)) (br (cE aM (kB false))) nxt)
  (ay (aQ 7 (cE aM (ae (ae (ac 2) (ac 5) av) (kI 2) av)))
  (dY (sR1 (pC (c1 (ac 6) bj) pN)) (bD 8) (ay (dn (cQ (ae (ae (ae (ac 3) (ac 5) av) (ac 8) av) (ac 7) qd)) (br (cE aM (kB false))) nxt)
  (ay (aQ 7 (cE aM (ae (ae (ae (ac 3) (ac 5) av) (ac 8) av) (ae (ac 0) (ae (ac 6) (ac 8) av) av) a_)))
  (fS 4 (cE aM (jV (pC (ae (ac 6) (ac 8) av) (pC (ae (ae (ac 3) (ac 5) av) (ac 8) av) pN))))))))))))
  (ay (dY (sR1 (pC (c1 (ac 4) bj) pN)) (bD 9) (dY (sR1 (pC (ac 9) pN)) (bD 10) (ay (aQ 11 (fW 0 (c1 (ae (ae (ae (ac 4) (ac 9) av) (kI 1) av) (ae (ae (ac 4) (ac 10) av) (kI 1) av) pe) tO)))
  (dn (xl (cQ (ae (ae (ae (ac 4) (ac 9) av) (kI 0) av) (ae (ae (ac 4) (ac 10) av) (kI 0) av) nh)) (cQ (ae (ac 11) (ae (ae (ac 0) (ae (ae (ac 4) (ac 9) av) (kI 0) av) av) (ac 1) a_) qd))) (br (cE aM (kB false))) nxt))))
  (br (cE aM (kB true)))))))
noncomputable def cN (K:W.Frag)(CL:Addr)(Y:Ad):List D→Res D:=iS 4 hB (fj K CL Y)
theorem sc__law_kept:FnScope hB ["runs","gap","trains","table"] (ah iF):=⟨rfl,rfl,rfl,by decide +kernel,rfl,by decide +kernel,by decide +kernel⟩
theorem hW (T:Txt K mg CL Y)(S:Sta K mg "_law_kept" iF ["runs","gap","trains","table"])(bB:Cal P w K mg base "_law_way" 1 ["train"] (freshSp K 0 (aF K CL Y))):Cal P w K mg base "_law_kept" 2 ["runs","gap","trains","table"] (freshSp K 0 (cN K CL Y)):=by
 refine S.cal (k:=1) (r:=0) (F:=fj K CL Y) sc__law_kept aM (by decide) rfl fun f V A m s H E Q=> ?_
 unfold fj
 exact (ai (bz (aK (gS Q.units) (aR T.b_len (dv 3)) (aR T.b_len (dv 2)) (aY _)) (al (aS (aB (PN.of bJ)))) aW)
   (ai (aH (i:=4) sc__law_kept.nd rfl (.inl rfl) (aB (jq ag)))
   (ai (cr (j:=5) PassesOwn.leaving rfl sc__law_kept.nd rfl (.inl rfl) rfl (bW rfl T.b_range (aa (aR T.b_len (dv 2)) ag))
    (ai (aH (i:=6) sc__law_kept.nd rfl (.inl rfl) (aB (PN.of (aD bB Q (aa (ak (dv 2) (dv 5)) ag)))))
   (ai (bz (aK (gS Q.units) (aR T.b_len (ak (dv 3) (dv 5))) (aR T.b_len (dv 6)) (aY _)) (al (aS (aB (PN.of bJ)))) aW)
   (ai (aH (i:=7) sc__law_kept.nd rfl (.inl rfl) (aB (PN.of (ak (ak (dv 2) (dv 5)) af))))
   (al (cr (j:=8) PassesOwn.leaving rfl sc__law_kept.nd rfl (.inl rfl) rfl (bW rfl T.b_range (aa (aR T.b_len (dv 6)) ag))
    (ai (bz (aK jz (ak (ak (dv 3) (dv 5)) (dv 8)) (dv 7) (aY _)) (al (aS (aB (PN.of bJ)))) aW)
   (ai (aH (i:=7) sc__law_kept.nd rfl (.inl rfl) (aB (PN.of (au aC (ak (ak (dv 3) (dv 5)) (dv 8)) (ak (dv 0) (ak (dv 6) (dv 8)))))))
   (al (eI (j:=4) (n:=0) rfl rfl (.inl rfl) (aB (PN.of (iE (aa (ak (dv 6) (dv 8)) (aa (ak (ak (dv 3) (dv 5)) (dv 8)) ag)))))))))))))))
   (ai (cr (j:=9) PassesOwn.leaving rfl sc__law_kept.nd rfl (.inl rfl) rfl (bW rfl T.b_range (aa (aR T.b_len (dv 4)) ag))
    (al (cr (j:=10) PassesOwn.leaving rfl sc__law_kept.nd rfl (.inl rfl) rfl (bW rfl T.b_range (aa (dv 9) ag))
    (ai (aH (i:=11) sc__law_kept.nd rfl (.inl rfl) (b0 (PN.of (Bn T.b_abs (au lD (ak (ak (dv 4) (dv 9)) af) (ak (ak (dv 4) (dv 10)) af))))))
   (al (bz (PDW.pt (yF (aK (iY Q.units) (ak (ak (dv 4) (dv 9)) af) (ak (ak (dv 4) (dv 10)) af) (aY _)) (wd (aK jz (dv 11) (au aC (ak (dv 0) (ak (ak (dv 4) (dv 9)) af)) (dv 1)) (aY _))))) (al (aS (aB (PN.of bJ)))) aW))))))
   (al (aS (aB (PN.of bJ))))))))
noncomputable abbrev dO:Stmt:=top 37
noncomputable abbrev dI:List Str:=["runs","trains","table","found","stretch","row","k"]
noncomputable abbrev df:List Nat:=[0,0,0,2,0,1,0]
@[irreducible] noncomputable def dE (K:W.Frag)(CL:Addr)(Y:Ad):DS→Out:=(ay (aQ 3 (cE df (cw pN)))
  (ay (dY (sR1 (pC (c1 (ac 0) bj) pN)) (bD 4) (ay (aQ 5 (cE df (cw pN)))
  (ay (dY (sR1 (pC (c1 (ac 1) bj) pN)) (bD 6) (dn (cQ (ae (ac 4) (bv (pC (ae (ac 1) (ac 6) av) pN) (aF K CL Y)) (CA false))) (fS 5 (cE df (jV (pC (ae (ae (ac 2) (ac 6) av) (ae (bv (pC (ae (ac 1) (ac 6) av) pN) (aF K CL Y)) (ac 4) lO) av) (pC (ac 6) pN))))) nxt))
  (fS 3 (fW 1 (bc (sL (c1 (ac 5) cq)) [none] (bD 0) yes (ae (ac 0) (kI 1) av)))))))
  (br (ac 3))))
noncomputable def b5 (K:W.Frag)(CL:Addr)(Y:Ad):List D→Res D:=iS 3 dI (dE K CL Y)
theorem sc__law_orders:FnScope dI ["runs","trains","table"] (ah dO):=⟨rfl,rfl,rfl,by decide +kernel,rfl,by decide +kernel,by decide +kernel⟩
theorem fG (T:Txt K mg CL Y)(S:Sta K mg "_law_orders" dO ["runs","trains","table"])(bB:Cal P w K mg base "_law_way" 1 ["train"] (freshSp K 0 (aF K CL Y))):Cal P w K mg base "_law_orders" 2 ["runs","trains","table"] (freshSp K 2 (b5 K CL Y)):=by
 refine S.cal (k:=1) (r:=2) (F:=dE K CL Y) sc__law_orders df (by decide) rfl fun f V A m s H E Q=> ?_
 unfold dE
 exact (ai (aH (i:=3) sc__law_orders.nd rfl (.inl rfl) (aB (lv lw)))
   (ai (cr (j:=4) PassesOwn.leaving rfl sc__law_orders.nd rfl (.inl rfl) rfl (bW rfl T.b_range (aa (aR T.b_len (dv 0)) ag))
    (ai (aH (i:=5) sc__law_orders.nd rfl (.inl rfl) (aB (jq ag)))
   (ai (cr (j:=6) PassesOwn.leaving rfl sc__law_orders.nd rfl (.inl rfl) rfl (bW rfl T.b_range (aa (aR T.b_len (dv 1)) ag))
    (al (bz (aK (Cm Q.units) (dv 4) (aD bB Q (aa (ak (dv 1) (dv 6)) ag)) (by rfl)) (al (eI (j:=5) (n:=0) rfl rfl (.inl rfl) (aB (PN.of (iE (aa (ak (ak (dv 2) (dv 6)) (v9 Q.units (aD bB Q (aa (ak (dv 1) (dv 6)) ag)) (dv 4) d7)) (aa (dv 6) ag))))))) aW)))
   (al (eI (j:=3) (n:=1) rfl rfl (.inl rfl) (b0 (cf (j:=0) rfl (bf (N:=["pair"]) (caps:=[none]) (ah dO) dI rfl rfl (by decide +kernel)) rfl rfl rfl (b4 (PN.pd (qr T.b_sorted (dv 5)))) (fun _ _ _ _=>bn) (fun _ _ _ _=>(PN.of (ak (dv 0) af))))))))))
   (al (oU (i:=3) rfl rfl (.inl rfl)))))
noncomputable abbrev bo:Stmt:=top 38
noncomputable abbrev bd:List Str:=["runs","gap","trains","table","free","there","some","k","stretch","pick"]
noncomputable abbrev aG:List Nat:=[0,0,0,2,1,1,1,0,0,0]
@[irreducible] noncomputable def b9 (K:W.Frag)(CL:Addr)(Y:Ad):DS→Out:=(ay (aQ 3 (cE aG (bc (sL (ac 2)) [none] (bD 0) yes (cw pN))))
  (ay (aQ 4 (cE aG (bc (sL (ac 0)) [none] (bD 0) yes (kI 0))))
  (ay (aQ 5 (cE aG (bc (sL (ac 2)) [none] (bD 0) yes (ae (ac 0) (kI 2) av))))
  (ay (cL (cQ (ae (c1 (bc (sR1 (pC (c1 (ac 2) bj) pN)) [none,some 3,some 2] (bD 0) yes (ae (c1 (ae (ac 1) (ac 0) av) bj) (c1 (bv (pC (ae (ac 2) (ac 0) av) pN) (aF K CL Y)) bj) pe)) mP) (kI 0) qd)) (ay (aQ 6 (cE aG (cw pN)))
  (ay (dY (sR1 (pC (c1 (ac 2) bj) pN)) (bD 7) (dn (cQ (ae (c1 (ae (ac 3) (ac 7) av) bj) (c1 (bv (pC (ae (ac 2) (ac 7) av) pN) (aF K CL Y)) bj) qd)) (ay (aQ 8 (fW 0 (ae (bv (pC (ae (ac 2) (ac 7) av) pN) (aF K CL Y)) (c1 (ae (ac 3) (ac 7) av) bj) av)))
  (fS 6 (fW 0 (jV (pC (bv (pC (ae (ac 5) (ac 7) av) (pC (ae (ac 4) (ac 8) av) pN)) nE) (pC (ac 7) (pC (ac 8) pN))))))) nxt))
  (ay (aQ 9 (fW 0 (c1 (ac 6) iA)))
  (ay (kv 3 (ae (ac 9) (kI 1) av) (cE aG (ae (ac 9) (kI 0) av)))
  (ay (mx 5 (ae (ac 9) (kI 1) av) (cE aG (ae (ae (ac 9) (kI 0) av) (ae (ac 0) (ae (ac 9) (kI 2) av) av) a_)))
  (mx 4 (ae (ac 9) (kI 2) av) (fW 0 (ae (ae (ac 5) (ae (ac 9) (kI 1) av) av) (ac 1) a_)))))))) 60)
  (br (ac 3))))))
noncomputable def bN (K:W.Frag)(CL:Addr)(Y:Ad):List D→Res D:=iS 3 bd (b9 K CL Y)
theorem sc__law_first_come:FnScope bd ["runs","gap","trains"] (ah bo):=⟨rfl,rfl,rfl,by decide +kernel,rfl,by decide +kernel,by decide +kernel⟩
theorem cY (T:Txt K mg CL Y)(S:Sta K mg "_law_first_come" bo ["runs","gap","trains"])(bB:Cal P w K mg base "_law_way" 1 ["train"] (freshSp K 0 (aF K CL Y))):Cal P w K mg base "_law_first_come" 2 ["runs","gap","trains"] (freshSp K 2 (bN K CL Y)):=by
 refine S.cal (k:=1) (r:=2) (F:=b9 K CL Y) sc__law_first_come aG (by decide) rfl fun f V A m s H E Q=> ?_
 unfold b9
 exact (ai (aH (i:=3) sc__law_first_come.nd rfl (.inr rfl) (aB (cf (j:=0) rfl (bf (N:=["train"]) (caps:=[none]) (ah bo) bd rfl rfl (by decide +kernel)) rfl rfl rfl (b4 (dv 2)) (fun _ _ _ _=>bn) (fun _ _ _ _=>(jq ag)))))
   (ai (rQ (jQ sc__law_first_come.nd (i:=4) rfl rfl rfl (bf (N:=["run"]) (caps:=[none]) (ah bo) bd rfl rfl (by decide +kernel)) (j:=0) rfl rfl rfl (b4 (dv 0)) (fun _ _ _ _=>bn) (fun _ _ _ _=>(PN.of af))) rfl rfl)
   (ai (rQ (jQ sc__law_first_come.nd (i:=5) rfl rfl rfl (bf (N:=["train"]) (caps:=[none]) (ah bo) bd rfl rfl (by decide +kernel)) (j:=0) rfl rfl rfl (b4 (dv 2)) (fun _ _ _ _=>bn) (fun _ _ _ _=>(PN.of (ak (dv 0) af)))) rfl rfl)
   (ai (wx 60 PassesOwn.leaving (aK jz (yD T.b_min (PN.pd (cf (j:=0) rfl (bf (N:=["k","table","trains"]) (caps:=[none,some 3,some 2]) (ah bo) bd rfl rfl (by decide +kernel)) rfl rfl rfl (e9 rfl T.b_range (aa (aR T.b_len (dv 2)) ag)) (fun _ _ _ _=>bn) (fun _ _ _ _=>(PN.of (au lD (aR T.b_len (ak (dv 1) (dv 0))) (aR T.b_len (aD bB Q (aa (ak (dv 2) (dv 0)) ag) dU)))))))) af (aY _)) (ai (aH (i:=6) sc__law_first_come.nd rfl (.inl rfl) (aB (jq ag)))
   (ai (cr (j:=7) PassesOwn.leaving rfl sc__law_first_come.nd rfl (.inl rfl) rfl (bW rfl T.b_range (aa (aR T.b_len (dv 2)) ag))
    (al (bz (aK jz (aR T.b_len (ak (dv 3) (dv 7))) (aR T.b_len (aD bB Q (aa (ak (dv 2) (dv 7)) ag))) (aY _)) (ai (aH (i:=8) sc__law_first_come.nd rfl (.inl rfl) (b0 (PN.of (ak (aD bB Q (aa (ak (dv 2) (dv 7)) ag)) (aR T.b_len (ak (dv 3) (dv 7)))))))
   (al (eI (j:=6) (n:=0) rfl rfl (.inl rfl) (b0 (PN.of (iE (aa (yC T.b_max (aa (ak (dv 5) (dv 7)) (aa (ak (dv 4) (dv 8)) ag))) (aa (dv 7) (aa (dv 8) ag))))))))) aW)))
   (ai (aH (i:=9) sc__law_first_come.nd rfl (.inl rfl) (b0 (PN.of (yE Q.units T.b_min (dv 6)))))
   (ai (ut (j:=3) (n:=0) rfl rfl (.inr (.inl rfl)) (ak (dv 9) af) (aB (PN.of (ak (dv 9) af))) DI)
   (ai (oV (j:=5) (n:=0) rfl rfl (.inl rfl) (ak (dv 9) af) (aB (PN.of (au aC (ak (dv 9) af) (ak (dv 0) (ak (dv 9) af))))))
   (al (oV (j:=4) (n:=0) rfl rfl (.inl rfl) (ak (dv 9) af) (b0 (PN.of (au aC (ak (dv 5) (ak (dv 9) af)) (dv 1))))))))))))
   (al (oU (i:=3) rfl rfl (.inr (.inl rfl))))))))
noncomputable abbrev fM:Stmt:=top 40
noncomputable abbrev dJ:List Str:=["script","table","k","mode","at"]
noncomputable abbrev eZ:List Nat:=[0,2,0,0,0]
@[irreducible] noncomputable def cB (K:W.Frag)(CL:Addr)(Y:Ad):DS→Out:=(ay (aQ 3 (cE eZ (bv (pC (ac 0) (pC (kI 106) (pC (kI 7) pN))) (ap K CL Y))))
  (ay (aQ 4 (fW 0 (bv (pC (ac 0) (pC (kI 104) (pC (c1 (ae (ac 1) (ac 2) av) bj) pN))) (ap K CL Y))))
  (dn (cQ (ae (ac 3) (kI 3) qd)) (mw 1 (ac 2) (ac 4) (fW 0 (ae (ae (ae (ac 1) (ac 2) av) (ac 4) av) (ae (cw (pC (nG (kI 1)) (pC (kI 1) (pC (kI 20) pN)))) (bv (pC (ac 0) (pC (kI 105) (pC (kI 3) pN))) (ap K CL Y)) av) a_))) (dn (cQ (ae (ac 3) (kI 3) nh)) (mq 1 (ac 2) (ac 4)) (dn (cQ (ae (ac 3) (kI 4) nh)) (kv 1 (ac 2) (fW 0 (ae (ae (ae (ac 1) (ac 2) av) (nG (kI 1)) av) (kI 40) a_))) (dn (cQ (ae (ac 3) (kI 5) nh)) (rR 1 (ac 2)) (fS 1 (cE eZ (cw (pC (kI 0) pN))))))))))
noncomputable def b6 (K:W.Frag)(CL:Addr)(Y:Ad):List D→Res D:=oP 3 dJ 1 (cB K CL Y)
theorem sc__law_spoilt:FnScope dJ ["script","table","k"] (ah fM):=⟨rfl,rfl,rfl,by decide +kernel,rfl,by decide +kernel,by decide +kernel⟩
theorem fH (T:Txt K mg CL Y)(S:Sta K mg "_law_spoilt" fM ["script","table","k"])(ax:Cal P w K mg base "_law_drawn" 1 ["script","k","many"] (freshSp K 0 (ap K CL Y))):CalU P w K mg base "_law_spoilt" 2 ["script","table","k"] 2 (b6 K CL Y):=by
 refine S.calU (k:=1) (F:=cB K CL Y) sc__law_spoilt eZ (by decide) rfl (by decide) rfl fun f V A m s H E Q=> ?_
 unfold cB
 exact (tj (wn (i:=3) (by decide) sc__law_spoilt.nd rfl (.inl rfl) (aB (PN.of (aD ax Q (aa (dv 0) (aa af (aa af ag)))))))
   (tj (wn (i:=4) (by decide) sc__law_spoilt.nd rfl (.inl rfl) (b0 (PN.of (aD ax Q (aa (dv 0) (aa af (aa (aR T.b_len (ak (dv 1) (dv 2))) ag)))))))
   (gH (tm (aK jz (dv 3) af (aY _)) (gH (PQ1.pk (yO (j:=1) rfl rfl (.inl rfl) (dv 2) (dv 4) (b0 (PN.of (au aC (ak (ak (dv 1) (dv 2)) (dv 4)) (ak (fK (aa (iD af) (aa af (aa af ag)))) (aD ax Q (aa (dv 0) (aa af (aa af ag)))))))) d7))) (gH (tm (aK (iY Q.units) (dv 3) af (aY _)) (gH (PQ1.pk (uy (j:=1) rfl rfl (.inl rfl) (dv 2) (dv 4) d7))) (gH (tm (aK (iY Q.units) (dv 3) af (aY _)) (gH (PQ1.pk (ux (j:=1) rfl rfl (.inl rfl) (dv 2) (b0 (PN.of (au aC (ak (ak (dv 1) (dv 2)) (iD af)) af))) (DJ (sV (sV (sV d7 d7 rn) (Bb Ba) rn) Ba xi))))) (gH (tm (aK (iY Q.units) (dv 3) af (aY _)) (gH (PQ1.pk (BD (j:=1) (n:=1) rfl rfl (.inl rfl) (dv 2)))) (gH (PQ1.pk (uw (j:=1) (n:=1) rfl rfl (.inl rfl) (aB (jq (aa af ag))))))))))))))))
noncomputable abbrev fP:Stmt:=top 15
noncomputable abbrev fF:List Str:=["line","train","last_halt","halt","ready"]
@[irreducible] noncomputable def dH (K:W.Frag)(CL:Addr)(Y:Ad):DS→Out:=(ay (dn (cQ (ae (c1 (ac 1) bj) (kI 3) k9)) bad1 nxt)
  (ay (aQ 2 (c1 (iz CL "runs" (ac 0) (eU CL)) bj))
  (ay (dY (sT (Eb (ac 1) oN (oI (kI 2)))) (bD 3) (dn (fY (gw (kI 0) (ac 3) (ac 2) qP qP)) bad1 nxt))
  (ay (dn (cQ (ae (ae (ac 1) (kI 0) av) (ae (ac 1) (kI 1) av) nh)) bad1 nxt)
  (ay (aQ 4 (ae (ac 1) (kI 2) av))
  (dn (fY (gw (kI 0) (ac 4) (kI 60) qP qP)) bad1 nxt))))))
noncomputable def b7 (K:W.Frag)(CL:Addr)(Y:Ad):List D→Res D:=iS 2 fF (dH K CL Y)
theorem sc_check_train:FnScope fF ["line","train"] (ah fP):=⟨rfl,rfl,rfl,by decide +kernel,rfl,by decide +kernel,by decide +kernel⟩
theorem fJ (T:Txt K mg CL Y)(S:Sta K mg "check_train" fP ["line","train"])(c_runs:CalM P w K mg base CL "runs" 1 (eU CL)):Cal P w K mg base "check_train" 2 ["line","train"] (freshSp K 0 (b7 K CL Y)):=by
 refine S.cal (k:=1) (r:=0) (F:=dH K CL Y) sc_check_train [] (by decide) rfl fun f V A m s H E Q=> ?_
 unfold dH
 exact (ai (bz (aK (gS Q.units) (aR T.b_len (dv 1)) af (aY _)) (al dW) aW)
   (ai (aH (i:=2) sc_check_train.nd rfl (.inl rfl) (aJ (PN.of (aR T.b_len (nO c_runs Q (dv 0))))))
   (ai (cr (j:=3) PassesOwn.leaving rfl sc_check_train.nd rfl (.inl rfl) rfl (kA (yI (ql (dv 1) qm (qo af))))
    (al (bz (bZ (eG gR gR af (dv 3) (dv 2))) (al dW) aW)))
   (ai (bz (aK (iY Q.units) (ak (dv 1) af) (ak (dv 1) af) (aY _)) (al dW) aW)
   (ai (aH (i:=4) sc_check_train.nd rfl (.inl rfl) (aJ (PN.of (ak (dv 1) af))))
   (al (bz (bZ (eG gR gR af (dv 4) (qk T.mY))) (al dW) aW)))))))
noncomputable abbrev wL:Stmt:=top 14
noncomputable abbrev uQ:List Str:=["line","train","start","end"]
@[irreducible] noncomputable def sj (K:W.Frag)(CL:Addr)(Y:Ad):DS→Out:=(ay (pU (bv (pC (ac 0) (pC (ac 1) pN)) (b7 K CL Y)))
  (ay (aQ 2 (ae (ac 1) (kI 0) av))
  (ay (aQ 3 (ae (ac 1) (kI 1) av))
  (ay (dn (cQ (ae (ac 2) (ac 3) qd)) (br (bv (pC (ac 2) (pC (ac 3) pN)) nB)) nxt)
  (br (bv (pC (ae (ac 2) (kI 1) pe) (pC (ae (ac 3) (kI 1) pe) (pC (nG (kI 1)) pN))) nC))))))
noncomputable def qe (K:W.Frag)(CL:Addr)(Y:Ad):List D→Res D:=iS 2 uQ (sj K CL Y)
theorem sc_way:FnScope uQ ["line","train"] (ah wL):=⟨rfl,rfl,rfl,by decide +kernel,rfl,by decide +kernel,by decide +kernel⟩
theorem uX (T:Txt K mg CL Y)(S:Sta K mg "way" wL ["line","train"])(fJ:Cal P w K mg base "check_train" 2 ["line","train"] (freshSp K 0 (b7 K CL Y))):Cal P w K mg base "way" 3 ["line","train"] (freshSp K 0 (qe K CL Y)):=by
 refine S.cal (k:=2) (r:=0) (F:=sj K CL Y) sc_way [] (by decide) rfl fun f V A m s H E Q=> ?_
 unfold sj
 exact (ai (oT (aD fJ Q (aa (dv 0) (aa (dv 1) ag))))
   (ai (aH (i:=2) sc_way.nd rfl (.inl rfl) (aJ (PN.of (ak (dv 1) af))))
   (ai (aH (i:=3) sc_way.nd rfl (.inl rfl) (aJ (PN.of (ak (dv 1) af))))
   (ai (bz (aK jz (dv 2) (dv 3) (aY _)) (al (aS (aJ (PN.of (rG rfl rfl T.b_list rfl T.b_range (aa (dv 2) (aa (dv 3) ag))))))) aW)
   (al (aS (aJ (PN.of (rH rfl rfl T.b_list rfl T.b_range (aa (au lD (dv 2) af) (aa (au lD (dv 3) af) (aa (iD af) ag))))))))))))
noncomputable abbrev o_:Stmt:=top 16
noncomputable abbrev oa:List Str:=["line","trains"]
@[irreducible] noncomputable def n7 (K:W.Frag)(CL:Addr)(Y:Ad):DS→Out:=(ay (dn (fY (gw (kI 1) (c1 (ac 1) bj) (kI 5) qP qP)) bad1 nxt)
  (br (bc (sL (ac 1)) [none,some 0] (bD 0) yes (bv (pC (ac 1) (pC (ac 0) pN)) (qe K CL Y)))))
noncomputable def d6 (K:W.Frag)(CL:Addr)(Y:Ad):List D→Res D:=iS 2 oa (n7 K CL Y)
theorem yZ:FnScope oa ["line","trains"] (ah o_):=⟨rfl,rfl,rfl,by decide +kernel,rfl,by decide +kernel,by decide +kernel⟩
theorem jd (T:Txt K mg CL Y)(S:Sta K mg "ways" o_ ["line","trains"])(uX:Cal P w K mg base "way" 3 ["line","train"] (freshSp K 0 (qe K CL Y))):Cal P w K mg base "ways" 4 ["line","trains"] (freshSp K 0 (d6 K CL Y)):=by
 refine S.cal (k:=3) (r:=0) (F:=n7 K CL Y) yZ [] (by decide) rfl fun f V A m s H E Q=> ?_
 unfold n7
 exact (ai (bz (bZ (eG gR gR af (aR T.b_len (dv 1)) (qk T.mT))) (al dW) aW)
   (al (aS (aJ (PN.of (PN.pd (cf (j:=0) rfl (bf (N:=["train","line"]) (caps:=[none,some 0]) (ah o_) oa rfl rfl (by decide +kernel)) rfl rfl rfl (b4 (dv 1)) (fun _ _ _ _=>bn) (fun _ _ _ _=>(PN.of (aD uX Q (aa (dv 1) (aa (dv 0) ag)) dU))))))))))
noncomputable abbrev gN:Stmt:=top 26
noncomputable abbrev gn:List Str:=["paths","table","stretch","entries","train","path","entered","minute"]
noncomputable abbrev cG:List Nat:=[0,0,0,1,0,0,0,0]
@[irreducible] noncomputable def ef (K:W.Frag)(CL:Addr)(Y:Ad):DS→Out:=(ay (aQ 3 (cE cG (cw pN)))
  (ay (dY (Cu cG (sE (pC (ac 0) pN))) (iR 4 5) (dY (Cu cG (sZ (pC (ac 5) (pC (ae (ac 1) (ac 4) av) pN)))) (iR 6 7) (dn (cQ (ae (ac 6) (ac 2) nh)) (fS 3 (cE cG (jV (pC (ac 7) (pC (ac 4) pN))))) nxt)))
  (br (fW 1 (c1 (ac 3) cq)))))
noncomputable def bF (K:W.Frag)(CL:Addr)(Y:Ad):List D→Res D:=iS 3 gn (ef K CL Y)
theorem sc_entries_on:FnScope gn ["paths","table","stretch"] (ah gN):=⟨rfl,rfl,rfl,by decide +kernel,rfl,by decide +kernel,by decide +kernel⟩
theorem c_ (T:Txt K mg CL Y)(S:Sta K mg "entries_on" gN ["paths","table","stretch"]):Cal P w K mg base "entries_on" 1 ["paths","table","stretch"] (freshSp K 0 (bF K CL Y)):=by
 refine S.cal (k:=0) (r:=0) (F:=ef K CL Y) sc_entries_on cG (by decide) rfl fun f V A m s H E Q=> ?_
 unfold ef
 exact (ai (aH (i:=3) sc_entries_on.nd rfl (.inl rfl) (aB (jq ag)))
   (ai (iP (j:=4) (k:=5) PassesOwn.leaving rfl sc_entries_on.nd rfl rfl (.inl rfl) (.inl rfl) rfl rfl (pj (ma rfl T.b_enumerate (aa (dv 0) ag)))
    (al (iP (j:=6) (k:=7) PassesOwn.leaving rfl sc_entries_on.nd rfl rfl (.inl rfl) (.inl rfl) rfl rfl (pj (lu rfl T.b_zip (aa (dv 5) (aa (ak (dv 1) (dv 4)) ag))))
    (al (bz (aK (iY Q.units) (dv 6) (dv 2) (aY _)) (al (eI (j:=3) (n:=0) rfl rfl (.inl rfl) (aB (PN.of (iE (aa (dv 7) (aa (dv 4) ag))))))) aW)))))
   (al (aS (PZ.zero (b0 (qr T.b_sorted (dv 3))))))))
noncomputable abbrev fg:Stmt:=top 22
noncomputable abbrev eK:List Str:=["paths","table"]
@[irreducible] noncomputable def gd (K:W.Frag)(CL:Addr)(Y:Ad):DS→Out:=(br (ae (bc (sL (ac 1)) [none] (bD 0) yes (c1 (ac 0) bj)) (bc (sL (ac 0)) [none] (bD 0) yes (c1 (ac 0) bj)) nh))
noncomputable def eW (K:W.Frag)(CL:Addr)(Y:Ad):List D→Res D:=iS 2 eK (gd K CL Y)
theorem qD:FnScope eK ["paths","table"] (ah fg):=⟨rfl,rfl,rfl,by decide +kernel,rfl,by decide +kernel,by decide +kernel⟩
theorem jb (T:Txt K mg CL Y)(S:Sta K mg "is_whole" fg ["paths","table"]):Cal P w K mg base "is_whole" 1 ["paths","table"] (freshSp K 0 (eW K CL Y)):=by
 refine S.cal (k:=0) (r:=0) (F:=gd K CL Y) qD [] (by decide) rfl fun f V A m s H E Q=> ?_
 unfold gd
 exact (al (aS (aJ (PN.of (Bo (iY Q.units) (PN.pd (cf (j:=0) rfl (bf (N:=["row"]) (caps:=[none]) (ah fg) eK rfl rfl (by decide +kernel)) rfl rfl rfl (b4 (dv 1)) (fun _ _ _ _=>bn) (fun _ _ _ _=>(PN.of (aR T.b_len (dv 0)))))) (PN.pd (cf (j:=0) rfl (bf (N:=["path"]) (caps:=[none]) (ah fg) eK rfl rfl (by decide +kernel)) rfl rfl rfl (b4 (dv 0)) (fun _ _ _ _=>bn) (fun _ _ _ _=>(PN.of (aR T.b_len (dv 0)))))) (aY _))))))
noncomputable abbrev fN:Stmt:=top 23
noncomputable abbrev fD:List Str:=["line","trains","paths","table","runs","train","path","soonest","stretch","minute"]
@[irreducible] noncomputable def dF (K:W.Frag)(CL:Addr)(Y:Ad):DS→Out:=(ay (aQ 4 (iz CL "runs" (ac 0) (eU CL)))
  (ay (dY (sE (pC (ac 2) pN)) (iR 5 6) (ay (aQ 7 (ae (ae (ac 1) (ac 5) av) (kI 2) av))
  (dY (sZ (pC (ac 6) (pC (ae (ac 3) (ac 5) av) pN))) (iR 8 9) (ay (dn (cQ (ae (ac 9) (ac 7) qd)) (br (kB false)) nxt)
  (aQ 7 (ae (ac 9) (ae (ac 4) (ac 8) av) a_))))))
  (br (kB true))))
noncomputable def cF (K:W.Frag)(CL:Addr)(Y:Ad):List D→Res D:=iS 4 fD (dF K CL Y)
theorem sc_all_in_time:FnScope fD ["line","trains","paths","table"] (ah fN):=⟨rfl,rfl,rfl,by decide +kernel,rfl,by decide +kernel,by decide +kernel⟩
theorem fI (T:Txt K mg CL Y)(S:Sta K mg "all_in_time" fN ["line","trains","paths","table"])(c_runs:CalM P w K mg base CL "runs" 1 (eU CL)):Cal P w K mg base "all_in_time" 2 ["line","trains","paths","table"] (freshSp K 0 (cF K CL Y)):=by
 refine S.cal (k:=1) (r:=0) (F:=dF K CL Y) sc_all_in_time [] (by decide) rfl fun f V A m s H E Q=> ?_
 unfold dF
 exact (ai (aH (i:=4) sc_all_in_time.nd rfl (.inl rfl) (aJ (PN.of (nO c_runs Q (dv 0)))))
   (ai (iP (j:=5) (k:=6) PassesOwn.leaving rfl sc_all_in_time.nd rfl rfl (.inl rfl) (.inl rfl) rfl rfl (kA (ma rfl T.b_enumerate (aa (dv 2) ag)))
    (ai (aH (i:=7) sc_all_in_time.nd rfl (.inl rfl) (aJ (PN.of (ak (ak (dv 1) (dv 5)) af))))
   (al (iP (j:=8) (k:=9) PassesOwn.leaving rfl sc_all_in_time.nd rfl rfl (.inl rfl) (.inl rfl) rfl rfl (kA (lu rfl T.b_zip (aa (dv 6) (aa (ak (dv 3) (dv 5)) ag))))
    (ai (bz (aK jz (dv 9) (dv 7) (aY _)) (al (aS (aJ (PN.of bJ)))) aW)
   (al (aH (i:=7) sc_all_in_time.nd rfl (.inl rfl) (aJ (PN.of (au aC (dv 9) (ak (dv 4) (dv 8))))))))))))
   (al (aS (aJ (PN.of bJ))))))
noncomputable abbrev iI:Stmt:=top 24
noncomputable abbrev hG:List Str:=["line","paths","table","gap","stretch","run","entries","ahead","behind"]
@[irreducible] noncomputable def fq (K:W.Frag)(CL:Addr)(Y:Ad):DS→Out:=(ay (aQ 3 (iz CL "clear" (ac 0) (jn CL)))
  (ay (dY (sE (pC (iz CL "runs" (ac 0) (eU CL)) pN)) (iR 4 5) (ay (aQ 6 (bv (pC (ac 1) (pC (ac 2) (pC (ac 4) pN))) (bF K CL Y)))
  (dY (sZ (pC (ac 6) (pC (Eb (ac 6) (oI (kI 1)) oN) pN))) (iR 7 8) (dn (cQ (ae (ae (ac 8) (kI 0) av) (ae (ae (ae (ac 7) (kI 0) av) (ac 5) a_) (ac 3) a_) qd)) (br (kB false)) nxt))))
  (br (kB true))))
noncomputable def dR (K:W.Frag)(CL:Addr)(Y:Ad):List D→Res D:=iS 3 hG (fq K CL Y)
theorem sc_all_apart:FnScope hG ["line","paths","table"] (ah iI):=⟨rfl,rfl,rfl,by decide +kernel,rfl,by decide +kernel,by decide +kernel⟩
theorem h_ (T:Txt K mg CL Y)(S:Sta K mg "all_apart" iI ["line","paths","table"])(c_:Cal P w K mg base "entries_on" 1 ["paths","table","stretch"] (freshSp K 0 (bF K CL Y)))(c_runs:CalM P w K mg base CL "runs" 1 (eU CL))(c_clear:CalM P w K mg base CL "clear" 1 (jn CL)):Cal P w K mg base "all_apart" 2 ["line","paths","table"] (freshSp K 0 (dR K CL Y)):=by
 refine S.cal (k:=1) (r:=0) (F:=fq K CL Y) sc_all_apart [] (by decide) rfl fun f V A m s H E Q=> ?_
 unfold fq
 exact (ai (aH (i:=3) sc_all_apart.nd rfl (.inl rfl) (aJ (PN.of (nO c_clear Q (dv 0)))))
   (ai (iP (j:=4) (k:=5) PassesOwn.leaving rfl sc_all_apart.nd rfl rfl (.inl rfl) (.inl rfl) rfl rfl (kA (ma rfl T.b_enumerate (aa (nO c_runs Q (dv 0)) ag)))
    (ai (aH (i:=6) sc_all_apart.nd rfl (.inl rfl) (aJ (PN.of (aD c_ Q (aa (dv 1) (aa (dv 2) (aa (dv 4) ag)))))))
   (al (iP (j:=7) (k:=8) PassesOwn.leaving rfl sc_all_apart.nd rfl rfl (.inl rfl) (.inl rfl) rfl rfl (kA (lu rfl T.b_zip (aa (dv 6) (aa (ql (dv 6) (qo af) qm) ag))))
    (al (bz (aK jz (ak (dv 8) af) (au aC (au aC (ak (dv 7) af) (dv 5)) (dv 3)) (aY _)) (al (aS (aJ (PN.of bJ)))) aW))))))
   (al (aS (aJ (PN.of bJ))))))
noncomputable abbrev o3:Stmt:=top 18
noncomputable abbrev n_:List Str:=["line","trains","table","paths"]
@[irreducible] noncomputable def li (K:W.Frag)(CL:Addr)(Y:Ad):DS→Out:=(ay (aQ 3 (bv (pC (ac 0) (pC (ac 1) pN)) (d6 K CL Y)))
  (ay (dn (fY (cQ (bv (pC (ac 3) (pC (ac 2) pN)) (eW K CL Y)))) (br (kB false)) nxt)
  (br (xo (bv (pC (ac 0) (pC (ac 1) (pC (ac 3) (pC (ac 2) pN)))) (cF K CL Y)) (bv (pC (ac 0) (pC (ac 3) (pC (ac 2) pN))) (dR K CL Y))))))
noncomputable def jL (K:W.Frag)(CL:Addr)(Y:Ad):List D→Res D:=iS 3 n_ (li K CL Y)
theorem sc_keeps:FnScope n_ ["line","trains","table"] (ah o3):=⟨rfl,rfl,rfl,by decide +kernel,rfl,by decide +kernel,by decide +kernel⟩
theorem oi (T:Txt K mg CL Y)(S:Sta K mg "keeps" o3 ["line","trains","table"])(h_:Cal P w K mg base "all_apart" 2 ["line","paths","table"] (freshSp K 0 (dR K CL Y)))(fI:Cal P w K mg base "all_in_time" 2 ["line","trains","paths","table"] (freshSp K 0 (cF K CL Y)))(jb:Cal P w K mg base "is_whole" 1 ["paths","table"] (freshSp K 0 (eW K CL Y)))(jd:Cal P w K mg base "ways" 4 ["line","trains"] (freshSp K 0 (d6 K CL Y))):Cal P w K mg base "keeps" 5 ["line","trains","table"] (freshSp K 0 (jL K CL Y)):=by
 refine S.cal (k:=4) (r:=0) (F:=li K CL Y) sc_keeps [] (by decide) rfl fun f V A m s H E Q=> ?_
 unfold li
 exact (ai (aH (i:=3) sc_keeps.nd rfl (.inl rfl) (aJ (PN.of (aD jd Q (aa (dv 0) (aa (dv 1) ag))))))
   (ai (bz (bZ (eC (aD jb Q (aa (dv 3) (aa (dv 2) ag))))) (al (aS (aJ (PN.of bJ)))) aW)
   (al (aS (aJ (PN.of (vZ (aD fI Q (aa (dv 0) (aa (dv 1) (aa (dv 3) (aa (dv 2) ag))))) (wa (aD h_ Q (aa (dv 0) (aa (dv 3) (aa (dv 2) ag))))))))))))
noncomputable abbrev fO:Stmt:=top 21
noncomputable abbrev fE:List Str:=["line","trains","table"]
@[irreducible] noncomputable def dG (K:W.Frag)(CL:Addr)(Y:Ad):DS→Out:=(dn (fY (cQ (bv (pC (ac 0) (pC (ac 1) (pC (ac 2) pN))) (jL K CL Y)))) (fL Y.BT fun _=>true) nxt)
noncomputable def bP (K:W.Frag)(CL:Addr)(Y:Ad):List D→Res D:=iS 3 fE (dG K CL Y)
theorem mv:FnScope fE ["line","trains","table"] (ah fO):=⟨rfl,rfl,rfl,by decide +kernel,rfl,by decide +kernel,by decide +kernel⟩
theorem cC (T:Txt K mg CL Y)(S:Sta K mg "check_table" fO ["line","trains","table"])(oi:Cal P w K mg base "keeps" 5 ["line","trains","table"] (freshSp K 0 (jL K CL Y))):Cal P w K mg base "check_table" 6 ["line","trains","table"] (freshSp K 0 (bP K CL Y)):=by
 refine S.cal (k:=5) (r:=0) (F:=dG K CL Y) mv [] (by decide) rfl fun f V A m s H E Q=> ?_
 unfold dG
 exact (al (bz (bZ (eC (aD oi Q (aa (dv 0) (aa (dv 1) (aa (dv 2) ag)))))) (al (wu (DW T.xBT))) aW))
noncomputable abbrev gO:Stmt:=top 25
noncomputable abbrev gq:List Str:=["paths","table","stretch"]
@[irreducible] noncomputable def gi (K:W.Frag)(CL:Addr)(Y:Ad):DS→Out:=(br (bc (sL (bv (pC (ac 0) (pC (ac 1) (pC (ac 2) pN))) (bF K CL Y))) [none] (bD 0) yes (ae (ac 0) (kI 1) av)))
noncomputable def eX (K:W.Frag)(CL:Addr)(Y:Ad):List D→Res D:=iS 3 gq (gi K CL Y)
theorem qE:FnScope gq ["paths","table","stretch"] (ah gO):=⟨rfl,rfl,rfl,by decide +kernel,rfl,by decide +kernel,by decide +kernel⟩
theorem jc (T:Txt K mg CL Y)(S:Sta K mg "order_on" gO ["paths","table","stretch"])(c_:Cal P w K mg base "entries_on" 1 ["paths","table","stretch"] (freshSp K 0 (bF K CL Y))):Cal P w K mg base "order_on" 2 ["paths","table","stretch"] (freshSp K 1 (eX K CL Y)):=by
 refine S.cal (k:=1) (r:=1) (F:=gi K CL Y) qE [] (by decide) rfl fun f V A m s H E Q=> ?_
 unfold gi
 exact (al (aS (aJ (cf (j:=0) rfl (bf (N:=["entry"]) (caps:=[none]) (ah gO) gq rfl rfl (by decide +kernel)) rfl rfl rfl (b4 (aD c_ Q (aa (dv 0) (aa (dv 1) (aa (dv 2) ag))))) (fun _ _ _ _=>bn) (fun _ _ _ _=>(PN.of (ak (dv 0) af)))))))
noncomputable abbrev fC:Stmt:=top 19
noncomputable abbrev fv:List Str:=["line","trains","table","paths"]
@[irreducible] noncomputable def fu (K:W.Frag)(CL:Addr)(Y:Ad):DS→Out:=(ay (pU (bv (pC (ac 0) (pC (ac 1) (pC (ac 2) pN))) (bP K CL Y)))
  (ay (aQ 3 (bv (pC (ac 0) (pC (ac 1) pN)) (d6 K CL Y)))
  (br (bc (sR1 (pC (c1 (iz CL "runs" (ac 0) (eU CL)) bj) pN)) [none,some 3,some 2] (bD 0) yes (bv (pC (ac 1) (pC (ac 2) (pC (ac 0) pN))) (eX K CL Y))))))
noncomputable def dS (K:W.Frag)(CL:Addr)(Y:Ad):List D→Res D:=iS 3 fv (fu K CL Y)
theorem sc_orders_of:FnScope fv ["line","trains","table"] (ah fC):=⟨rfl,rfl,rfl,by decide +kernel,rfl,by decide +kernel,by decide +kernel⟩
theorem ie (T:Txt K mg CL Y)(S:Sta K mg "orders_of" fC ["line","trains","table"])(cC:Cal P w K mg base "check_table" 6 ["line","trains","table"] (freshSp K 0 (bP K CL Y)))(jc:Cal P w K mg base "order_on" 2 ["paths","table","stretch"] (freshSp K 1 (eX K CL Y)))(jd:Cal P w K mg base "ways" 4 ["line","trains"] (freshSp K 0 (d6 K CL Y)))(c_runs:CalM P w K mg base CL "runs" 1 (eU CL)):Cal P w K mg base "orders_of" 7 ["line","trains","table"] (freshSp K 2 (dS K CL Y)):=by
 refine S.cal (k:=6) (r:=2) (F:=fu K CL Y) sc_orders_of [] (by decide) rfl fun f V A m s H E Q=> ?_
 unfold fu
 exact (ai (oT (aD cC Q (aa (dv 0) (aa (dv 1) (aa (dv 2) ag)))))
   (ai (aH (i:=3) sc_orders_of.nd rfl (.inr rfl) (aJ (PN.of (aD jd Q (aa (dv 0) (aa (dv 1) ag))))))
   (al (aS (aJ (cf (j:=0) rfl (bf (N:=["stretch","paths","table"]) (caps:=[none,some 3,some 2]) (ah fC) fv rfl rfl (by decide +kernel)) rfl rfl rfl (e9 rfl T.b_range (aa (aR T.b_len (nO c_runs Q (dv 0))) ag)) (fun _ _ _ _=>bn) (fun _ _ _ _=>(qq (n:=1) jc Q (aa (dv 1) (aa (dv 2) (aa (dv 0) ag))) dU))))))))
noncomputable abbrev dm:Stmt:=top 20
noncomputable abbrev cX:List Str:=["line","trains","table","runs"]
@[irreducible] noncomputable def cU (K:W.Frag)(CL:Addr)(Y:Ad):DS→Out:=(ay (pU (bv (pC (ac 0) (pC (ac 1) (pC (ac 2) pN))) (bP K CL Y)))
  (ay (aQ 3 (iz CL "runs" (ac 0) (eU CL)))
  (br (c1 (bc (sZ (pC (bv (pC (ac 0) (pC (ac 1) pN)) (d6 K CL Y)) (pC (ac 2) pN))) [none,none,some 3] (iR 0 1) yes (ae (ae (ac 1) (nG (kI 1)) av) (ae (ac 2) (ae (ac 0) (nG (kI 1)) av) av) a_)) l8))))
noncomputable def cn (K:W.Frag)(CL:Addr)(Y:Ad):List D→Res D:=iS 3 cX (cU K CL Y)
theorem sc_last_arrival:FnScope cX ["line","trains","table"] (ah dm):=⟨rfl,rfl,rfl,by decide +kernel,rfl,by decide +kernel,by decide +kernel⟩
theorem eM (T:Txt K mg CL Y)(S:Sta K mg "last_arrival" dm ["line","trains","table"])(cC:Cal P w K mg base "check_table" 6 ["line","trains","table"] (freshSp K 0 (bP K CL Y)))(jd:Cal P w K mg base "ways" 4 ["line","trains"] (freshSp K 0 (d6 K CL Y)))(c_runs:CalM P w K mg base CL "runs" 1 (eU CL)):Cal P w K mg base "last_arrival" 7 ["line","trains","table"] (freshSp K 0 (cn K CL Y)):=by
 refine S.cal (k:=6) (r:=0) (F:=cU K CL Y) sc_last_arrival [] (by decide) rfl fun f V A m s H E Q=> ?_
 unfold cU
 exact (ai (oT (aD cC Q (aa (dv 0) (aa (dv 1) (aa (dv 2) ag)))))
   (ai (aH (i:=3) sc_last_arrival.nd rfl (.inr rfl) (aJ (PN.of (nO c_runs Q (dv 0)))))
   (al (aS (aJ (PN.of (sX T.b_max (PN.pd (wy (j:=0) (l:=1) rfl (bf (N:=["path","row","runs"]) (caps:=[none,none,some 3]) (ah dm) cX rfl rfl (by decide +kernel)) rfl rfl rfl rfl rfl rfl (lu rfl T.b_zip (aa (aD jd Q (aa (dv 0) (aa (dv 1) ag))) (aa (dv 2) ag))) (fun _ _ _ _=>bn) (fun _ _ _ _=>(PN.of (au aC (ak (dv 1) (iD af)) (ak (dv 2) (ak (dv 0) (iD af)))))))))))))))
noncomputable abbrev iH:Stmt:=top 39
noncomputable abbrev hE:List Str:=["line","trains","table","mode","found","e","marks"]
noncomputable abbrev eA:List Nat:=[0,0,0,0,2,0,2]
@[irreducible] noncomputable def fm (K:W.Frag)(CL:Addr)(Y:Ad):DS→Out:=(ay (iU 5 [Y.BT] (dn (cQ (ae (ac 3) (kI 0) nh)) (aQ 4 (fW 2 (bv (pC (ac 0) (pC (ac 1) (pC (ac 2) pN))) (dS K CL Y)))) (aQ 4 (fW 0 (bv (pC (ac 0) (pC (ac 1) (pC (ac 2) pN))) (cn K CL Y))))) (ay (aQ 6 (cE eA (cw (pC (fW 0 (fun ρ=>((ac 5) ρ).bind (ej K (cV (.ref Y.BT))))) (pC (fW 0 (fun ρ=>((ac 5) ρ).bind (ej K (cV (.ty "ValueError"))))) (pC (fW 0 (fun ρ=>((ac 5) ρ).bind (ej K (cV (.ref Y.BO))))) (pC (fW 0 (fun ρ=>((ac 5) ρ).bind (ej K (cV (.ref Y.BR))))) pN)))))))
  (br (i6 (cE eA (fW 1 (fW 0 kN))) (ac 6)))))
  (br (i6 (ac 4) (cE eA (cw pN)))))
noncomputable def bX (K:W.Frag)(CL:Addr)(Y:Ad):List D→Res D:=iS 4 hE (fm K CL Y)
theorem sc__law_told:FnScope hE ["line","trains","table","mode"] (ah iH):=⟨rfl,rfl,rfl,by decide +kernel,rfl,by decide +kernel,by decide +kernel⟩
theorem hZ (T:Txt K mg CL Y)(S:Sta K mg "_law_told" iH ["line","trains","table","mode"])(eM:Cal P w K mg base "last_arrival" 7 ["line","trains","table"] (freshSp K 0 (cn K CL Y)))(ie:Cal P w K mg base "orders_of" 7 ["line","trains","table"] (freshSp K 2 (dS K CL Y))):Cal P w K mg base "_law_told" 8 ["line","trains","table","mode"] (freshSp K 3 (bX K CL Y)):=by
 refine S.cal (k:=7) (r:=3) (F:=fm K CL Y) sc__law_told eA (by decide) rfl fun f V A m s H E Q=> ?_
 unfold fm
 exact (ai (BB (i:=5) (cs:=[Y.BT]) sc__law_told.nd rfl rfl rfl T.gHE rfl rfl T.hs (BF (fun _ _=>(aK (iY Q.units) (dv 3) af (aY _))) (A_ (sV d7 Ba Aa)) (tB (i:=4) (dd:=0) sc__law_told.nd rfl rfl rfl ie Q (fun _ _=>(aa (dv 0) (aa (dv 1) (aa (dv 2) ag)))) (nI d7 (nI d7 (nI d7 zC)))) (tB (i:=4) (dd:=2) sc__law_told.nd rfl rfl rfl eM Q (fun _ _=>(aa (dv 0) (aa (dv 1) (aa (dv 2) ag)))) (nI d7 (nI d7 (nI d7 zC))))) (fun _ _=>(ai (aH (i:=6) sc__law_told.nd rfl (.inl rfl) (aB (lv (f5 (PN.up (PN.of (kM T.b_isinstance (dv 5) (rL T.gBT)))) (f5 (PN.up (PN.of (kM T.b_isinstance (dv 5) (wh T.b_ValueError Cj)))) (f5 (PN.up (PN.of (kM T.b_isinstance (dv 5) (rL T.gBO)))) (f5 (PN.up (PN.of (kM T.b_isinstance (dv 5) (rL T.gBR)))) lw)))))))
   (al (wv (n:=1) (j:=6) (aB (PN.up (PN.up (PN.of rJ)))) rfl rfl (.inl rfl))))))
   (al (ww (n:=1) (j:=4) rfl rfl (.inl rfl) (aB (lv lw)))))
noncomputable abbrev gU:Stmt:=top 41
noncomputable abbrev kC:List Str:=["script","made","trains","table","k","handed","line","lap","told","last","due","row"]
noncomputable abbrev bQ:List Nat:=[0,0,0,2,0,0,0,0,4,0,0,0]
@[irreducible] noncomputable def si (K:W.Frag)(CL:Addr)(Y:Ad):DS→Out:=(ay (aQ 1 (cE bQ (bv (pC (ac 0) (pC (kI 0) pN)) (ck K CL Y))))
  (ay (aQ 2 (cE bQ (bv (pC (ac 0) (pC (kI 20) (pC (c1 (ae (ac 1) (kI 0) av) bj) (pC (kI 5) pN)))) (bI K CL Y))))
  (ay (aQ 3 (cE bQ (bv (pC (ae (ac 1) (kI 0) av) (pC (ae (ac 1) (kI 1) av) (pC (ac 2) pN))) (bN K CL Y))))
  (ay (aQ 4 (fW 0 (bv (pC (ac 0) (pC (kI 101) (pC (c1 (ac 3) bj) pN))) (ap K CL Y))))
  (ay (mx 3 (ac 4) (fW 1 (bc (sL (ae (ac 3) (ac 4) av)) [none,some 0] (bD 0) yes (ae (ac 0) (bv (pC (ac 1) (pC (kI 102) (pC (kI 50) pN))) (ap K CL Y)) a_))))
  (ay (dn (cQ (ae (bv (pC (ac 0) (pC (kI 103) (pC (kI 3) pN))) (ap K CL Y)) (kI 1) nh)) (kD bQ 3 (ac 0) (pC (ac 4) pN) (b6 K CL Y)) nxt)
  (ay (aQ 5 (fW 3 (cw (pC (fW 1 (bv (Ca (ac 2)) dQ)) (pC (bc (sL (ac 3)) [none] (bD 0) yes (bv (Ca (ac 0)) dQ)) pN)))))
  (ay (aQ 6 (cE bQ (bv (pC (ae (ac 1) (kI 0) av) (pC (ae (ac 1) (kI 1) av) pN)) (i5 K CL Y))))
  (ay (dY (sR1 (pC (kI 2) pN)) (bD 7) (ay (aQ 8 (cE bQ (bc (sR1 (pC (kI 2) pN)) [none,some 6,some 5] (bD 0) yes (bv (pC (ac 1) (pC (ae (ac 2) (kI 0) av) (pC (ae (ac 2) (kI 1) av) (pC (ac 0) pN)))) (bX K CL Y)))))
  (ay (dn (cQ (ae (ac 5) (cw (pC (ac 2) (pC (ac 3) pN))) k9)) (br (cE bQ (kB false))) nxt)
  (dn (fY (cQ (bv (pC (ae (ac 1) (kI 0) av) (pC (ae (ac 1) (kI 1) av) (pC (ac 2) (pC (ac 3) pN)))) (cN K CL Y)))) (dn (cQ (ae (ac 8) (cw (pC (jV (pC kN (pC (cw (pC (kB true) (pC (kB true) (pC (kB false) (pC (kB false) pN))))) pN))) (pC (jV (pC kN (pC (cw (pC (kB true) (pC (kB true) (pC (kB false) (pC (kB false) pN))))) pN))) pN))) k9)) (br (cE bQ (kB false))) nxt) (ay (aQ 9 (fW 0 (c1 (bc (sR1 (pC (c1 (ac 2) bj) pN)) [none,some 3,some 1,some 2] (bD 0) yes (ae (ae (ae (ac 1) (ac 0) av) (nG (kI 1)) av) (ae (ae (ac 2) (kI 0) av) (ae (bv (pC (ae (ac 3) (ac 0) av) pN) (aF K CL Y)) (nG (kI 1)) av) av) a_)) l8)))
  (ay (aQ 10 (fW 2 (bv (pC (ae (ac 1) (kI 0) av) (pC (ac 2) (pC (ac 3) pN))) (b5 K CL Y))))
  (ay (dn (vW (cQ (ae (ae (ae (ac 8) (kI 0) av) (kI 1) av) (cw pN) k9)) (vW (cQ (ae (ae (ae (ac 8) (kI 1) av) (kI 1) av) (cw pN) k9)) (fY (cQ (bv (pC (ae (ae (ac 8) (kI 0) av) (kI 0) av) (pC (ac 10) pN)) (cm K CL Y)))))) (br (cE bQ (kB false))) nxt)
  (ay (dn (vW (fY (cQ (bv (pC (ae (ae (ac 8) (kI 1) av) (kI 0) av) pN) (bO K CL Y)))) (cQ (ae (ae (ae (ac 8) (kI 1) av) (kI 0) av) (ac 9) k9))) (br (cE bQ (kB false))) nxt)
  (ay (jk 8 11 2 9 (kW 8 1 (kW 8 0 (zl 8) (kI 0)) (kI 0)))
  (dn (cQ (ae (ae (ae (ac 8) (kI 0) av) (kI 0) av) (bc (sL (ac 10)) [none] (bD 0) yes (ae (ac 0) (cw (pC (kI 9) pN)) a_)) k9)) (br (cE bQ (kB false))) nxt))))))))))
  (br (cE bQ (kB true))))))))))))
noncomputable def vL (K:W.Frag)(CL:Addr)(Y:Ad):List D→Res D:=iS 1 kC (si K CL Y)
theorem sc_law:FnScope kC ["script"] (ah gU):=⟨rfl,rfl,rfl,by decide +kernel,rfl,by decide +kernel,by decide +kernel⟩
theorem Ck {f:Addr}{fd:FuncData}(T:Txt K mg CL Y)(Fn:Fun K "law" "law" gU f fd)(ax:Cal P w K mg base "_law_drawn" 1 ["script","k","many"] (freshSp K 0 (ap K CL Y)))(cY:Cal P w K mg base "_law_first_come" 2 ["runs","gap","trains"] (freshSp K 2 (bN K CL Y)))(hW:Cal P w K mg base "_law_kept" 2 ["runs","gap","trains","table"] (freshSp K 0 (cN K CL Y)))(eL:Cal P w K mg base "_law_line_by" 2 ["script","base"] (freshSp K 0 (ck K CL Y)))(fG:Cal P w K mg base "_law_orders" 2 ["runs","trains","table"] (freshSp K 2 (b5 K CL Y)))(hX:Cal P w K mg base "_law_rows" 3 ["found","due"] (freshSp K 0 (cm K CL Y)))(fH:CalU P w K mg base "_law_spoilt" 2 ["script","table","k"] 2 (b6 K CL Y))(hZ:Cal P w K mg base "_law_told" 8 ["line","trains","table","mode"] (freshSp K 3 (bX K CL Y)))(du:Cal P w K mg base "_law_trains_by" 2 ["script","base","stretches","most"] (freshSp K 1 (bI K CL Y)))(bB:Cal P w K mg base "_law_way" 1 ["train"] (freshSp K 0 (aF K CL Y)))(cZ:Cal P w K mg base "_law_whole" 1 ["found"] (freshSp K 0 (bO K CL Y)))(c_Line:CalI P w K mg base "Line" CL 2 ["self","runs","clear"] (i5 K CL Y)):FnOk P w K mg base (CXF P w) 9 f fd ["script"] (freshSp K 0 (vL K CL Y)):=by
 refine Fn.freshM (k:=8) (r:=0) (F:=si K CL Y) sc_law bQ (by decide) rfl fun V A o s H E Q=> ?_
 unfold si
 exact (ai (aH (i:=1) sc_law.nd rfl (.inr rfl) (aB (PN.of (aD eL Q (aa (dv 0) (aa af ag))))))
   (ai (aH (i:=2) sc_law.nd rfl (.inr rfl) (aB (PN.of (aD du Q (aa (dv 0) (aa af (aa (aR T.b_len (ak (dv 1) af)) (aa af ag))))))))
   (ai (aH (i:=3) sc_law.nd rfl (.inr rfl) (aB (qq (n:=2) cY Q (aa (ak (dv 1) af) (aa (ak (dv 1) af) (aa (dv 2) ag))))))
   (ai (aH (i:=4) sc_law.nd rfl (.inl rfl) (b0 (PN.of (aD ax Q (aa (dv 0) (aa af (aa (aR T.b_len (dv 3)) ag)))))))
   (ai (oV (j:=3) (n:=1) rfl rfl (.inr (.inl rfl)) (dv 4) (b0 (cf (j:=0) rfl (bf (N:=["minute","script"]) (caps:=[none,some 0]) (ah gU) kC rfl rfl (by decide +kernel)) rfl rfl rfl (b4 (ak (dv 3) (dv 4))) (fun _ _ _ _=>bn) (fun _ _ _ _=>(PN.of (au aC (dv 0) (aD ax Q (aa (dv 1) (aa af (aa af ag))) dU)))))))
   (ai (bz (aK (iY Q.units) (aD ax Q (aa (dv 0) (aa af (aa af ag)))) af (aY _)) (al (wq (j:=3) fH Q rfl rfl (.inr (.inl rfl)) (dv 0) (aa (dv 4) ag))) aW)
   (ai (aH (i:=5) sc_law.nd rfl (.inr rfl) (PZ.zero (b0 (lv (f5 (PN.up (tu (dv 2) rfl T.b_list)) (f5 (cf (j:=0) rfl (bf (N:=["row"]) (caps:=[none]) (ah gU) kC rfl rfl (by decide +kernel)) rfl rfl rfl (b4 (dv 3)) (fun _ _ _ _=>bn) (fun _ _ _ _=>(tu (dv 0) rfl T.b_list))) lw))))))
   (ai (aH (i:=6) sc_law.nd rfl (.inr rfl) (aB (PN.of (DP c_Line Q (aa (ak (dv 1) af) (aa (ak (dv 1) af) ag))))))
   (ai (cr (j:=7) PassesOwn.leaving rfl sc_law.nd rfl (.inl rfl) rfl (bW rfl T.b_range (aa af ag))
    (ai (rQ (jQ sc_law.nd (i:=8) rfl rfl rfl (bf (N:=["mode","line","handed"]) (caps:=[none,some 6,some 5]) (ah gU) kC rfl rfl (by decide +kernel)) (j:=0) rfl rfl rfl (e9 rfl T.b_range (aa af ag)) (fun _ _ _ _=>bn) (fun _ _ _ _=>(qq (n:=3) hZ Q (aa (dv 1) (aa (ak (dv 2) af) (aa (ak (dv 2) af) (aa (dv 0) ag)))) dU))) rfl rfl)
   (ai (bz (aK (gS Q.units) (dv 5) (fK (aa (dv 2) (aa (dv 3) ag))) (aY _)) (al (aS (aB (PN.of bJ)))) aW)
   (al (bz (bZ (eC (aD hW Q (aa (ak (dv 1) af) (aa (ak (dv 1) af) (aa (dv 2) (aa (dv 3) ag))))))) (al (bz (aK (gS Q.units) (dv 8) (fK (aa (iE (aa rJ (aa (fK (aa bJ (aa bJ (aa bJ (aa bJ ag))))) ag))) (aa (iE (aa rJ (aa (fK (aa bJ (aa bJ (aa bJ (aa bJ ag))))) ag))) ag))) (aY _)) (al (aS (aB (PN.of bJ)))) aW)) (ai (aH (i:=9) sc_law.nd rfl (.inl rfl) (b0 (PN.of (sX T.b_max (PN.pd (cf (j:=0) rfl (bf (N:=["j","table","made","trains"]) (caps:=[none,some 3,some 1,some 2]) (ah gU) kC rfl rfl (by decide +kernel)) rfl rfl rfl (e9 rfl T.b_range (aa (aR T.b_len (dv 2)) ag)) (fun _ _ _ _=>bn) (fun _ _ _ _=>(PN.of (au aC (ak (ak (dv 1) (dv 0)) (iD af)) (ak (ak (dv 2) af) (ak (aD bB Q (aa (ak (dv 3) (dv 0)) ag) dU) (iD af))))))))))))
   (ai (aH (i:=10) sc_law.nd rfl (.inl rfl) (PZ.zero (b0 (qq (n:=2) fG Q (aa (ak (dv 1) af) (aa (dv 2) (aa (dv 3) ag)))))))
   (ai (bz (PDW.pt (km (aK (gS Q.units) (ak (ak (dv 8) af) af) (fK ag) (aY _)) (km (aK (gS Q.units) (ak (ak (dv 8) af) af) (fK ag) (aY _)) (jO (bZ (eC (aD hX Q (aa (ak (ak (dv 8) af) af) (aa (dv 10) ag))))))))) (al (aS (aB (PN.of bJ)))) aW)
   (ai (bz (PDW.pt (km (bZ (eC (aD cZ Q (aa (ak (ak (dv 8) af) af) ag)))) (jO (aK (gS Q.units) (ak (ak (dv 8) af) af) (dv 9) (aY _))))) (al (aS (aB (PN.of bJ)))) aW)
   (ai (ur (j:=8) (n:=2) (m:=0) (jr:=11) PassesOwn.leaving rfl rfl (by decide) sc_law.nd rfl (.inl rfl) (.inl rfl) (zm (n:=1) (m:=2) rfl (zm (n:=0) (m:=3) rfl (zR (j:=8) rfl (.inl rfl)) af) af))
   (al (bz (aK (gS Q.units) (ak (ak (dv 8) af) af) (PN.pd (cf (j:=0) rfl (bf (N:=["row"]) (caps:=[none]) (ah gU) kC rfl rfl (by decide +kernel)) rfl rfl rfl (b4 (dv 10)) (fun _ _ _ _=>bn) (fun _ _ _ _=>(PN.of (au aC (dv 0) (fK (aa af ag))))))) (aY _)) (al (aS (aB (PN.of bJ)))) aW))))))))))))
   (al (aS (aB (PN.of bJ)))))))))))))
end
end K03
set_option maxHeartbeats 1000000
namespace K03
open PySem L2
section
variable{K:W.Frag}{CL:Addr}{Y:Ad}
theorem cD {ns:List Int}{k many:Int}(h0:0≤k)(h1:k < 100000)(h2:0 < many)(h3:many < 100000):ap K CL Y [.scr ns,.int k,.int many]= .ok (.int (drawn ns k many)):=by
 unfold ap
 refine (b3 rfl).trans ?_
 have F:aA gj [D.scr ns,.int k,.int many]=[some (.scr ns),some (.int k),some (.int many),none,none]:=rfl
 rw [F]
 unfold d9
 have d:= @za ns k
 by_cases E:ns.length=0
 ·have H:decide (0 < (ns.length:Int))=false:=decide_eq_false (by omega)
  have b:cellOf ns k=7:=if_pos E
  have T:(7 * 48271+(k+1) * 7919+(ns.length:Int)) % 2147483647=mB ns k:=by unfold mB; rw [b]
  simp (disch:=omega) only [aL,ot,H,lI,ox,sA,T]
  rfl
 ·have H:decide (0 < (ns.length:Int))=true:=decide_eq_true (by omega)
  have c:=xx (k:=k) E
  have T:(cellOf ns k * 48271+(k+1) * 7919+(ns.length:Int)) % 2147483647=mB ns k:=rfl
  simp (disch:=omega) only [aL,ot,H,lI,ox,sA,As c,T]
  rfl
theorem qJ {i:Int}:bO K CL Y [.int i]= .ok (.bl true):=by
 unfold bO
 refine (b3 rfl).trans ?_
 have E:aA gk [D.int i]=[some (.int i)]:=rfl
 rw [E]
 unfold d_
 have T:ej K (cV (.ty "int")) (.int i)= .ok (.bl true):=by unfold ej BQ; dsimp only; rw [show cV (.ty "int")=Value.type "int" from rfl,lX]
 have t:ej K (cV (.ty "bool")) (.int i)= .ok (.bl false):=by unfold ej BQ; dsimp only; rw [show cV (.ty "bool")=Value.type "bool" from rfl,AU]
 simp only [aL,T,t]
theorem FQ {l:List D}:ej K (cV (.ty "list")) (.lst l)= .ok (.bl true):=by unfold ej BQ; dsimp only; rw [show cV (.ty "list")=Value.type "list" from rfl,lX]
theorem BH {ns:List Int}(h:ns.length < 1000000):eV K CL Y [.lst (ns.map D.int),.lst (ns.map D.int)]= .ok (.bl true):=by
 unfold eV
 refine (b3 rfl).trans ?_
 have E:aA i9 [D.lst (ns.map D.int),.lst (ns.map D.int)]=[some (.lst (ns.map D.int)),some (.lst (ns.map D.int)),none]:=rfl
 rw [E]
 unfold gb
 simp only [aL,FQ,fz,bne_self_eq_false,beq_self_eq_true,cb h]
 refine jF (fun l a=>(∀ d∈l,∃ i:Nat,i < ns.length∧d= .int i)∧∃ o,a=[some (.lst (ns.map D.int)),some (.lst (ns.map D.int)),o]) ⟨fun d H=> ?_,none,rfl⟩ (fun d m a j=> ?_) (fun S f=> ?_)
 ·obtain ⟨i,k,rfl⟩:=List.mem_map.mp H
  exact ⟨i,List.mem_range.mp k,rfl⟩
 ·refine cps fun PP G=> ?_
  obtain ⟨H,o,e⟩:=j
  subst e
  obtain ⟨i,k,rfl⟩:=H d (List.mem_cons_self ..)
  refine G ?_; clear G PP
  refine (yn _ _ rfl ?_ (fun x B=>H x (dt B)) (some (.int i)) rfl)
  have c:=bi (g:=D.int) (cS k)
  simp only [aL,c,qJ,beq_self_eq_true]
 ·obtain ⟨_,o,e⟩:=f
  subst e
  simp only [aL]
theorem yV {p:List (List Int)}(h:p.length < 1000000)(hr:∀ r∈p,r.length < 1000000):cm K CL Y [.lst (p.map fun r=> .lst (r.map D.int)),.lst (p.map fun r=> .lst (r.map D.int))]= .ok (.bl true):=by
 unfold cm
 refine (b3 rfl).trans ?_
 have E:aA hD [D.lst (p.map fun r=> .lst (r.map D.int)),.lst (p.map fun r=> .lst (r.map D.int))]=[some (.lst (p.map fun r=> .lst (r.map D.int))),some (.lst (p.map fun r=> .lst (r.map D.int))),none]:=rfl
 rw [E]
 unfold fk
 simp only [aL,FQ,cb h]
 refine jF (fun m a=>(∀ d∈m,∃ i:Nat,i < p.length∧d= .int i)∧∃ o,a=[some (.lst (p.map fun r=> .lst (r.map D.int))),some (.lst (p.map fun r=> .lst (r.map D.int))),o]) ⟨fun d H=> ?_,none,rfl⟩ (fun d f a j=> ?_) (fun S k=> ?_)
 ·obtain ⟨i,l,rfl⟩:=List.mem_map.mp H
  exact ⟨i,List.mem_range.mp l,rfl⟩
 ·refine cps fun PP G=> ?_
  obtain ⟨H,o,e⟩:=j
  subst e
  obtain ⟨i,l,rfl⟩:=H d (List.mem_cons_self ..)
  refine G ?_; clear G PP
  refine (yn _ _ rfl ?_ (fun x B=>H x (dt B)) (some (.int i)) rfl)
  have c:=bi (g:=fun r:List Int=>D.lst (r.map D.int)) (cS l)
  simp only [aL,c,BH (hr _ (List.getElem_mem l))]
 ·obtain ⟨_,o,e⟩:=k
  subst e
  simp only [aL]
theorem DT {k:Int}(h:0≤k∧k < 2):∃ v:Int,(v=4∨v=20)∧av (.lst [.int 4,.int 20]) (.int k)= .ok (.int v):=by
 rcases (show k=0∨k=1 by omega) with rfl | rfl
 ·exact ⟨4,.inl rfl,nj⟩
 ·exact ⟨20,.inr rfl,nk⟩
theorem DU {k:Int}(h:0≤k∧k < 3):∃ v:Int,1≤v∧v≤61∧av (.lst [.int 1,.int 9,.int 61]) (.int k)= .ok (.int v):=by
 rcases (show k=0∨k=1∨k=2 by omega) with rfl | rfl | rfl
 ·exact (iZ 1 (by omega) (by omega) nj)
 ·exact (iZ 9 (by omega) (by omega) nk)
 ·exact (iZ 61 (by omega) (by omega) (ji (hV (by decide) rfl)))
structure GoodLine (rs:List Int)(g:Int):Prop where
 one:1≤rs.length
 few:rs.length≤5
 run:∀ r∈rs,1≤r∧r≤20
 gap:0≤g∧g≤5
theorem ui {ns:List Int}{base:Int}(h0:0≤base)(h1:base < 1000):∃ rs g,GoodLine rs g∧ck K CL Y [.scr ns,.int base]= .ok (.tup [.lst (rs.map D.int),.int g]):=by
 have Z:=eh (ns:=ns) (k:=base) (many:=5) (by omega)
 obtain ⟨m,C⟩:∃ m:Nat,1+drawn ns base 5=(m:Int):=⟨(1+drawn ns base 5).toNat,by omega⟩
 obtain ⟨v,z,u⟩:=DT (eh (ns:=ns) (k:=base+1) (many:=2) (by omega))
 refine (kY ((List.range m).map fun (i:Nat)=>1+drawn ns (base+2+(i:Int)) v) (drawn ns (base+8) 6) ⟨by rw [List.length_map,List.length_range]; omega,by rw [List.length_map,List.length_range]; omega,fun r P=> ?_,?_⟩ ?_)
 ·obtain ⟨i,_,rfl⟩:=List.mem_map.mp P
  have:=eh (ns:=ns) (k:=base+2+(i:Int)) (many:=v) (by omega)
  omega
 ·have:=eh (ns:=ns) (k:=base+8) (many:=6) (by omega)
  omega
 ·unfold ck
  refine (b3 rfl).trans ?_
  have E:aA cW [D.scr ns,.int base]=[some (.scr ns),some (.int base),none,none]:=rfl
  rw [E]
  unfold cT
  have x:=cD (K:=K) (CL:=CL) (Y:=Y) (ns:=ns) (k:=base) (many:=5) (by omega) (by omega) (by omega) (by omega)
  have F:=cD (K:=K) (CL:=CL) (Y:=Y) (ns:=ns) (k:=base+1) (many:=2) (by omega) (by omega) (by omega) (by omega)
  have l:=cD (K:=K) (CL:=CL) (Y:=Y) (ns:=ns) (k:=base+8) (many:=6) (by omega) (by omega) (by omega) (by omega)
  simp only [aL,x,C]
  rw [bg (xs:=List.range m) (c:=fun (i:Nat)=>D.int (i:Int)) (g:=fun (i:Nat)=>D.int (1+drawn ns (base+2+(i:Int)) v)) (by simp only [aL,cb (show m < 1000000 by omega)]) (by rw [List.length_range]; omega) (fun i h=>⟨_,rfl,?_⟩)]
  ·simp only [aL,l,List.map_map]
   rfl
  ·have h:=List.mem_range.mp h
   have j:=cD (K:=K) (CL:=CL) (Y:=Y) (ns:=ns) (k:=base+2+(i:Int)) (many:=v) (by omega) (by omega) (by omega) (by omega)
   have n:cI [none,some 0,some 1] [some (D.scr ns),some (D.int base),some (D.int (m:Int)),none]=[none,some (.scr ns),some (.int base)]:=rfl
   rw [n]
   simp only [aL,F,u,j]
end
set_option maxHeartbeats 1000000
section
variable{K:W.Frag}{CL:Addr}{Y:Ad}
noncomputable abbrev Tr:=Nat×Nat×Int
noncomputable def bx (t:Tr):D:= .tup [.int t.1,.int t.2.1,.int t.2.2]
structure Good (n:Nat)(t:Tr):Prop where
 a:t.1≤n
 b:t.2.1≤n
 ne:t.1≠t.2.1
 r:0≤t.2.2∧t.2.2≤60
noncomputable def aP (t:Tr):List Nat:=if t.1 < t.2.1 then (List.range (t.2.1 - t.1)).map (t.1 + ·) else ((List.range (t.1 - t.2.1)).map (t.2.1 + ·)).reverse
noncomputable def ce (l:List Nat):List D:=l.map fun (i:Nat)=>D.int (i:Int)
theorem gQ {n:Nat}{t:Tr}(g:Good n t):∀ s∈aP t,s < n:=by
 intro s L
 have:=g.a; have:=g.b
 unfold aP at L
 split at L
 ·obtain ⟨i,h,rfl⟩:=List.mem_map.mp L
  have:=List.mem_range.mp h
  omega
 ·obtain ⟨i,h,rfl⟩:=List.mem_map.mp (List.mem_reverse.mp L)
  have:=List.mem_range.mp h
  omega
theorem dB {t:Tr}:(aP t).Nodup:=by
 have P:∀ a n:Nat,((List.range n).map (a + ·)).Nodup:=fun a n=>by
  refine List.Pairwise.map _ (fun x y h=> ?_) (List.nodup_range (n:=n))
  intro z; exact h (by omega)
 unfold aP
 split
 ·exact P _ _
 ·exact (List.pairwise_reverse.mpr ((P _ _).imp fun h z=>h z.symm))
theorem f8 {n:Nat}{t:Tr}(g:Good n t):(aP t).length≤n:=by
 have:=g.a; have:=g.b
 unfold aP
 split
 ·rw [List.length_map,List.length_range]; omega
 ·rw [List.length_reverse,List.length_map,List.length_range]; omega
theorem mE {n:Nat}{t:Tr}(g:Good n t):0 < (aP t).length:=by
 have:=g.a; have:=g.b; have:=g.ne
 unfold aP
 split
 ·rw [List.length_map,List.length_range]; omega
 ·rw [List.length_reverse,List.length_map,List.length_range]; omega
theorem jS {a b:Nat}:mm (a:Int) ((b:Int) - (a:Int)).toNat=ce ((List.range (b - a)).map (a + ·)):=by
 unfold mm ce
 have e:((b:Int) - (a:Int)).toNat=b - a:=by omega
 rw [e,List.map_map]
 refine List.map_congr_left fun i _=> ?_
 show D.int ((a:Int)+(i:Int))=D.int (((a+i:Nat)):Int)
 congr 1
theorem qx {a b:Nat}(h:b < a):oX ((a:Int) - 1) (((a:Int) - 1) - ((b:Int) - 1)).toNat=ce ((List.range (a - b)).map (b + ·)).reverse:=by
 have e:(((a:Int) - 1) - ((b:Int) - 1)).toNat=a - b:=by omega
 unfold oX ce
 rw [e]
 apply List.ext_getElem
 ·simp
 ·intro i d c
  simp only [List.length_map,List.length_range,List.length_reverse] at d c
  simp only [List.getElem_map,List.getElem_range,List.getElem_reverse,List.length_map,List.length_range]
  congr 1
  omega
theorem iN {n:Nat}{t:Tr}(g:Good n t)(hn:n≤1000):aF K CL Y [bx t]= .ok (.lst (ce (aP t))):=by
 have z:=g.a; have v:=g.b
 obtain ⟨a,b,r⟩:=t
 unfold aF
 refine (b3 rfl).trans ?_
 have E:aA eJ [bx (a,b,r)]=[some (.tup [.int a,.int b,.int r])]:=rfl
 rw [E]
 unfold gc
 have m:∀ x y:Nat,x≤1000→y≤1000→∀ d:DS,(sR2 (pC (kI x) (pC (kI y) pN))) d= .ok (ce ((List.range (y - x)).map (x + ·))):=fun x y C B d=>by
  simp only [aL,oy (show -1000000≤(x:Int) by omega) (show (x:Int) < 1000000 by omega) (show -1000000≤(y:Int) by omega) (show (y:Int) < 1000000 by omega),jS]
 simp only [aL]
 dsimp only at z v
 by_cases X:a < b
 ·have T:decide ((a:Int) < (b:Int))=true:=decide_eq_true (by omega)
  simp only [aL,T]
  rw [bg (xs:=(List.range (b - a)).map (a + ·)) (c:=fun (i:Nat)=>D.int (i:Int)) (g:=fun (i:Nat)=>D.int (i:Int)) (by
   simp only [aL,oy (show -1000000≤(a:Int) by omega) (show (a:Int) < 1000000 by omega) (show -1000000≤(b:Int) by omega) (show (b:Int) < 1000000 by omega),jS]; rfl) (by rw [List.length_map,List.length_range]; omega) (fun i h=>⟨_,rfl,rfl⟩)]
  simp only [aL]
  unfold aP
  rw [if_pos (show (a,b,r).1 < (a,b,r).2.1 from X)]
  rfl
 ·have T:decide ((a:Int) < (b:Int))=false:=decide_eq_false (by omega)
  simp only [aL,T]
  rw [bg (xs:=(List.range (a - b)).map (b + ·)) (c:=fun (i:Nat)=>D.int (i:Int)) (g:=fun (i:Nat)=>D.int (i:Int)) (by
   simp only [aL,oy (show -1000000≤(b:Int) by omega) (show (b:Int) < 1000000 by omega) (show -1000000≤(a:Int) by omega) (show (a:Int) < 1000000 by omega),jS]; rfl) (by rw [List.length_map,List.length_range]; omega) (fun i h=>⟨_,rfl,rfl⟩)]
  simp only [aL]
  have u:∀ l:List D,qw (.lst l) (.int (-1))= .ok (.lst l.reverse):=fun l=>by unfold qw; rfl
  simp only [aL,u]
  unfold aP ce
  rw [if_neg (show ¬ (a,b,r).1 < (a,b,r).2.1 from X),List.map_reverse]
theorem AY {n s d:Nat}(hs:s≤n)(hd:d < n):(s+1+d) % (n+1)≠s:=by
 by_cases h:s+1+d < n+1
 ·rw [Nat.mod_eq_of_lt h]; omega
 ·have:(s+1+d) % (n+1)=s+1+d - (n+1):=by
   rw [Nat.mod_eq_sub_mod (by omega),Nat.mod_eq_of_lt (by omega)]
  omega
theorem kb {base:Int}{i:Nat}(c:Int)(h0:0≤base)(h1:base < 1000)(hi:i < 5)(hc:0≤c∧c≤40):0≤base+c+5 * (i:Int)∧base+c+5 * (i:Int) < 2000:=by omega
theorem qH {ns:List Int}{base most:Int}{n:Nat}(h0:0≤base)(h1:base < 1000)(hn:1≤n)(hn5:n≤5)(hm:1≤most)(hm5:most≤5) :
  ∃ ts:List Tr,(ts.length:Int)=1+drawn ns base most∧(∀ t∈ts,Good n t)∧bI K CL Y [.scr ns,.int base,.int n,.int most]= .ok (.lst (ts.map bx)):=by
 have b1:=eh (ns:=ns) (k:=base) (many:=most) (by omega)
 obtain ⟨m,em⟩:∃ m:Nat,1+drawn ns base most=(m:Int):=⟨(1+drawn ns base most).toNat,by omega⟩
 have C:∀ k many:Int,0≤k→k < 2000→0 < many→many < 1000→∃ a:Nat,(a:Int)=drawn ns k many∧(a:Int) < many∧ap K CL Y [.scr ns,.int k,.int many]= .ok (.int (a:Int)):=fun k many k0 k1 R m1=>by
  have:=eh (ns:=ns) (k:=k) (many:=many) R
  refine ⟨(drawn ns k many).toNat,by omega,by omega,?_⟩
  rw [Int.toNat_of_nonneg this.1]
  exact cD k0 (by omega) R (by omega)
 suffices G:∃ d,bI K CL Y [.scr ns,.int base,.int n,.int most]= .ok d∧∃ ts:List Tr,d= .lst (ts.map bx)∧ts.length=m∧∀ t∈ts,Good n t by
  obtain ⟨_,e,ts,rfl,N,A⟩:=G
  exact ⟨ts,by omega,A,e⟩
 have n1:0 < (n:Int)+1:=by omega
 have n2:(n:Int)+1 < 1000:=by omega
 have n3:0 < (n:Int):=by omega
 have n4:(n:Int) < 1000:=by omega
 have E:0≤base+40∧base+40 < 2000:=by omega
 unfold bI
 rw [show iS 4 bR (bH K CL Y) [D.scr ns,D.int base,D.int n,D.int most]=e8 (bH K CL Y (aA bR [D.scr ns,D.int base,D.int n,D.int most])) from b3 rfl]
 have e0:aA bR [D.scr ns,.int base,.int n,.int most]=[some (.scr ns),some (.int base),some (.int n),some (.int most),none,none,none,none]:=rfl
 rw [e0]
 unfold bH
 have d1:=cD (K:=K) (CL:=CL) (Y:=Y) (ns:=ns) (k:=base) (many:=most) (by omega) (by omega) (by omega) (by omega)
 simp only [aL,d1,em,cb (show m < 1000000 by omega)]
 refine t9 (fun j U=>∃ ts:List Tr,ts.length+j.length=m∧(∀ t∈ts,Good n t)∧∃ u w F,U=[some (.scr ns),some (.int base),some (.int n),some (.int most),some (.lst (ts.map bx)),u,w,F]∧∀ d∈j,∃ i:Nat,i < m∧d= .int i)
  ⟨[],by simp,fun _ h=>(by cases h),none,none,none,rfl,fun d H=> ?_⟩ (fun d ds U ⟨ts,N,A,u,w,F,e,H⟩=> ?_) (fun S ⟨ts,N,A,u,w,F,e,_⟩=> ?_)
 ·obtain ⟨i,Q,rfl⟩:=List.mem_map.mp H
  exact ⟨i,List.mem_range.mp Q,rfl⟩
 ·refine cps fun PP J=> ?_
  subst e
  obtain ⟨i,Q,rfl⟩:=H d (List.mem_cons_self ..)
  rw [List.length_cons] at N
  have p:i < 5:=by omega
  obtain ⟨s,_,hs,V⟩:=C (base+1+5 * (i:Int)) ((n:Int)+1) (kb 1 h0 h1 p (by decide)).1 (kb 1 h0 h1 p (by decide)).2 n1 n2
  obtain ⟨x,_,O,X⟩:=C (base+2+5 * (i:Int)) (n:Int) (kb 2 h0 h1 p (by decide)).1 (kb 2 h0 h1 p (by decide)).2 n3 n4
  obtain ⟨c,_,hc,W⟩:=C (base+3+5 * (i:Int)) 3 (kb 3 h0 h1 p (by decide)).1 (kb 3 h0 h1 p (by decide)).2 (by decide) (by decide)
  obtain ⟨y,_,hy,ey⟩:=C (base+4+5 * (i:Int)) 2 (kb 4 h0 h1 p (by decide)).1 (kb 4 h0 h1 p (by decide)).2 (by decide) (by decide)
  obtain ⟨z,_,hz,ez⟩:=C (base+40) 3 E.1 E.2 (by decide) (by decide)
  obtain ⟨v,v0,v1,ev⟩:=DU (k:=(z:Int)) ⟨Int.natCast_nonneg z,hz⟩
  obtain ⟨r,_,hr,er⟩:=C (base+5+5 * (i:Int)) v (kb 5 h0 h1 p (by decide)).1 (kb 5 h0 h1 p (by decide)).2 v0 (Int.lt_of_le_of_lt v1 (by decide))
  refine J ?_; clear J PP
  have q:0≤(r:Int)∧(r:Int)≤60:=⟨Int.natCast_nonneg r,by omega⟩
  have sn:s≤n:=by omega
  have xn:x < n:=by omega
  have L:((s:Int)+1+(x:Int)) % ((n:Int)+1)=(((s+1+x) % (n+1):Nat):Int):=by push_cast; rfl
  have P:Good n (s,(s+1+x) % (n+1),(r:Int)):=⟨sn,Nat.le_of_lt_succ (Nat.mod_lt (s+1+x) (Nat.succ_pos n)),fun h=>AY sn xn h.symm,q⟩
  have step:∀ (a b:Nat) (o:Option D),Good n (a,b,(r:Int))→∃ S,fS 4 (cE aX (jV (pC (ac 6) (pC (ac 7) (pC (bv (pC (ac 0) (pC (ae (ae (ac 1) (kI 5) a_) (ae (kI 5) (ac 5) iB) a_) (pC (ae (cw (pC (kI 1) (pC (kI 9) (pC (kI 61) pN)))) (bv (pC (ac 0) (pC (ae (ac 1) (kI 40) a_) (pC (kI 3) pN))) (ap K CL Y)) av) pN))) (ap K CL Y)) pN)))))
    [some (.scr ns),some (.int base),some (.int n),some (.int most),some (.lst (ts.map bx)),some (.int i),some (.int a),some (.int b)]= .nx S∧S=[some (.scr ns),some (.int base),some (.int n),some (.int most),some (.lst ((ts ++ [(a,b,(r:Int))]).map bx)),some (.int i),some (.int a),some (.int b)]:=fun a b o g=>by
   refine ⟨_,jh (l:=ts.map bx) (d:=bx (a,b,(r:Int))) rfl ?_ (by rw [List.length_map]; omega),?_⟩
   ·simp (disch:=omega) only [aL,lH,ez,ev,er]
    rfl
   ·rw [List.map_append]; rfl
  have hd':∀ x∈ds,∃ i:Nat,i < m∧x= .int i:=fun x O=>H x (dt O)
  have B:∀ (a b:Nat),Good n (a,b,(r:Int))→∃ ts':List Tr,ts'.length+ds.length=m∧(∀ t∈ts',Good n t)∧∃ u w F,[some (D.scr ns),some (.int base),some (.int n),some (.int most),some (.lst ((ts ++ [(a,b,(r:Int))]).map bx)),some (.int i),some (.int a),some (.int b)]=[some (.scr ns),some (.int base),some (.int n),some (.int most),some (.lst (ts'.map bx)),u,w,F]∧∀ d∈ds,∃ i:Nat,i < m∧d= .int i:=fun a b g=>
   ⟨ts ++ [(a,b,(r:Int))],by rw [List.length_append]; simp; omega,fun t ht=>by
    rcases List.mem_append.mp ht with h | h
    ·exact A t h
    ·rw [List.mem_singleton.mp h]; exact g,_,_,_,rfl,hd'⟩
  by_cases I:c=1
  ·have T:((c:Int) == 1)=true:=by rw [I]; rfl
   have M:Good n (y * n,n - y * n,(r:Int)):=by
    have:y=0∨y=1:=by omega
    rcases this with rfl | rfl
    ·exact ⟨by simp,by simp,by simp; omega,q⟩
    ·exact ⟨by simp,by simp,by simp; omega,q⟩
   have Z:(y:Int) * (n:Int)=((y * n:Nat):Int):=by push_cast; rfl
   have e3:(n:Int) - ((y * n:Nat):Int)=((n - y * n:Nat):Int):=by have:=M.a; dsimp only at this; omega
   obtain ⟨S,h1,f⟩:=step (y * n) (n - y * n) none M
   refine ⟨_,S,rfl,?_,by rw [f]; exact B _ _ M⟩
   simp (disch:=omega) only [aL,lH,V,X,W,ey,L,T,lI,Z,e3,ox]
   exact h1
  ·have T:((c:Int) == 1)=false:=beq_eq_false_iff_ne.mpr (by omega)
   obtain ⟨S,h1,f⟩:=step s ((s+1+x) % (n+1)) none P
   refine ⟨_,S,rfl,?_,by rw [f]; exact B _ _ P⟩
   simp (disch:=omega) only [aL,lH,V,X,W,L,T,ox]
   exact h1
 ·subst e
  refine ⟨_,rfl,ts,rfl,N,A⟩
end
set_option maxHeartbeats 1000000
section
variable{K:W.Frag}{CL:Addr}{Y:Ad}
noncomputable def aE (CL:Addr)(rs:List Int)(g:Int):D:= .ins CL ["minutes","gap"] [.tup (rs.map D.int),.int g]
theorem f6 {rs:List Int}{g:Int}:eU CL [aE CL rs g]= .ok (.lst (rs.map D.int)):=by
 unfold eU aE jD
 dsimp only
 rw [if_pos rfl]
 rfl
theorem qY {rs:List Int}{g:Int}:jn CL [aE CL rs g]= .ok (.int g):=by
 unfold jn aE jD
 dsimp only
 rw [if_pos rfl]
 have:pW ["minutes","gap"] [.tup (rs.map D.int),.int g] "gap" =some (.int g):=by
  unfold pW
  rw [if_neg (by decide +kernel)]
  unfold pW
  rw [if_pos rfl]
 rw [this]
theorem vA {rs:List Int}{g:Int}{m:Str}(h:(["minutes","gap"]:List Str).contains m=false):kG CL m (aE CL rs g)=true:=by
 unfold kG aE
 dsimp only
 rw [h]
 simp
theorem Dv {rs:List Int}{g:Int}:kG CL "runs" (aE CL rs g)=true:=vA (by decide +kernel)
theorem FX {rs:List Int}{g:Int}:kG CL "clear" (aE CL rs g)=true:=vA (by decide +kernel)
theorem yi {rs:List Int}{g:Int}(h:GoodLine rs g):i5 K CL Y [.lst (rs.map D.int),.int g]= .ok (aE CL rs g):=by
 have e:bE K CL Y [.lst (rs.map D.int),.int g]= .ok .non:=by
  unfold bE
  refine (b3 rfl).trans ?_
  have E:aA gl [D.lst (rs.map D.int),.int g]=[some (.lst (rs.map D.int)),some (.int g),none]:=rfl
  rw [E]
  unfold ee
  have b:=h.one; have c:=h.few; have A:=h.gap
  have R:decide (1≤(rs.length:Int))=true:=decide_eq_true (by omega)
  have j:decide ((rs.length:Int)≤5)=true:=decide_eq_true (by omega)
  simp only [aL,R,j]
  refine jF (fun i a=>(∀ d∈i,∃ r:Int,(1≤r∧r≤20)∧d= .int r)∧∃ o,a=[some (.lst (rs.map D.int)),some (.int g),o]) ⟨fun d H=> ?_,none,rfl⟩ (fun d f a w=> ?_) (fun S y=> ?_)
  ·obtain ⟨r,P,rfl⟩:=List.mem_map.mp H
   exact ⟨r,h.run r P,rfl⟩
  ·refine cps fun PP G=> ?_
   obtain ⟨H,o,e⟩:=w
   subst e
   obtain ⟨r,P,rfl⟩:=H d (List.mem_cons_self ..)
   refine G ?_; clear G PP
   refine (yn _ _ rfl ?_ (fun x B=>H x (dt B)) (some (.int r)) rfl)
   have l:decide (1≤r)=true:=decide_eq_true P.1
   have O:decide (r≤20)=true:=decide_eq_true P.2
   simp only [aL,l,O]
  ·obtain ⟨_,o,e⟩:=y
   subst e
   have l:decide (0≤g)=true:=decide_eq_true A.1
   have O:decide (g≤5)=true:=decide_eq_true A.2
   simp only [aL,l,O]
 unfold i5
 dsimp only
 rw [e,aq]
 rfl
theorem mJ {rs:List Int}{g:Int}{t:Tr}(h:Good rs.length t):b7 K CL Y [aE CL rs g,bx t]= .ok .non:=by
 obtain ⟨a,b,r⟩:=t
 have A:=h.a; have u:=h.b; have P:=h.r; have v:=h.ne
 dsimp only at A u P v
 unfold b7
 refine (b3 rfl).trans ?_
 have D:aA fF [aE CL rs g,bx (a,b,r)]=[some (aE CL rs g),some (.tup [.int a,.int b,.int r]),none,none,none]:=rfl
 rw [D]
 unfold dH
 have f:((3:Int) == 3)=true:=rfl
 simp only [aL,Dv,f6,f]
 refine jF (fun j c=>(∀ d∈j,∃ i:Nat,i≤rs.length∧d= .int i)∧∃ o,c=[some (aE CL rs g),some (.tup [.int a,.int b,.int r]),some (.int rs.length),o,none]) ⟨fun d hd=> ?_,none,rfl⟩ (fun d n c z=> ?_) (fun S y=> ?_)
 ·rcases List.mem_cons.mp hd with rfl | hd
  ·exact ⟨a,A,rfl⟩
  ·rw [List.mem_singleton.mp hd]
   exact ⟨b,u,rfl⟩
 ·refine cps fun PP G=> ?_
  obtain ⟨hd,o,e⟩:=z
  subst e
  obtain ⟨i,m,rfl⟩:=hd d (List.mem_cons_self ..)
  refine G ?_; clear G PP
  refine (yn _ _ rfl ?_ (fun x B=>hd x (dt B)) (some (.int i)) rfl)
  have l:decide (0≤(i:Int))=true:=decide_eq_true (by omega)
  have O:decide ((i:Int)≤(rs.length:Int))=true:=decide_eq_true (by omega)
  simp only [aL,l,O]
 ·obtain ⟨_,o,e⟩:=y
  subst e
  have k:((a:Int) == (b:Int))=false:=beq_eq_false_iff_ne.mpr (by omega)
  have l:decide (0≤r)=true:=decide_eq_true P.1
  have O:decide (r≤60)=true:=decide_eq_true P.2
  simp only [aL,k,l,O]
theorem BW {rs:List Int}{g:Int}{t:Tr}(h:Good rs.length t)(hn:rs.length≤1000):qe K CL Y [aE CL rs g,bx t]= .ok (.lst (ce (aP t))):=by
 have T:=mJ (K:=K) (CL:=CL) (Y:=Y) (g:=g) h
 obtain ⟨a,b,r⟩:=t
 have z:=h.a; have u:=h.b; have W:=h.ne
 dsimp only at z u W
 unfold qe
 refine (b3 rfl).trans ?_
 have D:aA uQ [aE CL rs g,bx (a,b,r)]=[some (aE CL rs g),some (.tup [.int a,.int b,.int r]),none,none]:=rfl
 rw [D]
 unfold sj
 have e1':b7 K CL Y [aE CL rs g,.tup [.int a,.int b,.int r]]= .ok .non:=T
 simp only [aL,e1']
 by_cases X:a < b
 ·have R:decide ((a:Int) < (b:Int))=true:=decide_eq_true (by omega)
  have j:nB [.int (a:Int),.int (b:Int)]= .ok (.lst (ce ((List.range (b - a)).map (a + ·)))):=by
   unfold nB
   dsimp only
   rw [if_pos,jS]
   unfold gW
   simp only [Bool.and_eq_true,decide_eq_true_eq]
   refine ⟨⟨by omega,by omega⟩,eS (by omega)⟩
  simp only [aL,R,j]
  unfold aP
  rw [if_pos (show (a,b,r).1 < (a,b,r).2.1 from X)]
 ·have R:decide ((a:Int) < (b:Int))=false:=decide_eq_false (by omega)
  have j:nC [.int ((a:Int) - 1),.int ((b:Int) - 1),.int (-1)]= .ok (.lst (ce ((List.range (a - b)).map (b + ·)).reverse)):=by
   unfold nC
   dsimp only
   rw [if_pos,qx (by omega)]
   unfold gW
   simp only [Bool.and_eq_true,decide_eq_true_eq]
   refine ⟨⟨⟨by omega,by omega⟩,eS (by omega)⟩,trivial⟩
  simp only [aL,R,j]
  unfold aP
  rw [if_neg (show ¬ (a,b,r).1 < (a,b,r).2.1 from X)]
theorem pi {rs:List Int}{g:Int}{ts:List Tr}(h:∀ t∈ts,Good rs.length t)(hn:rs.length≤1000)(h1:1≤ts.length)(h2:ts.length≤5):d6 K CL Y [aE CL rs g,.lst (ts.map bx)]= .ok (.lst (ts.map fun t=> .lst (ce (aP t)))):=by
 unfold d6
 refine (b3 rfl).trans ?_
 have D:aA oa [aE CL rs g,.lst (ts.map bx)]=[some (aE CL rs g),some (.lst (ts.map bx))]:=rfl
 rw [D]
 unfold n7
 have R:decide (1≤(ts.length:Int))=true:=decide_eq_true (by omega)
 have j:decide ((ts.length:Int)≤5)=true:=decide_eq_true (by omega)
 simp only [aL,R,j]
 rw [bg (xs:=ts) (c:=bx) (g:=fun t=> .lst (ce (aP t))) rfl (by omega) (fun t e=>⟨_,rfl,?_⟩)]
 ·simp only [aL]
 ·have l:cI [none,some 0] [some (aE CL rs g),some (.lst (ts.map bx))]=[none,some (aE CL rs g)]:=rfl
  rw [l]
  simp only [aL,BW (K:=K) (CL:=CL) (Y:=Y) (g:=g) (h t e) hn]
end
set_option maxHeartbeats 1000000
noncomputable def vR (b:Int)(l:List Int):Int:=l.foldl max b
theorem jM:∀ (l:List Int) (b:Int),(b≤vR b l∧∀ e∈l,e≤vR b l)∧(vR b l=b∨vR b l∈l)
 | [],b=>⟨⟨Int.le_refl _,fun _ h=>by cases h⟩,.inl rfl⟩
 | a :: l,b=>by
  obtain ⟨⟨d,c⟩,A⟩:=jM l (max b a)
  have e:vR b (a :: l)=vR (max b a) l:=rfl
  rw [e]
  refine ⟨⟨by omega,fun x hx=> ?_⟩,?_⟩
  ·rcases List.mem_cons.mp hx with rfl | hx
   ·omega
   ·exact c x hx
  ·rcases A with h | h
   ·rcases (show max b a=b∨max b a=a by omega) with z | z
    ·exact .inl (h.trans z)
    ·exact .inr (by rw [h,z]; exact List.mem_cons_self ..)
   ·exact .inr (dt h)
theorem vS {b v:Int}{l:List Int}(h1:b≤v)(h2:∀ e∈l,e≤v)(h3:v=b∨v∈l):vR b l=v:=by
 obtain ⟨⟨x,w⟩,I⟩:=jM l b
 have K:vR b l≤v:=by
  rcases I with z | z
  ·omega
  ·exact h2 _ z
 have O:v≤vR b l:=by
  rcases h3 with z | z
  ·omega
  ·exact w _ z
 omega
noncomputable abbrev Pl:=List (List Int)
noncomputable def ar (p:Pl)(k:Nat):List Int:=p.getD k []
noncomputable def aV (w:List Nat)(row:List Int)(s:Nat):List Int:=((w.zip row).filter fun q=>q.1 == s).map (·.2)
noncomputable abbrev Q:=Tr×Nat
noncomputable def dP (ts:List Tr)(p:Pl)(s:Nat):List (Int×Nat):=ts.zipIdx.flatMap fun q=>(aV (aP q.1) (ar p q.2) s).map fun m=>(m,q.2)
noncomputable def apart (rs:List Int)(g:Int)(s:Nat):Int:=rs.getD s 0+g
noncomputable def free (rs:List Int)(g:Int)(ts:List Tr)(p:Pl)(s:Nat):Int:=vR 0 ((dP ts p s).map fun e=>e.1+apart rs g s)
noncomputable def cy (p:Pl)(q:Q):Nat:=(aP q.1).getD (ar p q.2).length 0
noncomputable def there (rs:List Int)(p:Pl)(q:Q):Int:=match (ar p q.2).getLast? with
 | none=>q.1.2.2
 | some m=>m+rs.getD ((aP q.1).getD ((ar p q.2).length - 1) 0) 0
noncomputable def eE (rs:List Int)(g:Int)(ts:List Tr)(p:Pl)(q:Q):Int:=max (there rs p q) (free rs g ts p (cy p q))
noncomputable def lN (p:Pl)(q:Q):Bool:=decide ((ar p q.2).length < (aP q.1).length)
noncomputable def cu (ts:List Tr)(p:Pl):List Q:=ts.zipIdx.filter (lN p)
noncomputable def f2 (rs:List Int)(g:Int)(ts:List Tr)(p:Pl)(q:Q):List Int:=[eE rs g ts p q,q.2]
noncomputable def f3 (rs:List Int)(g:Int)(ts:List Tr)(p:Pl)(q:Q):List Int:=[eE rs g ts p q,q.2,cy p q]
noncomputable def bV (f:Q→List Int)(q:Q)(qs:List Q):Q:=qs.foldl (fun b u=>if HT.aI (f u) (f b)=true then u else b) q
theorem m5 (f:Q→List Int):∀ (qs:List Q) (q:Q),fy (f q) (qs.map f)=f (bV f q qs)
 | [],_=>rfl
 | u :: qs,q=>by
  have T:fy (f q) ((u :: qs).map f)=fy (if HT.aI (f u) (f q)=true then f u else f q) (qs.map f):=rfl
  have t:bV f q (u :: qs)=bV f (if HT.aI (f u) (f q)=true then u else q) qs:=rfl
  rw [T,t,← m5 f qs]
  split <;> rfl
theorem me (f:Q→List Int):∀ (qs:List Q) (q:Q),bV f q qs∈q :: qs
 | [],q=>List.mem_cons_self ..
 | u :: qs,q=>by
  have t:bV f q (u :: qs)=bV f (if HT.aI (f u) (f q)=true then u else q) qs:=rfl
  rw [t]
  have:=me f qs (if HT.aI (f u) (f q)=true then u else q)
  rcases List.mem_cons.mp this with h | h
  ·rw [h]
   split
   ·exact dt (List.mem_cons_self ..)
   ·exact List.mem_cons_self ..
  ·exact dt (dt h)
theorem DE {a b:Int}{i j:Nat}{s t:Int}(h:i≠j):HT.aI [a,(i:Int),s] [b,(j:Int),t]=HT.aI [a,(i:Int)] [b,(j:Int)]:=by
 have I:¬ ((i:Int)=(j:Int)):=by omega
 unfold HT.aI
 split
 ·unfold HT.aI
  rw [if_neg I,if_neg I]
 ·rfl
theorem rO {rs:List Int}{g:Int}{ts:List Tr}{p:Pl}:∀ (qs:List Q) (q:Q),(∀ u∈qs,u.2≠q.2)→(qs.Pairwise fun a b=>a.2≠b.2)→bV (f3 rs g ts p) q qs=bV (f2 rs g ts p) q qs
 | [],_,_,_=>rfl
 | u :: qs,q,h,hp=>by
  have e:HT.aI (f3 rs g ts p u) (f3 rs g ts p q)=HT.aI (f2 rs g ts p u) (f2 rs g ts p q):=DE (h u (List.mem_cons_self ..))
  have T:bV (f3 rs g ts p) q (u :: qs)=bV (f3 rs g ts p) (if HT.aI (f3 rs g ts p u) (f3 rs g ts p q)=true then u else q) qs:=rfl
  have t:bV (f2 rs g ts p) q (u :: qs)=bV (f2 rs g ts p) (if HT.aI (f2 rs g ts p u) (f2 rs g ts p q)=true then u else q) qs:=rfl
  rw [T,t,e]
  rw [List.pairwise_cons] at hp
  split
  ·exact rO qs u (fun v A z=>hp.1 v A z.symm) hp.2
  ·exact rO qs q (fun v A=>h v (dt A)) hp.2
noncomputable def step (rs:List Int)(g:Int)(ts:List Tr)(p:Pl)(q:Q):Pl:=p.set q.2 (ar p q.2 ++ [eE rs g ts p q])
noncomputable def run (rs:List Int)(g:Int)(ts:List Tr):Nat→Pl→Pl
 | 0,p=>p
 | n+1,p=>match cu ts p with
  | []=>p
  | q :: qs=>run rs g ts n (step rs g ts p (bV (f2 rs g ts p) q qs))
theorem qz {rs:List Int}{g:Int}{ts:List Tr}{p:Pl}(h:cu ts p=[]):∀ n,run rs g ts n p=p
 | 0=>rfl
 | n+1=>by unfold run; rw [h]
theorem qB {rs:List Int}{g:Int}{ts:List Tr}{p:Pl}{q:Q}{qs:List Q}{n:Nat}(h:cu ts p=q :: qs):run rs g ts (n+1) p=run rs g ts n (step rs g ts p (bV (f2 rs g ts p) q qs)):=by
 conv=>lhs; unfold run
 rw [h]
structure Inv1 (ts:List Tr)(p:Pl):Prop where
 len:p.length=ts.length
 rows:∀ q∈ts.zipIdx,(ar p q.2).length≤(aP q.1).length
 nn:∀ r∈p,∀ m∈r,(0:Int)≤m
theorem mem_zip {α:Type}{l:List α}{q:α×Nat}:q∈l.zipIdx↔l[q.2]?=some q.1:=by
 rw [List.mem_zipIdx_iff_getElem?]
theorem cJ {p:Pl}{k:Nat}(h:k < p.length):p[k]?=some (ar p k):=by
 unfold ar; rw [List.getD_eq_getElem?_getD,cS h]; rfl
theorem yU {p:Pl}{k:Nat}{m:Int}(h:m∈ar p k):∃ r∈p,m∈r:=by
 unfold ar at h
 rw [List.getD_eq_getElem?_getD] at h
 cases q:p[k]? with
 | none=>rw [q] at h; cases h
 | some r=>rw [q] at h; exact ⟨r,List.mem_of_getElem? q,h⟩
theorem oY {p:Pl}{k j:Nat}{r:List Int}(h:k < p.length):ar (p.set k r) j=if j=k then r else ar p j:=by
 unfold ar
 rw [List.getD_eq_getElem?_getD,List.getD_eq_getElem?_getD,List.getElem?_set]
 by_cases e:k=j
 ·subst e; rw [if_pos rfl,if_pos rfl,if_pos h]; rfl
 ·rw [if_neg e,if_neg (fun z=>e z.symm)]
theorem ye {rs:List Int}{g:Int}{ts:List Tr}{p:Pl}{s:Nat}:0≤free rs g ts p s:=(jM _ _).1.1
theorem getD_mem {α:Type}{l:List α}{i:Nat}{d:α}(h:i < l.length):l.getD i d∈l:=by
 rw [List.getD_eq_getElem?_getD,cS h]; exact List.getElem_mem h
theorem pX {rs:List Int}{g:Int}{ts:List Tr}{p:Pl}{q:Q}(I:Inv1 ts p)(hq:q∈cu ts p):Inv1 ts (step rs g ts p q):=by
 obtain ⟨a,b⟩:=List.mem_filter.mp hq
 have D:=mem_zip.mp a
 have O:q.2 < ts.length:=(dZ D).1
 have N:(ar p q.2).length < (aP q.1).length:=of_decide_eq_true b
 have B:q.2 < p.length:=by rw [I.len]; exact O
 refine ⟨by unfold step; rw [List.length_set]; exact I.len,fun u E=> ?_,fun r P m A=> ?_⟩
 ·unfold step
  rw [oY B]
  split
  ·rename_i e
   have hu':=mem_zip.mp E
   rw [e,D] at hu'
   rw [List.length_append,← Option.some.inj hu']
   exact N
  ·exact I.rows u E
 ·unfold step at P
  rcases List.mem_or_eq_of_mem_set P with h | h
  ·exact I.nn r h m A
  ·rw [h] at A
   rcases List.mem_append.mp A with h | h
   ·obtain ⟨i,C,F⟩:=yU h
    exact I.nn i C m F
   ·rw [List.mem_singleton.mp h]
    have:=ye (rs:=rs) (g:=g) (ts:=ts) (p:=p) (s:=cy p q)
    unfold eE
    omega
theorem gG {ts:List Tr}{f:Q→Bool}:(ts.zipIdx.filter f).Pairwise fun a b=>a.2≠b.2:=by
 refine List.Pairwise.filter _ ?_
 have:(ts.zipIdx.map Prod.snd).Nodup:=by rw [List.zipIdx_map_snd]; exact List.nodup_range'
 exact List.pairwise_map.mp this
theorem qO {α β:Type}:∀ {w:List α} {row:List β} {x:β} {s:α},w[row.length]?=some s→w.zip (row ++ [x])=w.zip row ++ [(s,x)]
 | [],row,x,s,h=>by simp at h
 | a :: w,[],x,s,h=>by simp at h; subst h; simp
 | a :: w,b :: row,x,s,h=>by
  simp at h
  rw [List.cons_append,List.zip_cons_cons,qO h,List.zip_cons_cons,List.cons_append]
theorem jo {w:List Nat}{row:List Int}{x:Int}{s s':Nat}(h:w[row.length]?=some s):aV w (row ++ [x]) s'=aV w row s' ++ (if s=s' then [x] else []):=by
 unfold aV
 rw [qO h,List.filter_append,List.map_append]
 congr 1
 by_cases e:s=s'
 ·subst e
  rw [if_pos rfl,List.filter_cons_of_pos (p:=fun q:Nat×Int=>q.1 == s) (a:=(s,x)) (beq_self_eq_true s)]; rfl
 ·rw [if_neg e,List.filter_cons_of_neg (by simpa using e)]; rfl
theorem eF:∀ {w:List Nat} {row:List Int} {s:Nat},w.Nodup→(aV w row s).length≤1
 | [],row,s,_=>by unfold aV; simp
 | a :: w,[],s,_=>by unfold aV; simp
 | a :: w,b :: row,s,h=>by
  rw [List.nodup_cons] at h
  have t:=eF (row:=row) (s:=s) h.2
  unfold aV at t ⊢
  rw [List.zip_cons_cons]
  by_cases e:a=s
  ·subst e
   rw [List.filter_cons_of_pos (p:=fun q:Nat×Int=>q.1 == a) (a:=(a,b)) (beq_self_eq_true a)]
   have:(w.zip row).filter (fun q=>q.1 == a)=[]:=by
    rw [List.filter_eq_nil_iff]
    intro q d B
    have u:q.1=a:=by simpa using B
    exact h.1 (u ▸ (List.of_mem_zip d).1)
   rw [this]; simp
  ·rw [List.filter_cons_of_neg (by simpa using e)]
   exact t
theorem jB {α β:Type}{f:α→List β}:∀ (l:List α),(∀ x∈l,(f x).length≤1)→(l.flatMap f).length≤l.length
 | [],_=>by simp
 | x :: l,h=>by
  rw [List.flatMap_cons,List.length_append,List.length_cons]
  have:=h x (List.mem_cons_self ..)
  have:=jB l fun y B=>h y (dt B)
  omega
theorem sx {ts:List Tr}{p:Pl}{s:Nat}:(dP ts p s).length≤ts.length:=by
 have:=jB (f:=fun q:Q=>(aV (aP q.1) (ar p q.2) s).map fun m=>(m,q.2)) ts.zipIdx fun q _=>by
  rw [List.length_map]; exact eF dB
 rw [List.length_zipIdx] at this
 exact this
theorem ent_mem {ts:List Tr}{p:Pl}{s:Nat}{m:Int}{k:Nat}:(m,k)∈dP ts p s↔∃ t,ts[k]?=some t∧m∈aV (aP t) (ar p k) s:=by
 unfold dP
 rw [List.mem_flatMap]
 constructor
 ·intro C
  refine cps fun PP G=> ?_
  obtain ⟨q,d,h⟩:=C
  obtain ⟨i,A,e⟩:=List.mem_map.mp h
  refine G ?_; clear G PP
  cases e
  exact ⟨q.1,mem_zip.mp d,A⟩
 ·intro D
  obtain ⟨t,f,A⟩:=D
  exact ⟨(t,k),mem_zip.mpr f,List.mem_map.mpr ⟨m,A,rfl⟩⟩
theorem zF {ts:List Tr}{p:Pl}{q:Q}(hl:(ar p q.2).length < (aP q.1).length):(aP q.1)[(ar p q.2).length]?=some (cy p q):=by
 unfold cy; rw [List.getD_eq_getElem?_getD,cS hl]; rfl
theorem t_ {rs:List Int}{g:Int}{ts:List Tr}{p:Pl}{q:Q}(I:Inv1 ts p)(hq:q∈cu ts p)(ha:0≤apart rs g (cy p q))(s:Nat) :
  free rs g ts (step rs g ts p q) s=if s=cy p q then eE rs g ts p q+apart rs g s else free rs g ts p s:=by
 obtain ⟨a,b⟩:=List.mem_filter.mp hq
 have D:=mem_zip.mp a
 have O:q.2 < ts.length:=(dZ D).1
 have N:(ar p q.2).length < (aP q.1).length:=of_decide_eq_true b
 have B:q.2 < p.length:=by rw [I.len]; exact O
 have c:=zF (ts:=ts) N
 have F:∀ m k,(m,k)∈dP ts (step rs g ts p q) s↔(m,k)∈dP ts p s∨(s=cy p q∧m=eE rs g ts p q∧k=q.2):=by
  intro m k
  rw [ent_mem,ent_mem]
  have e:ar (step rs g ts p q) k=if k=q.2 then ar p q.2 ++ [eE rs g ts p q] else ar p k:=oY B
  rw [e]
  by_cases E:k=q.2
  ·rw [if_pos E,E,D]
   constructor
   ·intro G
    obtain ⟨t,f,A⟩:=G
    cases f
    rw [jo c] at A
    rcases List.mem_append.mp A with h | h
    ·exact .inl ⟨_,rfl,h⟩
    ·by_cases e:cy p q=s
     ·rw [if_pos e] at h; exact .inr ⟨e.symm,List.mem_singleton.mp h,rfl⟩
     ·rw [if_neg e] at h; cases h
   ·rintro (⟨t,f,A⟩ | ⟨T,u,_⟩)
    ·cases f
     exact ⟨_,rfl,by rw [jo c]; exact List.mem_append_left _ A⟩
    ·exact ⟨_,rfl,by rw [jo c,if_pos T.symm,u]; exact List.mem_append_right _ (List.mem_singleton.mpr rfl)⟩
  ·rw [if_neg E]
   exact ⟨fun h=> .inl h,fun h=>h.elim id fun z=>absurd z.2.2 E⟩
 obtain ⟨⟨Y,W⟩,U⟩:=jM ((dP ts p s).map fun e=>e.1+apart rs g s) 0
 by_cases L:s=cy p q
 ·rw [if_pos L]
  have H:free rs g ts p s≤eE rs g ts p q:=by unfold eE; rw [← L]; omega
  have hso':vR 0 ((dP ts p s).map fun e=>e.1+apart rs g s)≤eE rs g ts p q:=H
  rw [← L] at ha
  refine vS (by omega) (fun e d=> ?_) (.inr (List.mem_map.mpr ⟨(eE rs g ts p q,q.2),(F _ _).mpr (.inr ⟨L,rfl,rfl⟩),rfl⟩))
  obtain ⟨⟨m,k⟩,A,rfl⟩:=List.mem_map.mp d
  rcases (F m k).mp A with h | ⟨_,h,_⟩
  ·have:=W (m+apart rs g s) (List.mem_map.mpr ⟨(m,k),h,rfl⟩)
   dsimp only
   omega
  ·rw [h]
   exact Int.le_refl _
 ·rw [if_neg L]
  refine vS Y (fun e d=> ?_) (U.imp id fun h=> ?_)
  ·obtain ⟨⟨m,k⟩,A,rfl⟩:=List.mem_map.mp d
   rcases (F m k).mp A with h | ⟨h,_,_⟩
   ·exact W _ (List.mem_map.mpr ⟨(m,k),h,rfl⟩)
   ·exact absurd h L
  ·obtain ⟨⟨m,k⟩,A,e⟩:=List.mem_map.mp h
   exact List.mem_map.mpr ⟨(m,k),(F m k).mpr (.inl A),e⟩
theorem r9 {rs:List Int}{g:Int}{ts:List Tr}{p:Pl}{q u:Q}(I:Inv1 ts p)(hq:q∈cu ts p)(hu:u∈ts.zipIdx) :
  there rs (step rs g ts p q) u=if u.2=q.2 then eE rs g ts p q+rs.getD (cy p q) 0 else there rs p u:=by
 obtain ⟨a,b⟩:=List.mem_filter.mp hq
 have D:=mem_zip.mp a
 have O:q.2 < ts.length:=(dZ D).1
 have A:q.2 < p.length:=by rw [I.len]; exact O
 have e:ar (step rs g ts p q) u.2=if u.2=q.2 then ar p q.2 ++ [eE rs g ts p q] else ar p u.2:=oY A
 unfold there
 rw [e]
 by_cases E:u.2=q.2
 ·have hu':=mem_zip.mp hu
  rw [E,D] at hu'
  have J:q.1=u.1:=Option.some.inj hu'
  rw [if_pos E,if_pos E,List.getLast?_concat]
  dsimp only
  rw [List.length_append]
  show eE rs g ts p q+rs.getD ((aP u.1).getD ((ar p q.2).length+1 - 1) 0) 0=_
  rw [Nat.add_sub_cancel,← J]
  rfl
 ·rw [if_neg E,if_neg E]
theorem wP:∀ {l:List Nat},(∀ x∈l,x≤5)→l.sum≤5 * l.length
 | [],_=>by simp
 | x :: l,h=>by
  have:=h x (List.mem_cons_self ..)
  have:=wP fun y B=>h y (List.mem_cons_of_mem x B)
  rw [List.sum_cons,List.length_cons]; omega
theorem pf:∀ {p:Pl} {k:Nat} {x:Int},k < p.length→((p.set k (ar p k ++ [x])).map List.length).sum=(p.map List.length).sum+1
 | [],k,x,h=>by simp at h
 | r :: p,0,x,h=>by
  show ((r ++ [x]).length :: p.map List.length).sum=(r.length :: p.map List.length).sum+1
  rw [List.sum_cons,List.sum_cons,List.length_append]; simp; omega
 | r :: p,k+1,x,h=>by
  have s:=pf (p:=p) (k:=k) (x:=x) (by simpa using h)
  show (r.length :: (p.set k (ar p k ++ [x])).map List.length).sum=(r.length :: p.map List.length).sum+1
  rw [List.sum_cons,List.sum_cons,s]; omega
theorem wQ {n:Nat}{ts:List Tr}{p:Pl}(I:Inv1 ts p)(hg:∀ t∈ts,Good n t)(hn:n≤5)(ht:ts.length≤5):(p.map List.length).sum≤25:=by
 have a:(p.map List.length).sum≤5 * (p.map List.length).length:=wP fun x B=>by
  refine cps fun PP G=> ?_
  obtain ⟨r,P,rfl⟩:=List.mem_map.mp B
  obtain ⟨k,O,e⟩:=List.getElem_of_mem P
  refine G ?_; clear G PP
  have hk':k < ts.length:=by rw [← I.len]; exact O
  have b:=I.rows (ts[k],k) (mem_zip.mpr (cS hk'))
  have A:ar p k=r:=by
   have:=cJ O
   rw [cS O,e] at this
   exact (Option.some.inj this).symm
  dsimp only at b
  rw [A] at b
  have:=f8 (hg _ (List.getElem_mem hk'))
  omega
 rw [List.length_map,I.len] at a
 omega
set_option maxHeartbeats 1000000
section
variable{K:W.Frag}{CL:Addr}{Y:Ad}
noncomputable def aj (r:List Int):D:= .lst (r.map D.int)
noncomputable def bp (t:List Int):D:= .tup (t.map D.int)
noncomputable def aT (t:Tr):D:= .lst (ce (aP t))
theorem lm {a b:Nat}:((a:Int) == (b:Int))=(a == b):=by
 by_cases h:a=b
 ·subst h; simp
 ·rw [beq_eq_false_iff_ne.mpr h,beq_eq_false_iff_ne.mpr (by omega)]
structure Ctx (rs:List Int)(g:Int)(ts:List Tr):Prop where
 ln:GoodLine rs g
 tr:∀ t∈ts,Good rs.length t
 few:ts.length≤5
 one:1≤ts.length
theorem Ctx.good {rs:List Int}{g:Int}{ts:List Tr}{q:Q}(C:Ctx rs g ts)(hq:q∈ts.zipIdx):Good rs.length q.1:=C.tr _ (List.mem_of_getElem? (mem_zip.mp hq))
theorem Ctx.rows {rs:List Int}{g:Int}{ts:List Tr}{p:Pl}(C:Ctx rs g ts)(I:Inv1 ts p):∀ r∈p,r.length≤1000:=fun r P=>by
 obtain ⟨k,O,e⟩:=List.getElem_of_mem P
 have hk':k < ts.length:=by rw [← I.len]; exact O
 have D:(ts[k],k)∈ts.zipIdx:=mem_zip.mpr (cS hk')
 have b:=I.rows _ D
 have A:ar p k=r:=by
  have:=cJ O
  rw [cS O,e] at this
  exact (Option.some.inj this).symm
 dsimp only at b
 rw [A] at b
 have E:(aP ts[k]).length≤rs.length:=f8 (C.good D)
 have:=C.ln.few
 omega
theorem tG {rs:List Int}{g:Int}(h:GoodLine rs g){s:Nat}(hs:s < rs.length):1≤rs.getD s 0∧rs.getD s 0≤20:=h.run _ (getD_mem hs)
theorem sQ {w:List Nat}{i:Nat}{v:Nat}(h:w[i]?=some v):av (.lst (ce w)) (.int (i:Int))= .ok (.int (v:Int)):=bi h
theorem gC {α:Type}{l:List α}{i:Nat}{d:α}(h:i < l.length):l[i]?=some (l.getD i d):=by
 rw [List.getD_eq_getElem?_getD,cS h]; rfl
end
set_option maxHeartbeats 1000000
section
variable{K:W.Frag}{CL:Addr}{Y:Ad}
theorem yT {rs:List Int}{g:Int}{ts:List Tr}{p:Pl}{k:Nat}(C:Ctx rs g ts)(I:Inv1 ts p)(hk:k < p.length):(ar p k).length≤1000:=C.rows I _ (List.mem_of_getElem? (cJ hk))
noncomputable def p0 (ts:List Tr):Pl:=ts.map fun _=>[]
theorem rV {ts:List Tr}{k:Nat}:ar (p0 ts) k=[]:=by
 unfold ar p0
 rw [List.getD_eq_getElem?_getD,List.getElem?_map]
 cases ts[k]? <;> rfl
theorem vx {ts:List Tr}:Inv1 ts (p0 ts):=⟨by unfold p0; rw [List.length_map],fun q _=>by rw [rV]; exact Nat.zero_le _,fun r P m A=>by
 unfold p0 at P
 obtain ⟨_,_,rfl⟩:=List.mem_map.mp P
 cases A⟩
theorem r6:∀ {ts:List Tr},((p0 ts).map List.length).sum=0
 | []=>rfl
 | _ :: ts=>by
  show (0 :: (p0 ts).map List.length).sum=0
  rw [List.sum_cons,r6]
theorem Bm {ts:List Tr}{α:Type}{f:α→D}:(ts.map fun _=>D.lst [])=(p0 ts).map aj:=by
 unfold p0; rw [List.map_map]; rfl
end
set_option maxHeartbeats 1000000
section
variable{K:W.Frag}{CL:Addr}{Y:Ad}
noncomputable def eQ (rs:List Int)(g:Int)(ts:List Tr)(p:Pl):List Int:=(List.range rs.length).map (free rs g ts p)
noncomputable def cz (rs:List Int)(ts:List Tr)(p:Pl):List Int:=ts.zipIdx.map (there rs p)
theorem yf {rs:List Int}{g:Int}{ts:List Tr}{s:Nat}:free rs g ts (p0 ts) s=0:=by
 have e:dP ts (p0 ts) s=[]:=by
  unfold dP
  rw [List.flatMap_eq_nil_iff]
  intro q _
  rw [rV]
  unfold aV
  rw [List.zip_nil_right]
  rfl
 unfold free
 rw [e]
 rfl
theorem vo {rs:List Int}{g:Int}{ts:List Tr}:eQ rs g ts (p0 ts)=rs.map fun _=>0:=by
 unfold eQ
 apply List.ext_getElem
 ·simp
 ·intro i a b
  rw [List.getElem_map,List.getElem_map,yf]
theorem uD {rs:List Int}{ts:List Tr}:cz rs ts (p0 ts)=ts.map fun t=>t.2.2:=by
 unfold cz
 have e:there rs (p0 ts)=fun q:Q=>q.1.2.2:=by
  funext q
  unfold there
  rw [rV]
  rfl
 rw [e]
 have:ts.zipIdx.map Prod.fst=ts:=List.zipIdx_map_fst ..
 conv=>rhs; rw [← this,List.map_map]
 rfl
theorem rc {rs:List Int}{g:Int}{ts:List Tr}{p:Pl}{q:Q}(C:Ctx rs g ts)(I:Inv1 ts p)(hq:q∈cu ts p)(hs:cy p q < rs.length):eQ rs g ts (step rs g ts p q)=(eQ rs g ts p).set (cy p q) (eE rs g ts p q+rs.getD (cy p q) 0+g):=by
 have A:0≤apart rs g (cy p q):=by
  have:=tG C.ln hs
  have:=C.ln.gap
  unfold apart; omega
 unfold eQ
 apply List.ext_getElem
 ·simp
 ·intro i a b
  rw [List.getElem_map,List.getElem_range,List.getElem_set,t_ I hq A]
  by_cases e:i=cy p q
  ·rw [if_pos e,if_pos e.symm,e]
   unfold apart; omega
  ·rw [if_neg e,if_neg fun z=>e z.symm,List.getElem_map,List.getElem_range]
theorem kS {rs:List Int}{g:Int}{ts:List Tr}{p:Pl}{q:Q}(I:Inv1 ts p)(hq:q∈cu ts p):cz rs ts (step rs g ts p q)=(cz rs ts p).set q.2 (eE rs g ts p q+rs.getD (cy p q) 0):=by
 unfold cz
 apply List.ext_getElem
 ·simp
 ·intro i a b
  have h:i < ts.length:=by simpa using a
  have D:(ts[i],0+i)∈ts.zipIdx:=mem_zip.mpr (by rw [Nat.zero_add]; exact cS h)
  rw [List.getElem_map,List.getElem_zipIdx,List.getElem_set,r9 I hq D]
  by_cases e:i=q.2
  ·rw [if_pos (by show 0+i=q.2; omega),if_pos e.symm]
  ·rw [if_neg (by show ¬ 0+i=q.2; omega),if_neg fun z=>e z.symm,List.getElem_map,List.getElem_zipIdx]
theorem uC {rs:List Int}{ts:List Tr}{p:Pl}{q:Q}(hq:q∈ts.zipIdx):(cz rs ts p)[q.2]?=some (there rs p q):=by
 have D:=mem_zip.mp hq
 unfold cz
 rw [List.getElem?_map,List.getElem?_zipIdx,D]
 show some (there rs p (q.1,0+q.2))=_
 rw [Nat.zero_add]
theorem vn {rs:List Int}{g:Int}{ts:List Tr}{p:Pl}{s:Nat}(h:s < rs.length):(eQ rs g ts p)[s]?=some (free rs g ts p s):=by
 unfold eQ
 rw [List.getElem?_map,List.getElem?_range h]
 rfl
noncomputable abbrev j_ (rs:List Int)(g:Int)(ts:List Tr)(p:Pl)(o6 o7 o8 o9:Option D):DS:=
 [some (.lst (rs.map D.int)),some (.int g),some (.lst (ts.map bx)),some (.lst (p.map aj)),some (.lst ((eQ rs g ts p).map D.int)),some (.lst ((cz rs ts p).map D.int)),o6,o7,o8,o9]
theorem k7 {rs:List Int}{g:Int}{ts:List Tr}(C:Ctx rs g ts):bN K CL Y [.lst (rs.map D.int),.int g,.lst (ts.map bx)]= .ok (.lst ((run rs g ts 26 (p0 ts)).map aj)):=by
 have hf:=C.few; have ho:=C.one; have hr5:=C.ln.few
 unfold bN
 refine (b3 rfl).trans ?_
 have e0:aA bd [.lst (rs.map D.int),.int g,.lst (ts.map bx)]=[some (.lst (rs.map D.int)),some (.int g),some (.lst (ts.map bx)),none,none,none,none,none,none,none]:=rfl
 rw [e0]
 unfold b9
 simp only [aL]
 rw [bg (xs:=ts) (c:=bx) (g:=fun _=>D.lst []) rfl (by omega) (fun t ht=>⟨_,rfl,by simp only [aL]⟩),Bm (α:=Nat) (f:=fun _=> .non)]
 simp only [aL]
 rw [bg (xs:=rs) (c:=D.int) (g:=fun _=>D.int 0) rfl (by omega) (fun t ht=>⟨_,rfl,by simp only [aL]⟩)]
 simp only [aL]
 rw [bg (xs:=ts) (c:=bx) (g:=fun t=>D.int t.2.2) rfl (by omega) (fun t ht=>⟨_,rfl,(pS:av (bx t) (.int 2)= .ok (.int t.2.2))⟩)]
 have z1:(rs.map fun _=>D.int 0)=(eQ rs g ts (p0 ts)).map D.int:=by rw [vo,List.map_map]; rfl
 have z2:(ts.map fun t=>D.int t.2.2)=(cz rs ts (p0 ts)).map D.int:=by rw [uD,List.map_map]; rfl
 simp only [aL,z1,z2]
 refine qI (fun n o=>∃ (p:Pl) (r s J L:Option D),Inv1 ts p∧n+(p.map List.length).sum=26∧run rs g ts n p=run rs g ts 26 (p0 ts)∧o=j_ rs g ts p r s J L)
  (fun o=>∃ o4 o5 r s J L,o=[some (.lst (rs.map D.int)),some (.int g),some (.lst (ts.map bx)),some (.lst ((run rs g ts 26 (p0 ts)).map aj)),o4,o5,r,s,J,L]) 26 (by decide) ⟨p0 ts,none,none,none,none,vx,by rw [r6],rfl,rfl⟩ (fun n o ⟨p,r,s,J,L,I,hn,hR,e⟩=> ?_) (fun S ⟨o4,o5,r,s,J,L,e⟩=> ?_)
 ·subst e
  have R:∀ q∈ts.zipIdx,aF K CL Y [bx q.1]= .ok (aT q.1):=fun q i=>iN (C.good i) (by omega)
  have T:∀ q∈ts.zipIdx,av (.lst (p.map aj)) (.int (q.2:Int))= .ok (aj (ar p q.2)):=fun q i=>bi (g:=aj) (cJ (by rw [I.len]; exact (dZ (mem_zip.mp i)).1))
  have B:∀ q∈ts.zipIdx,av (.lst (ts.map bx)) (.int (q.2:Int))= .ok (bx q.1):=fun q i=>bi (g:=bx) (mem_zip.mp i)
  have G:∀ q:Q,bj [aj (ar p q.2)]= .ok (.int ((ar p q.2).length:Int)):=fun q=>fz
  have y:∀ q:Q,bj [aT q.1]= .ok (.int ((aP q.1).length:Int)):=fun q=>fz
  have Z:mQ [.int (ts.length:Int)]= .ok (ts.zipIdx.map fun q=>D.int (q.2:Int)):=by rw [cb (by omega),ku]
  have hgo:∀ q:Q,decide (((ar p q.2).length:Int) < ((aP q.1).length:Int))=lN p q:=fun q=>by
   unfold lN
   by_cases h:(ar p q.2).length < (aP q.1).length
   ·rw [decide_eq_true h,decide_eq_true (by omega)]
   ·rw [decide_eq_false h,decide_eq_false (by omega)]
  have M:(cQ (ae (c1 (bc (sR1 (pC (c1 (ac 2) bj) pN)) [none,some 3,some 2] (bD 0) yes (ae (c1 (ae (ac 1) (ac 0) av) bj) (c1 (bv (pC (ae (ac 2) (ac 0) av) pN) (aF K CL Y)) bj) pe)) mP) (kI 0) qd)) (j_ rs g ts p r s J L)= .ok (!(cu ts p).isEmpty):=by
   simp only [aL]
   rw [bg (xs:=ts.zipIdx) (c:=fun q=>D.int (q.2:Int)) (g:=fun q=>D.int (((ar p q.2).length:Int) - ((aP q.1).length:Int))) (by simp only [aL,Z]) (by rw [List.length_zipIdx]; omega) (fun q i=>⟨_,rfl,?_⟩)]
   ·have z3:(ts.zipIdx.map fun q=>D.int (((ar p q.2).length:Int) - ((aP q.1).length:Int)))=(ts.zipIdx.map fun q=>((ar p q.2).length:Int) - ((aP q.1).length:Int)).map D.int:=by rw [List.map_map]; rfl
    rw [z3]
    have v:(ts.zipIdx.map fun q=>((ar p q.2).length:Int) - ((aP q.1).length:Int))≠[]:=fun z=>by
     have:=congrArg List.length z
     rw [List.length_map,List.length_zipIdx] at this
     simp at this
     rw [this] at ho
     simp at ho
    obtain ⟨m1,m2⟩:=kh v
    have z4:mP [.lst ((ts.zipIdx.map fun q=>((ar p q.2).length:Int) - ((aP q.1).length:Int)).map D.int)]= .ok (.int (kg (ts.zipIdx.map fun q=>((ar p q.2).length:Int) - ((aP q.1).length:Int)))):=by
     revert v
     cases (ts.zipIdx.map fun q=>((ar p q.2).length:Int) - ((aP q.1).length:Int)) with
     | nil=>intro h; exact absurd rfl h
     | cons a l=>intro _; exact vO
    simp only [aL,z4]
    refine congrArg Res.ok ?_
    cases j:cu ts p with
    | nil=>
     show decide (_ < (0:Int))=false
     refine decide_eq_false fun h=> ?_
     obtain ⟨q,i,e⟩:=List.mem_map.mp m1
     have:q∈cu ts p:=List.mem_filter.mpr ⟨i,decide_eq_true (by omega)⟩
     rw [j] at this
     cases this
    | cons q N=>
     show decide (_ < (0:Int))=true
     have i:q∈cu ts p:=by rw [j]; exact List.mem_cons_self ..
     obtain ⟨k,w⟩:=List.mem_filter.mp i
     have h3:(ar p q.2).length < (aP q.1).length:=of_decide_eq_true w
     have:=m2 _ (List.mem_map.mpr ⟨q,k,rfl⟩)
     exact decide_eq_true (by omega)
   ·have ec:cI [none,some 3,some 2] (j_ rs g ts p r s J L)=[none,some (.lst (p.map aj)),some (.lst (ts.map bx))]:=rfl
    rw [ec]
    simp only [aL,T q i,B q i,R q i,G,y]
  cases j:cu ts p with
  | nil=>
   left
   rw [M,j]
   refine ⟨rfl,some (.lst ((eQ rs g ts p).map D.int)),some (.lst ((cz rs ts p).map D.int)),r,s,J,L,?_⟩
   rw [← hR,qz j]
  | cons q N=>
   right
   have hs:=wQ I C.tr hr5 hf
   obtain ⟨m,rfl⟩:∃ m,n=m+1:=⟨n - 1,by omega⟩
   rw [M,j]
   refine ⟨rfl,m,?_⟩
   have A:bV (f2 rs g ts p) q N∈cu ts p:=by rw [j]; exact me _ _ _
   have P:bV (f3 rs g ts p) q N=bV (f2 rs g ts p) q N:=by
    have V:(cu ts p).Pairwise fun a b=>a.2≠b.2:=gG
    rw [j,List.pairwise_cons] at V
    exact rO N q (fun u hu z=>V.1 u hu z.symm) V.2
   generalize hu:bV (f2 rs g ts p) q N=u at A P
   have I':=pX (rs:=rs) (g:=g) I A
   have hmz:=(List.mem_filter.mp A).1
   have hz:=mem_zip.mp hmz
   have hk:u.2 < p.length:=by rw [I.len]; exact (dZ hz).1
   have F:∀ q∈cu ts p,(aP q.1)[(ar p q.2).length]?=some (cy p q)∧cy p q < rs.length:=fun q i=>by
    obtain ⟨k,w⟩:=List.mem_filter.mp i
    have h3:=zF (ts:=ts) (of_decide_eq_true w)
    exact ⟨h3,gQ (C.good k) _ (List.mem_of_getElem? h3)⟩
   have e2:iA [.lst ((cu ts p).map fun q=>bp (f3 rs g ts p q))]= .ok (bp (f3 rs g ts p u)):=by
    have k:=yr (t:=f3 rs g ts p q) (ts:=N.map (f3 rs g ts p))
    rw [m5,P] at k
    have e:((q :: N).map fun q=>bp (f3 rs g ts p q))=(f3 rs g ts p q :: N.map (f3 rs g ts p)).map bp:=by rw [List.map_cons,List.map_cons,List.map_map]; rfl
    rw [j,e]
    exact k
   have t0:av (bp (f3 rs g ts p u)) (.int 0)= .ok (.int (eE rs g ts p u)):=no
   have t1:av (bp (f3 rs g ts p u)) (.int 1)= .ok (.int (u.2:Int)):=sG
   have t2:av (bp (f3 rs g ts p u)) (.int 2)= .ok (.int (cy p u:Int)):=pS
   suffices h:∃ S,(ay (aQ 6 (cE aG (cw pN)))
  (ay (dY (sR1 (pC (c1 (ac 2) bj) pN)) (bD 7) (dn (cQ (ae (c1 (ae (ac 3) (ac 7) av) bj) (c1 (bv (pC (ae (ac 2) (ac 7) av) pN) (aF K CL Y)) bj) qd)) (ay (aQ 8 (fW 0 (ae (bv (pC (ae (ac 2) (ac 7) av) pN) (aF K CL Y)) (c1 (ae (ac 3) (ac 7) av) bj) av)))
  (fS 6 (fW 0 (jV (pC (bv (pC (ae (ac 5) (ac 7) av) (pC (ae (ac 4) (ac 8) av) pN)) nE) (pC (ac 7) (pC (ac 8) pN))))))) nxt))
  (ay (aQ 9 (fW 0 (c1 (ac 6) iA)))
  (ay (kv 3 (ae (ac 9) (kI 1) av) (cE aG (ae (ac 9) (kI 0) av)))
  (ay (mx 5 (ae (ac 9) (kI 1) av) (cE aG (ae (ae (ac 9) (kI 0) av) (ae (ac 0) (ae (ac 9) (kI 2) av) av) a_)))
  (mx 4 (ae (ac 9) (kI 2) av) (fW 0 (ae (ae (ac 5) (ae (ac 9) (kI 1) av) av) (ac 1) a_)))))))) (j_ rs g ts p r s J L)= .nx S∧∃ r s J L,S=j_ rs g ts (step rs g ts p u) r s J L by
    obtain ⟨S,k,a6,a7,a8,a9,w⟩:=h
    refine ⟨S,rfl,k,step rs g ts p u,a6,a7,a8,a9,I',?_,?_,w⟩
    ·unfold step; rw [pf hk]; omega
    ·rw [← hR,qB j,hu]
   simp only [aL,Z]
   refine nR (fun O o=>∃ s J,o=j_ rs g ts p (some (.lst ((O.filter (lN p)).map fun q=>bp (f3 rs g ts p q)))) s J L) ⟨_,_,rfl⟩ (fun O q post H o W=> ?_) (fun S X=> ?_)
   ·obtain ⟨s,J,e⟩:=W
    subst e
    refine ⟨_,rfl,?_⟩
    have i:q∈ts.zipIdx:=by rw [H]; simp
    have hpl:O.length≤5:=by
     have:=congrArg List.length H
     rw [List.length_zipIdx,List.length_append] at this
     omega
    simp only [aL,T q i,B q i,R q i,G,y,hgo]
    cases U:lN p q with
    | true=>
     have hqc:q∈cu ts p:=List.mem_filter.mpr ⟨i,U⟩
     obtain ⟨s1,x⟩:=F q hqc
     have x1:av (aT q.1) (.int ((ar p q.2).length:Int))= .ok (.int (cy p q:Int)):=sQ s1
     simp only [aL,x1,bS]
     have x2:=bi (g:=D.int) (uC (rs:=rs) (p:=p) i)
     have x3:=bi (g:=D.int) (vn (g:=g) (ts:=ts) (p:=p) x)
     have hfl:=List.length_filter_le (lN p) O
     refine ⟨_,jh (d:=bp (f3 rs g ts p q)) rfl ?_ (by rw [List.length_map]; omega),some (.int (q.2:Int)),some (.int (cy p q:Int)),?_⟩
     ·have x4:bw 0 (.tup [.int (max (there rs p q) (free rs g ts p (cy p q))),.int (q.2:Int),.int (cy p q:Int)])=true:=pR (t:=f3 rs g ts p q)
      simp only [aL,x2,x3,x4]
      rfl
     ·rw [List.filter_append,List.filter_cons_of_pos U,List.filter_nil,List.map_append]
      rfl
    | false=>
     simp only [aL]
     refine ⟨_,rfl,some (.int (q.2:Int)),J,?_⟩
     rw [List.filter_append,List.filter_cons_of_neg (by rw [U]; exact Bool.false_ne_true),List.filter_nil,List.append_nil]
   ·refine cps fun PP kP=> ?_
    obtain ⟨s,J,e⟩:=X
    subst e
    have e2':iA [.lst ((ts.zipIdx.filter (lN p)).map fun q=>bp (f3 rs g ts p q))]= .ok (bp (f3 rs g ts p u)):=e2
    have x4:bw 0 (bp (f3 rs g ts p u))=true:=pR (t:=f3 rs g ts p u)
    obtain ⟨s1,x⟩:=F u A
    refine kP ?_; clear kP PP
    have y0:av (.lst (rs.map D.int)) (.int (cy p u:Int))= .ok (.int (rs.getD (cy p u) 0)):=bi (g:=D.int) (gC x)
    have lt:(cz rs ts p).length=ts.length:=by unfold cz; rw [List.length_map,List.length_zipIdx]
    have lfr:(eQ rs g ts p).length=rs.length:=by unfold eQ; rw [List.length_map,List.length_range]
    have E:u.2 < ts.length:=by rw [← I.len]; exact hk
    simp only [aL,e2',x4]
    rw [sF (m:=u.2) (l:=p.map aj) (row:=(ar p u.2).map D.int) (d:= .int (eE rs g ts p u)) rfl (by simp only [aL,t1]) (by simp only [aL,t0]) (by rw [List.getElem?_map,cJ hk]; rfl) (by rw [List.length_map]; have:=yT C I hk; omega)]
    have e5:(p.map aj).set u.2 (.lst ((ar p u.2).map D.int ++ [.int (eE rs g ts p u)]))=(step rs g ts p u).map aj:=by
     unfold step; rw [List.map_set]; unfold aj; rw [List.map_append]; rfl
    simp only [aL,e5]
    rw [oz (m:=u.2) (l:=(cz rs ts p).map D.int) (d:= .int (eE rs g ts p u+rs.getD (cy p u) 0)) rfl (by simp only [aL,t0,t2,y0]) (by simp only [aL,t1]) (by rw [List.length_map,lt]; exact E)]
    have e6:((cz rs ts p).map D.int).set u.2 (.int (eE rs g ts p u+rs.getD (cy p u) 0))=(cz rs ts (step rs g ts p u)).map D.int:=by
     rw [kS I A,List.map_set]
    simp only [aL,e6]
    have y1:av (.lst ((cz rs ts (step rs g ts p u)).map D.int)) (.int (u.2:Int))= .ok (.int (eE rs g ts p u+rs.getD (cy p u) 0)):=bi (g:=D.int) (by rw [kS I A,List.getElem?_set,if_pos rfl,if_pos (by rw [lt]; exact E)])
    rw [oz (m:=cy p u) (l:=(eQ rs g ts p).map D.int) (d:= .int (eE rs g ts p u+rs.getD (cy p u) 0+g)) rfl (by simp only [aL,t1,y1,bS]) (by simp only [aL,t2]) (by rw [List.length_map,lfr]; exact x)]
    have e7:((eQ rs g ts p).map D.int).set (cy p u) (.int (eE rs g ts p u+rs.getD (cy p u) 0+g))=(eQ rs g ts (step rs g ts p u)).map D.int:=by
     rw [rc C I A x,List.map_set]
    simp only [aL,e7]
    exact ⟨_,rfl,_,_,_,_,rfl⟩
 ·subst e
  rfl
end
set_option maxHeartbeats 1000000
noncomputable def inT (rs:List Int):Int→List (Nat×Int)→Bool
 | _,[]=>true
 | s,u :: l=> !decide (u.2 < s) && inT rs (u.2+rs.getD u.1 0) l
noncomputable def sn (rs:List Int)(r:Int)(pre:List (Nat×Int)):Int:=pre.foldl (fun _ u=>u.2+rs.getD u.1 0) r
theorem pc {rs:List Int}{r:Int}{pre:List (Nat×Int)}{u:Nat×Int}:sn rs r (pre ++ [u])=u.2+rs.getD u.1 0:=by
 unfold sn; rw [List.foldl_append]; rfl
theorem kj {rs:List Int}{r:Int}:∀ (xs pre:List (Nat×Int)),dg (fun pre u=> !decide (u.2 < sn rs r pre)) pre xs=inT rs (sn rs r pre) xs
 | [],_=>rfl
 | u :: xs,pre=>by
  show (!decide (u.2 < sn rs r pre) && dg (fun pre u=> !decide (u.2 < sn rs r pre)) (pre ++ [u]) xs)=_
  rw [kj xs,pc]
  rfl
theorem nJ {α β:Type}{f:α→β}{p:List β→β→Bool}:∀ (xs pre:List α),dg (fun pre v=>p (pre.map f) (f v)) pre xs=dg p (pre.map f) (xs.map f)
 | [],_=>rfl
 | x :: xs,pre=>by
  show (p (pre.map f) (f x) && dg (fun pre v=>p (pre.map f) (f v)) (pre ++ [x]) xs)=_
  rw [nJ xs,List.map_append]
  rfl
noncomputable def bA (T:Pl)(q:Q):List (Nat×Int):=(aP q.1).zip (ar T q.2)
noncomputable def gE (rs:List Int)(ts:List Tr)(T:Pl):Bool:=ts.zipIdx.all fun q=>inT rs q.1.2.2 (bA T q)
noncomputable def Ap (rs:List Int)(g:Int)(ts:List Tr)(T:Pl)(s:Nat):Prop:=∀ e∈dP ts T s,∀ e'∈dP ts T s,e.2≠e'.2→e.1+apart rs g s≤e'.1∨e'.1+apart rs g s≤e.1
theorem pair_mem {w:List Nat}{row:List Int}{s:Nat}{m:Int}:m∈aV w row s↔(s,m)∈w.zip row:=by
 unfold aV
 rw [List.mem_map]
 constructor
 ·intro a
  obtain ⟨q,d,rfl⟩:=a
  obtain ⟨b,c⟩:=List.mem_filter.mp d
  have e:q.1=s:=by simpa using c
  rw [← e]
  exact b
 ·intro h
  exact ⟨(s,m),List.mem_filter.mpr ⟨h,beq_self_eq_true s⟩,rfl⟩
theorem l9 {α:Type}{R:α→α→Prop}:∀ {l:List α},l.length≤1→l.Pairwise R
 | [],_=> .nil
 | [_],_=>List.pairwise_singleton ..
 | _ :: _ :: _,h=>by simp at h
theorem ent_pw {ts:List Tr}{T:Pl}{s:Nat}:(dP ts T s).Pairwise fun a b=>a.2≠b.2:=by
 unfold dP
 rw [List.pairwise_flatMap]
 refine ⟨fun q _=>l9 (by rw [List.length_map]; exact eF dB),?_⟩
 have h:(ts.zipIdx.filter fun _=>true).Pairwise fun a b=>a.2≠b.2:=gG
 rw [List.filter_eq_self.mpr fun _ _=>rfl] at h
 refine h.imp fun {a b} X x C y B=> ?_
 refine cps fun PP G=> ?_
 obtain ⟨_,_,rfl⟩:=List.mem_map.mp C
 obtain ⟨_,_,rfl⟩:=List.mem_map.mp B
 refine G ?_; clear G PP
 exact X
theorem tE {α:Type}{R:α→α→Prop}:∀ {l:List α},l.Pairwise R→∀ x∈l,∀ y∈l,x≠y→R x y∨R y x
 | [],_,_,h,_,_,_=>by cases h
 | a :: l,hp,x,hx,y,hy,hne=>by
  rw [List.pairwise_cons] at hp
  rcases List.mem_cons.mp hx with hx1 | hx1
  ·rcases List.mem_cons.mp hy with hy1 | hy1
   ·exact absurd (hx1.trans hy1.symm) hne
   ·rw [hx1]; exact .inl (hp.1 y hy1)
  ·rcases List.mem_cons.mp hy with hy1 | hy1
   ·rw [hy1]; exact .inr (hp.1 x hx1)
   ·exact tE hp.2 x hx1 y hy1 hne
theorem uT {α:Type}{R:α→α→Prop}(tr:∀ a b c,R a b→R b c→R a c):∀ {l:List α},(∀ u∈l.zip l.tail,R u.1 u.2)→l.Pairwise R
 | [],_=> .nil
 | [_],_=>List.pairwise_singleton ..
 | a :: b :: l,h=>by
  have d:R a b:=h (a,b) (by simp)
  have e:=uT tr (l:=b :: l) fun u E=>h u (by
   show u∈(a,b) :: (b :: l).zip l
   exact dt E)
  rw [List.pairwise_cons]
  refine ⟨fun c hc=> ?_,e⟩
  rcases List.mem_cons.mp hc with rfl | hc
  ·exact d
  ·exact tr _ _ _ d ((List.pairwise_cons.mp e).1 c hc)
theorem qV {α:Type}:∀ {l:List α},l.Nodup→∀ u∈l.zip l.tail,u.1∈l∧u.2∈l∧u.1≠u.2
 | [],_,u,hu=>by simp at hu
 | [_],_,u,hu=>by simp at hu
 | a :: b :: l,h,u,hu=>by
  rw [List.nodup_cons] at h
  have hu:u∈(a,b) :: (b :: l).zip l:=hu
  rcases List.mem_cons.mp hu with rfl | hu
  ·exact ⟨by simp,by simp,fun z=>h.1 (by show a∈b :: l; rw [show a=b from z]; simp)⟩
  ·obtain ⟨c,d,A⟩:=qV h.2 u hu
   exact ⟨dt c,dt d,A⟩
theorem vJ {a b:Int}{i j:Int}(h:HT.aI [b,j] [a,i]=false):a≤b:=by
 unfold HT.aI at h
 by_cases e:b=a
 ·omega
 ·rw [if_neg e] at h
  have:=of_decide_eq_false h
  omega
noncomputable def lM (d:Int)(u:List Int×List Int):Bool:= !decide (u.2.headD 0 < u.1.headD 0+d)
theorem xj {rs:List Int}{g:Int}{ts:List Tr}{T:Pl}{s:Nat}{l:List (List Int)}(hd:1≤apart rs g s)(hm:∀ t,t∈l↔t∈(dP ts T s).map fun e=>[e.1,(e.2:Int)])(hn:l.Nodup)(hs:∀ u∈l.zip l.tail,HT.aI u.2 u.1=false) :
  (l.zip l.tail).all (lM (apart rs g s))=true↔Ap rs g ts T s:=by
 rw [List.all_eq_true]
 constructor
 ·intro h
  have o:=uT (R:=fun a b:List Int=>a.headD 0+apart rs g s≤b.headD 0) (fun a b c k m=>by omega) (l:=l) fun u E=>by
   have:=h u E
   unfold lM at this
   rw [Bool.not_eq_true',decide_eq_false_iff_not] at this
   omega
  intro e j H d W
  exact tE o [e.1,(e.2:Int)] ((hm _).mpr (List.mem_map.mpr ⟨e,j,rfl⟩)) [H.1,(H.2:Int)] ((hm _).mpr (List.mem_map.mpr ⟨H,d,rfl⟩)) fun z=>W (by
   have:(e.2:Int)=(H.2:Int):=by
    injection z with _ z
    injection z
   omega)
 ·intro h u E
  refine cps fun PP G=> ?_
  obtain ⟨k,m,A⟩:=qV hn u E
  obtain ⟨e,j,U⟩:=List.mem_map.mp ((hm _).mp k)
  obtain ⟨H,d,v⟩:=List.mem_map.mp ((hm _).mp m)
  refine G ?_; clear G PP
  have f:=hs u E
  rw [← U,← v] at f
  have n:=vJ f
  have i:e.2≠H.2:=fun z=>by
   by_cases q:e=H
   ·rw [q] at U
    exact A (U.symm.trans v)
   ·rcases tE ent_pw e j H d q with y | y
    ·exact y z
    ·exact y z.symm
  unfold lM
  rw [← U,← v,Bool.not_eq_true',decide_eq_false_iff_not]
  show ¬ H.1 < e.1+apart rs g s
  rcases h e j H d i with y | y <;> omega
noncomputable def f7 (ts:List Tr)(T:Pl):List (Nat×Int):=ts.zipIdx.flatMap (bA T)
noncomputable def Ct (a b:Int):Int:=if a - b < 0 then -(a - b) else a - b
noncomputable def BV (rs:List Int)(g:Int)(a b:Nat×Int):Bool:= !((a.1 == b.1) && decide (Ct a.2 b.2 < rs.getD a.1 0+g))
theorem vOk_iff {rs:List Int}{g:Int}{a b:Nat×Int}:BV rs g a b=true↔(a.1=b.1→a.2+apart rs g a.1≤b.2∨b.2+apart rs g a.1≤a.2):=by
 unfold BV Ct apart
 by_cases e:a.1=b.1
 ·rw [e,beq_self_eq_true,Bool.true_and,Bool.not_eq_true',decide_eq_false_iff_not]
  constructor
  ·intro h _
   split at h <;> omega
  ·intro h
   have:=h rfl
   split <;> omega
 ·rw [beq_eq_false_iff_ne.mpr e]
  exact ⟨fun _ z=>absurd z e,fun _=>rfl⟩
theorem nH:∀ {w:List Nat} {row:List Int},w.Nodup→(w.zip row).Pairwise fun a b=>a.1≠b.1
 | [],_,_=>by simp
 | _ :: _,[],_=>by simp
 | a :: w,b :: row,h=>by
  rw [List.nodup_cons] at h
  rw [List.zip_cons_cons,List.pairwise_cons]
  exact ⟨fun u E z=>h.1 (by show a∈w; rw [show a=u.1 from z]; exact (List.of_mem_zip E).1),nH h.2⟩
theorem tL {rs:List Int}{g:Int}{ts:List Tr}{T:Pl}(ht:∀ t∈ts,Good rs.length t):(f7 ts T).Pairwise (fun b a=>BV rs g a b=true)↔∀ s,s < rs.length→Ap rs g ts T s:=by
 have w:f7 ts T=(ts.zipIdx.flatMap fun q=>(bA T q).map fun u=>(u,q.2)).map Prod.fst:=by
  unfold f7
  rw [List.map_flatMap]
  congr 1
  funext q
  rw [List.map_map]
  exact (List.map_id _).symm
 have F:∀ s m k,((s,m),k)∈(ts.zipIdx.flatMap fun q=>(bA T q).map fun u=>(u,q.2))↔(m,k)∈dP ts T s:=fun s m k=>by
  rw [ent_mem,List.mem_flatMap]
  constructor
  ·intro i
   refine cps fun PP G=> ?_
   obtain ⟨q,f,h⟩:=i
   obtain ⟨u,E,e⟩:=List.mem_map.mp h
   refine G ?_; clear G PP
   cases e
   exact ⟨q.1,mem_zip.mp f,pair_mem.mpr E⟩
  ·intro j
   obtain ⟨t,ht,A⟩:=j
   exact ⟨(t,k),mem_zip.mpr ht,List.mem_map.mpr ⟨(s,m),pair_mem.mp A,rfl⟩⟩
 have l:(ts.zipIdx.flatMap fun q=>(bA T q).map fun u=>(u,q.2)).Pairwise fun x y=>x.1.1=y.1.1→x.2≠y.2:=by
  rw [List.pairwise_flatMap]
  refine ⟨fun q _=> ?_,?_⟩
  ·rw [List.pairwise_map]
   exact (nH dB).imp fun h z=>absurd z h
  ·have h:(ts.zipIdx.filter fun _=>true).Pairwise fun a b=>a.2≠b.2:=gG
   rw [List.filter_eq_self.mpr fun _ _=>rfl] at h
   refine h.imp fun {a b} X x C y B _=> ?_
   refine cps fun PP G=> ?_
   obtain ⟨_,_,rfl⟩:=List.mem_map.mp C
   obtain ⟨_,_,rfl⟩:=List.mem_map.mp B
   refine G ?_; clear G PP
   exact X
 rw [w,List.pairwise_map]
 constructor
 ·intro h s L e M H c W
  have D:=(F s e.1 e.2).mpr M
  have p:=(F s H.1 H.2).mpr c
  rcases tE h _ D _ p (fun z=>W (congrArg (fun v:(Nat×Int)×Nat=>v.2) z)) with y | y
  ·have:=vOk_iff.mp y rfl
   dsimp only at this
   omega
  ·have:=vOk_iff.mp y rfl
   dsimp only at this
   omega
 ·intro h
  refine l.imp_of_mem fun {x y} C B J=> ?_
  refine vOk_iff.mpr fun e=> ?_
  refine cps fun PP G=> ?_
  obtain ⟨⟨s,m⟩,k⟩:=x
  obtain ⟨⟨V,n⟩,I⟩:=y
  refine G ?_; clear G PP
  dsimp only at e J ⊢
  subst e
  have d:=(F V m k).mp C
  have K:=(F V n I).mp B
  obtain ⟨t,o,r⟩:=ent_mem.mp d
  have L:V < rs.length:=gQ (ht t (List.mem_of_getElem? o)) _ (List.of_mem_zip (pair_mem.mp r)).1
  have:=h V L (m,k) d (n,I) K (J rfl)
  dsimp only at this
  omega
theorem pA {V:List (Nat×Int)}{p:(Nat×Int)→(Nat×Int)→Bool}:((List.range V.length).all fun a=>(List.range a).all fun b=>p (V.getD a (0,0)) (V.getD b (0,0)))=true↔V.Pairwise (fun b a=>p a b=true):=by
 rw [List.pairwise_iff_getElem,List.all_eq_true]
 constructor
 ·intro h i j g n I
  have:=List.all_eq_true.mp (h j (List.mem_range.mpr n)) i (List.mem_range.mpr I)
  rw [List.getD_eq_getElem?_getD,List.getD_eq_getElem?_getD,cS g,cS n] at this
  exact this
 ·intro h a z
  rw [List.all_eq_true]
  intro b u
  have z:=List.mem_range.mp z
  have u:=List.mem_range.mp u
  have:=h b a (by omega) z u
  rw [List.getD_eq_getElem?_getD,List.getD_eq_getElem?_getD,cS z,cS (by omega)]
  exact this
set_option maxHeartbeats 1000000
section
variable{K:W.Frag}{CL:Addr}{Y:Ad}
theorem ng {ts:List Tr}{p:Pl}{s:Nat}(hlen:p.length=ts.length)(hb:∀ r∈p,r.length≤1000)(ht:ts.length≤5) :
  ∃ l:List (List Int),bF K CL Y [.lst (ts.map aT),.lst (p.map aj),.int s]= .ok (.lst (l.map bp))∧l.length≤5∧(∀ t,t∈l↔t∈(dP ts p s).map fun e=>[e.1,(e.2:Int)])∧l.Nodup∧(∀ u∈l.zip l.tail,HT.aI u.2 u.1=false)∧cq [.lst (((dP ts p s).map fun e=>[e.1,(e.2:Int)]).map bp)]= .ok (.lst (l.map bp)):=by
 have D:((dP ts p s).map fun e=>[e.1,(e.2:Int)]).Nodup:=List.pairwise_map.mpr (ent_pw.imp fun {a b} h z=>h (by
  have:(a.2:Int)=(b.2:Int):=by
   injection z with _ z
   injection z
  omega))
 refine qL (rZ ((dP ts p s).map fun e=>[e.1,(e.2:Int)]) (by rw [List.length_map]; exact Nat.le_trans sx ht) (fun t h=>by obtain ⟨e,_,rfl⟩:=List.mem_map.mp h; exact fun z=>by cases z) D) fun l e F P C B=> ?_
 refine (Dp l ?_ (by rw [F,List.length_map]; exact Nat.le_trans sx ht) P C B e)
 unfold bF
 refine (b3 rfl).trans ?_
 have e0:aA gn [.lst (ts.map aT),.lst (p.map aj),.int s]=[some (.lst (ts.map aT)),some (.lst (p.map aj)),some (.int s),none,none,none,none,none]:=rfl
 rw [e0]
 unfold ef
 simp only [aL,oo]
 have one:∀ q:Q,((aV (aP q.1) (ar p q.2) s).map fun m=>[m,(q.2:Int)]).length≤1:=fun q=>by rw [List.length_map]; exact eF dB
 refine mh (fun M c=>∃ A G w v,c=[some (.lst (ts.map aT)),some (.lst (p.map aj)),some (.int s),some (.lst ((M.flatMap fun q:Q=>(aV (aP q.1) (ar p q.2) s).map fun m=>[m,(q.2:Int)]).map bp)),A,G,w,v]) (Dr none none none none rfl) (fun M q H Z c j=> ?_) (fun S n=> ?_)
 ·refine Eo (j) fun A G w v e=> ?_
  subst e
  refine ⟨_,rfl,?_⟩
  have L:q∈ts.zipIdx:=by rw [Z]; simp
  have R:M.length≤5:=by
   have:=congrArg List.length Z
   rw [List.length_zipIdx,List.length_append] at this
   omega
  have O:q.2 < p.length:=by rw [hlen]; exact (dZ (mem_zip.mp L)).1
  have i:=bi (g:=aj) (cJ O)
  have y:pp [aT q.1,aj (ar p q.2)]= .ok (((aP q.1).zip (ar p q.2)).map fun u=> .tup [.int (u.1:Int),.int u.2]):=oA
  simp only [aL,i,y]
  have X:=jB (f:=fun q:Q=>(aV (aP q.1) (ar p q.2) s).map fun m=>[m,(q.2:Int)]) M fun q _=>one q
  have U:(ar p q.2).length≤1000:=hb _ (List.mem_of_getElem? (cJ O))
  refine yP (fun N c=>∃ w v,c=[some (.lst (ts.map aT)),some (.lst (p.map aj)),some (.int s),some (.lst (((M.flatMap fun q:Q=>(aV (aP q.1) (ar p q.2) s).map fun m=>[m,(q.2:Int)]) ++ (N.filter fun u=>u.1 == s).map fun u=>[u.2,(q.2:Int)]).map bp)),some (.int q.2),some (aT q.1),w,v]) ⟨_,_,by rw [List.filter_nil,List.map_nil,List.append_nil]⟩ (fun N u po x c o=> ?_) (fun S k=> ?_)
  ·obtain ⟨w,v,e⟩:=o
   subst e
   refine ⟨_,rfl,?_⟩
   cases E:u.1 == s with
   | true=>
    simp only [aL,lm,E]
    have V:(N.filter fun u=>u.1 == s).length≤N.length:=List.length_filter_le ..
    have I:N.length≤(ar p q.2).length:=by
     have:=congrArg List.length x
     rw [List.length_zip,List.length_append] at this
     omega
    refine (yo _ (jh (d:=bp [u.2,(q.2:Int)]) rfl (by simp only [aL]; rfl) (by rw [List.length_map,List.length_append,List.length_map]; omega)) (some (.int u.1)) (some (.int u.2)) ?_)
    rw [List.filter_append,List.filter_cons_of_pos (by exact E),List.filter_nil]
    simp only [List.map_append,List.map_cons,List.map_nil,List.append_assoc]
    rfl
   | false=>
    simp only [aL,lm,E]
    refine (yo _ rfl (some (.int u.1)) (some (.int u.2)) ?_)
    rw [List.filter_append,List.filter_cons_of_neg (by rw [E]; exact Bool.false_ne_true),List.filter_nil,List.append_nil]
  ·obtain ⟨w,v,e⟩:=k
   refine (Dr (some (.int q.2)) (some (aT q.1)) w v ?_)
   rw [e,List.flatMap_append,List.flatMap_singleton]
   unfold aV
   rw [List.map_map]
   rfl
 ·refine Eo (n) fun A G w v e=> ?_
  subst e
  have T:(ts.zipIdx.flatMap fun q:Q=>(aV (aP q.1) (ar p q.2) s).map fun m=>[m,(q.2:Int)])=(dP ts p s).map fun e=>[e.1,(e.2:Int)]:=by
   unfold dP
   rw [List.map_flatMap]
   congr 1
   funext q
   rw [List.map_map]
   rfl
  rw [T]
  have J:cq [.lst (((dP ts p s).map fun e=>[e.1,(e.2:Int)]).map bp)]= .ok (.lst (l.map bp)):=e
  have W:bw 1 (.lst (l.map bp))=true:=uh
  simp only [aL,J,W]
theorem pJ {ts:List Tr}{p:Pl}{s:Nat}(hlen:p.length=ts.length)(hb:∀ r∈p,r.length≤1000)(ht:ts.length≤5) :
  ∃ l:List (List Int),bF K CL Y [.lst (ts.map aT),.lst (p.map aj),.int s]= .ok (.lst (l.map bp))∧l.length≤5∧(∀ t,t∈l↔t∈(dP ts p s).map fun e=>[e.1,(e.2:Int)])∧l.Nodup∧∀ u∈l.zip l.tail,HT.aI u.2 u.1=false:=let ⟨l,h1,h2,h3,h4,h5,_⟩:=ng hlen hb ht; ⟨l,h1,h2,h3,h4,h5⟩
theorem pO:∀ (as bs:List Int),eqBL (as.map D.int) (bs.map D.int)=decide (as=bs)
 | [],[]=>by unfold eqBL; rfl
 | [],_ :: _=>by unfold eqBL; rfl
 | _ :: _,[]=>by unfold eqBL; rfl
 | a :: as,b :: bs=>by
  rw [List.map_cons,List.map_cons]
  unfold eqBL
  rw [pO as bs]
  unfold b8
  by_cases h:a=b
  ·subst h
   rw [beq_self_eq_true,Bool.true_and]
   by_cases c:as=bs
   ·rw [decide_eq_true c,decide_eq_true (by rw [c])]
   ·rw [decide_eq_false c,decide_eq_false (fun z=>c (List.cons.inj z).2)]
  ·rw [beq_eq_false_iff_ne.mpr h,Bool.false_and,decide_eq_false (fun z=>h (List.cons.inj z).1)]
theorem xE {as bs:List Int}:nh (.lst (as.map D.int)) (.lst (bs.map D.int))= .ok (.bl (decide (as=bs))):=by
 unfold nh
 rw [if_pos ⟨kq fun _ _=>gI,kq fun _ _=>gI⟩]
 unfold b8
 rw [pO]
noncomputable def cA (ts:List Tr)(T:Pl):Bool:=decide ((T.map fun r=>(r.length:Int))=ts.map fun t=>((aP t).length:Int))
theorem rm {ts:List Tr}{T:Pl}(h1:ts.length≤5)(h2:T.length≤1000):eW K CL Y [.lst (ts.map aT),.lst (T.map aj)]= .ok (.bl (cA ts T)):=by
 unfold eW
 refine (b3 rfl).trans ?_
 have E:aA eK [.lst (ts.map aT),.lst (T.map aj)]=[some (.lst (ts.map aT)),some (.lst (T.map aj))]:=rfl
 rw [E]
 unfold gd
 simp only [aL]
 rw [bg (xs:=T) (c:=aj) (g:=fun r=>D.int (r.length:Int)) rfl (by omega) (fun r P=>⟨_,rfl,fz⟩),bg (xs:=ts) (c:=aT) (g:=fun t=>D.int ((aP t).length:Int)) rfl (by omega) (fun t e=>⟨_,rfl,fz⟩)]
 have X:(T.map fun r=>D.int (r.length:Int))=(T.map fun r=>(r.length:Int)).map D.int:=by rw [List.map_map]; rfl
 have V:(ts.map fun t=>D.int ((aP t).length:Int))=(ts.map fun t=>((aP t).length:Int)).map D.int:=by rw [List.map_map]; rfl
 simp only [aL,X,V,xE]
 rfl
noncomputable abbrev rT (CL:Addr)(rs:List Int)(g:Int)(ts:List Tr)(T:Pl)(o5 o6 o7 o8 o9:Option D):DS:=[some (aE CL rs g),some (.lst (ts.map bx)),some (.lst (ts.map aT)),some (.lst (T.map aj)),some (.lst (rs.map D.int)),o5,o6,o7,o8,o9]
theorem og {rs:List Int}{g:Int}{ts:List Tr}{T:Pl}(C:Ctx rs g ts)(hlen:T.length=ts.length):cF K CL Y [aE CL rs g,.lst (ts.map bx),.lst (ts.map aT),.lst (T.map aj)]= .ok (.bl (gE rs ts T)):=by
 unfold cF
 refine (b3 rfl).trans ?_
 have U:aA fD [aE CL rs g,.lst (ts.map bx),.lst (ts.map aT),.lst (T.map aj)]=[some (aE CL rs g),some (.lst (ts.map bx)),some (.lst (ts.map aT)),some (.lst (T.map aj)),none,none,none,none,none,none]:=rfl
 rw [U]
 unfold dF
 simp only [aL,Dv,f6,oo]
 refine iQ (fun _ ρ=>∃ t r s I J,ρ=(rT CL rs g ts T t r s I J)) (fun _ q=>inT rs q.1.2.2 (bA T q)) (.bl false) (vz none none none none none rfl) (fun M q v Z ρ B=> ?_) (fun O S A=> ?_) (fun O=> ?_)
 ·refine uN (B) fun t r s I J e=> ?_
  subst e
  have h:q∈ts.zipIdx:=by rw [Z]; simp
  have G:=C.good h
  have H:=mem_zip.mp h
  have O:q.2 < T.length:=by rw [hlen]; exact (dZ H).1
  have f:=bi (g:=aj) (cJ O)
  have l:=bi (g:=bx) H
  have w:av (bx q.1) (.int 2)= .ok (.int q.1.2.2):=pS
  have o:pp [aT q.1,aj (ar T q.2)]= .ok ((bA T q).map fun u=> .tup [.int (u.1:Int),.int u.2]):=oA
  refine ⟨_,rfl,?_⟩
  simp only [aL,l,w,f,o]
  have y:=jT (d:= .bl false) (asg:=iR 8 9) (c:=fun u:Nat×Int=>D.tup [.int (u.1:Int),.int u.2]) (xs:=bA T q)
   (F:=ay (dn (cQ (ae (ac 9) (ac 7) qd)) (br (kB false)) nxt) (aQ 7 (ae (ac 9) (ae (ac 4) (ac 8) av) a_)))
   (P:=fun S=>∃ t r s I J,S=(rT CL rs g ts T t r s I J))
   (ρ:=(rT CL rs g ts T (some (.int (q.2:Int))) (some (aT q.1)) (some (.int q.1.2.2)) I J))
   (fun M ρ=>∃ I J,ρ=(rT CL rs g ts T (some (.int (q.2:Int))) (some (aT q.1)) (some (.int (sn rs q.1.2.2 M))) I J))
   (fun M u=> !decide (u.2 < sn rs q.1.2.2 M)) ⟨I,J,rfl⟩ (fun Q u V n ρ z=>by
    obtain ⟨I,J,e⟩:=z
    subst e
    have R:u∈bA T q:=by rw [n]; simp
    have N:u.1 < rs.length:=gQ G _ (List.of_mem_zip R).1
    have L:=bi (g:=D.int) (gC (d:=0) N)
    refine (iZ _ rfl (fun p=> ?_) (fun p=> ?_))
    ·rw [Bool.not_eq_true'] at p
     refine (yo (rT CL rs g ts T (some (.int (q.2:Int))) (some (aT q.1)) (some (.int (sn rs q.1.2.2 (Q ++ [u])))) (some (.int (u.1:Int))) (some (.int u.2))) ?_ _ _ rfl)
     simp only [aL,p,L,pc]
    ·rw [Bool.not_eq_false'] at p
     simp only [aL,p]) (fun S E=>(by obtain ⟨I,J,e⟩:=E; exact (vz _ _ _ _ _ e)))
  rw [show dg (fun M u=> !decide (u.2 < sn rs q.1.2.2 M)) [] (bA T q)=inT rs q.1.2.2 (bA T q) from kj _ []] at y
  exact y
 ·refine uN (A) fun t r s I J e=> ?_
  subst e
  rw [bT] at O
  simp only [aL]
  unfold gE
  rw [O]
 ·rw [bT] at O
  unfold gE
  rw [O]
end
set_option maxHeartbeats 1000000
section
variable{K:W.Frag}{CL:Addr}{Y:Ad}
theorem u1 {l:List D}:ky (some 1) none (.lst l)= .ok (.lst l.tail):=by
 show Res.ok (D.lst ((l.drop (HT.cH l.length 0 (some 1))).take (HT.cH l.length l.length none - HT.cH l.length 0 (some 1))))=_
 have T:HT.cH l.length 0 (some 1)=min 1 l.length:=HT.yW l.length 0 1
 have t:HT.cH l.length l.length none=l.length:=rfl
 rw [T,t]
 cases l with
 | nil=>rfl
 | cons a l=>
  have:min 1 (a :: l).length=1:=by rw [List.length_cons]; omega
  rw [this,List.length_cons]
  show Res.ok (D.lst (l.take (l.length+1 - 1)))=_
  rw [Nat.add_sub_cancel,List.take_length]
  rfl
noncomputable abbrev rA (CL:Addr)(rs:List Int)(g:Int)(ts:List Tr)(T:Pl)(o4 o5 o6 o7 o8:Option D):DS:=[some (aE CL rs g),some (.lst (ts.map aT)),some (.lst (T.map aj)),some (.int g),o4,o5,o6,o7,o8]
noncomputable def Ch (rs:List Int)(g:Int)(ts:List Tr)(T:Pl)(s:Nat):Bool:= @decide (Ap rs g ts T s) (Classical.propDecidable _)
theorem apB_iff {rs:List Int}{g:Int}{ts:List Tr}{T:Pl}{s:Nat}:Ch rs g ts T s=true↔Ap rs g ts T s:=by unfold Ch; exact @decide_eq_true_iff _ (Classical.propDecidable _)
noncomputable def hO (rs:List Int)(g:Int)(ts:List Tr)(T:Pl):Bool:=rs.zipIdx.all fun q=>Ch rs g ts T q.2
theorem m3 {rs:List Int}{g:Int}{ts:List Tr}{T:Pl}:hO rs g ts T=true↔∀ s,s < rs.length→Ap rs g ts T s:=by
 unfold hO
 rw [List.all_eq_true]
 constructor
 ·intro h s L
  exact apB_iff.mp (h (rs[s],s) (mem_zip.mpr (cS L)))
 ·intro h q d
  exact apB_iff.mpr (h q.2 (dZ (mem_zip.mp d)).1)
theorem pB {rs:List Int}{g:Int}{ts:List Tr}{T:Pl}(C:Ctx rs g ts)(hlen:T.length=ts.length)(hb:∀ r∈T,r.length≤1000):dR K CL Y [aE CL rs g,.lst (ts.map aT),.lst (T.map aj)]= .ok (.bl (hO rs g ts T)):=by
 unfold dR
 refine (b3 rfl).trans ?_
 have e0:aA hG [aE CL rs g,.lst (ts.map aT),.lst (T.map aj)]=[some (aE CL rs g),some (.lst (ts.map aT)),some (.lst (T.map aj)),none,none,none,none,none,none]:=rfl
 rw [e0]
 unfold fq
 simp only [aL,Dv,FX,qY,f6,oo]
 refine iQ (fun _ ρ=>∃ v x w t I,ρ=rA CL rs g ts T v x w t I) (fun _ q=>Ch rs g ts T q.2) (.bl false) (vz none none none none none rfl) (fun R q W Z ρ H=> ?_) (fun O S G=> ?_) (fun O=> ?_)
 ·refine uN (H) fun v x w t I e=> ?_
  subst e
  have j:q∈rs.zipIdx:=by rw [Z]; simp
  have E:=mem_zip.mp j
  have a:q.2 < rs.length:=(dZ E).1
  have k:rs.getD q.2 0=q.1:=by rw [List.getD_eq_getElem?_getD,E]; rfl
  have hd:1≤apart rs g q.2:=by
   have:=tG C.ln a
   have:=C.ln.gap
   unfold apart; omega
  refine qL (pJ (K:=K) (CL:=CL) (Y:=Y) (s:=q.2) hlen hb C.few) fun l f l5 M V X=> ?_
  have N:=xj hd M V X
  have o:pp [.lst (l.map bp),.lst ((l.map bp).tail)]= .ok ((l.zip l.tail).map fun u=> .tup [bp u.1,bp u.2]):=by
   rw [← List.map_tail]; exact oA
  refine ⟨_,rfl,?_⟩
  simp only [aL,f,u1,o]
  have y:=jT (d:= .bl false) (asg:=iR 7 8) (c:=fun u:List Int×List Int=>D.tup [bp u.1,bp u.2]) (xs:=l.zip l.tail)
   (F:=dn (cQ (ae (ae (ac 8) (kI 0) av) (ae (ae (ae (ac 7) (kI 0) av) (ac 5) a_) (ac 3) a_) qd)) (br (kB false)) nxt)
   (P:=fun S=>∃ v x w t I,S=rA CL rs g ts T v x w t I)
   (ρ:=rA CL rs g ts T (some (.int (q.2:Int))) (some (.int q.1)) (some (.lst (l.map bp))) t I)
   (fun R ρ=>∃ t I,ρ=rA CL rs g ts T (some (.int (q.2:Int))) (some (.int q.1)) (some (.lst (l.map bp))) t I)
   (fun _ u=>lM (apart rs g q.2) u) ⟨t,I,rfl⟩ (fun pr u po n ρ L=>by
    refine cps fun PP U=> ?_
    obtain ⟨t,I,e⟩:=L
    subst e
    have m:u∈l.zip l.tail:=by rw [n]; simp
    obtain ⟨h,i,_⟩:=qV V u m
    obtain ⟨e1,_,b⟩:=List.mem_map.mp ((M _).mp h)
    obtain ⟨e2,_,f2⟩:=List.mem_map.mp ((M _).mp i)
    refine U ?_; clear U PP
    have A:av (bp u.1) (.int 0)= .ok (.int (u.1.headD 0)):=by rw [← b]; exact no
    have B:av (bp u.2) (.int 0)= .ok (.int (u.2.headD 0)):=by rw [← f2]; exact no
    have z:decide (u.2.headD 0 < u.1.headD 0+q.1+g)= !lM (apart rs g q.2) u:=by
     unfold lM apart
     rw [k,Bool.not_not,Int.add_assoc]
    refine (iZ _ rfl (fun p=> ?_) (fun p=> ?_))
    ·rw [p] at z
     refine (yo (rA CL rs g ts T (some (.int (q.2:Int))) (some (.int q.1)) (some (.lst (l.map bp))) (some (bp u.1)) (some (bp u.2))) ?_ _ _ rfl)
     simp only [aL,A,B,z]
    ·rw [p] at z
     simp only [aL,A,B,z]) (fun S J=>(by obtain ⟨t,I,e⟩:=J; exact (vz _ _ _ _ _ e)))
  rw [bT] at y
  have Q:(l.zip l.tail).all (fun u=>lM (apart rs g q.2) u)=Ch rs g ts T q.2:=by
   rw [Bool.eq_iff_iff,apB_iff]; exact N
  rw [Q] at y
  exact y
 ·refine uN (G) fun v x w t I e=> ?_
  subst e
  rw [bT] at O
  simp only [aL]
  unfold hO
  rw [O]
 ·rw [bT] at O
  unfold hO
  rw [O]
theorem dC {ts:List Tr}{T:Pl}(h:cA ts T=true):T.length=ts.length:=by
 unfold cA at h
 have:=congrArg List.length (of_decide_eq_true h)
 rw [List.length_map,List.length_map] at this
 exact this
theorem f9 {ts:List Tr}{T:Pl}(h:cA ts T=true){q:Q}(hq:q∈ts.zipIdx):(ar T q.2).length=(aP q.1).length:=by
 have N:=dC h
 have D:=mem_zip.mp hq
 have O:q.2 < ts.length:=(dZ D).1
 unfold cA at h
 have:=congrArg (fun l:List Int=>l[q.2]?) (of_decide_eq_true h)
 simp only [List.getElem?_map] at this
 rw [D,cJ (by rw [N]; exact O)] at this
 have A:((ar T q.2).length:Int)=((aP q.1).length:Int):=Option.some.inj this
 omega
theorem vE {rs:List Int}{g:Int}{ts:List Tr}{T:Pl}(C:Ctx rs g ts)(hT:T.length≤1000)(hb:∀ r∈T,r.length≤1000):jL K CL Y [aE CL rs g,.lst (ts.map bx),.lst (T.map aj)]= .ok (.bl (cA ts T && (gE rs ts T && hO rs g ts T))):=by
 have L:=C.few; have D:=C.one; have M:=C.ln.few
 unfold jL
 refine (b3 rfl).trans ?_
 have E:aA n_ [aE CL rs g,.lst (ts.map bx),.lst (T.map aj)]=[some (aE CL rs g),some (.lst (ts.map bx)),some (.lst (T.map aj)),none]:=rfl
 rw [E]
 unfold li
 have U:d6 K CL Y [aE CL rs g,.lst (ts.map bx)]= .ok (.lst (ts.map aT)):=pi C.tr (by omega) D L
 simp only [aL,U,rm (K:=K) (CL:=CL) (Y:=Y) L hT]
 cases b:cA ts T with
 | false=>simp only [aL]
 | true=>
  have N:=dC b
  simp only [aL,og (K:=K) (CL:=CL) (Y:=Y) C N,pB (K:=K) (CL:=CL) (Y:=Y) C N hb]
  cases gE rs ts T with
  | true=>simp only [aL]
  | false=>simp only [aL]
end
set_option maxHeartbeats 1000000
section
variable{K:W.Frag}{CL:Addr}{Y:Ad}
noncomputable def vD (u:Nat×Int):D:= .tup [.int (u.1:Int),.int u.2]
noncomputable abbrev kR (rs:List Int)(g:Int)(ts:List Tr)(T:Pl)(vs:List (Nat×Int))(o5 o6 o7 o8 o9 o10 o11:Option D):DS:=[some (.lst (rs.map D.int)),some (.int g),some (.lst (ts.map bx)),some (.lst (T.map aj)),some (.lst (vs.map vD)),o5,o6,o7,o8,o9,o10,o11]
noncomputable def Bc (rs:List Int)(T:Pl)(q:Q):Bool:=decide ((ar T q.2).length=(aP q.1).length) && inT rs q.1.2.2 (bA T q)
theorem sW {rs:List Int}{ts:List Tr}{T:Pl}(hl:T.length=ts.length):ts.zipIdx.all (Bc rs T)=(cA ts T && gE rs ts T):=by
 rw [Bool.eq_iff_iff,Bool.and_eq_true,List.all_eq_true]
 constructor
 ·intro h
  refine ⟨?_,List.all_eq_true.mpr fun q d=> ?_⟩
  ·unfold cA
   refine decide_eq_true ?_
   apply List.ext_getElem
   ·rw [List.length_map,List.length_map]; exact hl
   ·intro i a b
    rw [List.length_map] at a b
    have d:(ts[i],i)∈ts.zipIdx:=mem_zip.mpr (cS b)
    have:=h _ d
    unfold Bc at this
    rw [Bool.and_eq_true] at this
    have e:=of_decide_eq_true this.1
    have P:ar T i=T[i]:=by
     have:=cJ a
     rw [cS a] at this
     exact (Option.some.inj this).symm
    rw [List.getElem_map,List.getElem_map,← P]
    exact congrArg Int.ofNat e
  ·have:=h q d
   unfold Bc at this
   rw [Bool.and_eq_true] at this
   exact this.2
 ·rintro ⟨a,b⟩ q d
  unfold Bc
  rw [Bool.and_eq_true]
  exact ⟨decide_eq_true (f9 a d),List.all_eq_true.mp b q d⟩
theorem j3 {α β:Type}{f:α→List β}:∀ (l:List α),(∀ x∈l,(f x).length≤5)→(l.flatMap f).length≤5 * l.length
 | [],_=>by simp
 | x :: l,h=>by
  rw [List.flatMap_cons,List.length_append,List.length_cons]
  have:=h x (List.mem_cons_self ..)
  have:=j3 l fun y B=>h y (dt B)
  omega
theorem lp {a b:Nat}:((a:Int) == (b:Int))=decide (a=b):=by
 by_cases h:a=b
 ·subst h; simp
 ·rw [decide_eq_false h,beq_eq_false_iff_ne.mpr (by omega)]
theorem jY {rs:List Int}{g:Int}{ts:List Tr}{T:Pl}{q:Q}(C:Ctx rs g ts)(hq:q∈ts.zipIdx):(bA T q).length≤5:=by
 have a:=f8 (C.good hq)
 have b:=C.ln.few
 unfold bA
 rw [List.length_zip]
 omega
theorem rq {rs:List Int}{g:Int}{ts:List Tr}{T:Pl}(C:Ctx rs g ts)(hT:T.length≤1000)(hb:∀ r∈T,r.length≤1000) :
  cN K CL Y [.lst (rs.map D.int),.int g,.lst (ts.map bx),.lst (T.map aj)]= .ok (.bl (cA ts T && (gE rs ts T && hO rs g ts T))):=by
 have hf:=C.few; have ho:=C.one; have hr5:=C.ln.few
 unfold cN
 refine (b3 rfl).trans ?_
 have e0:aA hB [.lst (rs.map D.int),.int g,.lst (ts.map bx),.lst (T.map aj)]=[some (.lst (rs.map D.int)),some (.int g),some (.lst (ts.map bx)),some (.lst (T.map aj)),none,none,none,none,none,none,none,none]:=rfl
 rw [e0]
 unfold fj
 by_cases o:T.length=ts.length
 ·have q1:decide (T.length=ts.length)=true:=decide_eq_true o
  simp only [aL,lp,q1,cb (show ts.length < 1000000 by omega),ku]
  refine iQ (fun M ρ=>∃ t w x I,ρ=kR rs g ts T (M.flatMap (bA T)) t w x I none none none) (fun _ q=>Bc rs T q) (.bl false) ⟨none,none,none,none,rfl⟩ (fun M q post Z ρ l=> ?_) (fun hk S ⟨t,w,x,I,e⟩=> ?_) (fun hk=> ?_)
  ·obtain ⟨t,w,x,I,e⟩:=l
   subst e
   have j:q∈ts.zipIdx:=by rw [Z]; simp
   have hpl:M.length≤5:=by
    have:=congrArg List.length Z
    rw [List.length_zipIdx,List.length_append] at this
    omega
   have hpz:(M.flatMap (bA T)).length≤25:=by
    have:=j3 (f:=bA T) M fun q' hq'=>jY C (by rw [Z]; exact List.mem_append_left _ hq')
    omega
   have G:=C.good j
   have hz:=mem_zip.mp j
   have hkT:q.2 < T.length:=by rw [o]; exact (dZ hz).1
   have i:=bi (g:=aj) (cJ hkT)
   have hit:=bi (g:=bx) hz
   have e2:av (bx q.1) (.int 2)= .ok (.int q.1.2.2):=pS
   have R:aF K CL Y [bx q.1]= .ok (aT q.1):=iN G (by omega)
   have hlr:bj [aj (ar T q.2)]= .ok (.int ((ar T q.2).length:Int)):=fz
   have J:bj [aT q.1]= .ok (.int ((aP q.1).length:Int)):=fz
   refine ⟨_,rfl,?_⟩
   by_cases H:(ar T q.2).length=(aP q.1).length
   ·have k:decide ((ar T q.2).length=(aP q.1).length)=true:=decide_eq_true H
    have hzl:(bA T q).length=(aP q.1).length:=by unfold bA; rw [List.length_zip,H,Nat.min_self]
    have hrg:mQ [.int ((aP q.1).length:Int)]= .ok ((bA T q).zipIdx.map fun v=>D.int (v.2:Int)):=by
     rw [← hzl,cb (by have:=jY (T:=T) C j; omega),ku]
    unfold Bc
    rw [k,Bool.true_and]
    simp only [aL,hit,R,i,hlr,J,lp,k,e2,hrg]
    have y:=jT (d:= .bl false) (asg:=bD 8) (c:=fun v:(Nat×Int)×Nat=>D.int (v.2:Int)) (xs:=(bA T q).zipIdx)
     (F:=ay (dn (cQ (ae (ae (ae (ac 3) (ac 5) av) (ac 8) av) (ac 7) qd)) (br (cE aM (kB false))) nxt)
  (ay (aQ 7 (cE aM (ae (ae (ae (ac 3) (ac 5) av) (ac 8) av) (ae (ac 0) (ae (ac 6) (ac 8) av) av) a_)))
  (fS 4 (cE aM (jV (pC (ae (ac 6) (ac 8) av) (pC (ae (ae (ac 3) (ac 5) av) (ac 8) av) pN)))))))
     (P:=fun S=>∃ t w x I,S=kR rs g ts T ((M ++ [q]).flatMap (bA T)) t w x I none none none)
     (ρ:=kR rs g ts T (M.flatMap (bA T)) (some (.int (q.2:Int))) (some (aT q.1)) (some (.int q.1.2.2)) I none none none)
     (fun Q ρ=>∃ I,ρ=kR rs g ts T (M.flatMap (bA T) ++ Q.map Prod.fst) (some (.int (q.2:Int))) (some (aT q.1)) (some (.int (sn rs q.1.2.2 (Q.map Prod.fst)))) I none none none)
     (fun Q v=> !decide (v.1.2 < sn rs q.1.2.2 (Q.map Prod.fst))) ⟨I,by rw [List.map_nil,List.append_nil]; rfl⟩ (fun Q v po n ρ U=>by
      obtain ⟨I,e⟩:=U
      subst e
      have hv:v∈(bA T q).zipIdx:=by rw [n]; simp
      have hvz:=mem_zip.mp hv
      obtain ⟨a1,a2⟩:=List.getElem?_zip_eq_some.mp hvz
      have hs:v.1.1 < rs.length:=gQ G _ (List.mem_of_getElem? a1)
      have y0:=bi (g:=D.int) (gC (d:=0) hs)
      have y1:av (aj (ar T q.2)) (.int (v.2:Int))= .ok (.int v.1.2):=bi (g:=D.int) a2
      have y2:av (aT q.1) (.int (v.2:Int))= .ok (.int (v.1.1:Int)):=sQ a1
      have hprl:Q.length≤5:=by
       have:=congrArg List.length n
       rw [List.length_zipIdx,List.length_append] at this
       have:=jY (T:=T) C j
       omega
      refine ⟨_,rfl,fun s=> ?_,fun s=> ?_⟩
      ·rw [Bool.not_eq_true'] at s
       simp only [aL,i,y1,s,y2,y0]
       refine ⟨_,jh (d:=vD v.1) rfl (by simp only [aL,i,y1,y2]; rfl) (by rw [List.length_map,List.length_append,List.length_map]; omega),some (.int (v.2:Int)),?_⟩
       have e1:(Q ++ [v]).map Prod.fst=Q.map Prod.fst ++ [v.1]:=by rw [List.map_append]; rfl
       rw [e1,pc,← List.append_assoc]
       have e2:((M.flatMap (bA T) ++ Q.map Prod.fst) ++ [v.1]).map vD=(M.flatMap (bA T) ++ Q.map Prod.fst).map vD ++ [vD v.1]:=by rw [List.map_append]; rfl
       show _=[_,_,_,_,some (D.lst (((M.flatMap (bA T) ++ Q.map Prod.fst) ++ [v.1]).map vD)),_,_,_,_,_,_,_]
       rw [e2]
       rfl
      ·rw [Bool.not_eq_false'] at s
       simp only [aL,i,y1,s]) (fun S ⟨I,e⟩=>by
      subst e
      refine ⟨some (.int (q.2:Int)),some (aT q.1),some (.int (sn rs q.1.2.2 (bA T q))),I,?_⟩
      rw [List.zipIdx_map_fst,List.flatMap_append,List.flatMap_singleton])
    have eok:dg (fun Q v=> !decide (v.1.2 < sn rs q.1.2.2 (Q.map Prod.fst))) [] (bA T q).zipIdx=inT rs q.1.2.2 (bA T q):=by
     have:=nJ (f:=(Prod.fst:(Nat×Int)×Nat→Nat×Int)) (p:=fun M u=> !decide (u.2 < sn rs q.1.2.2 M)) (bA T q).zipIdx []
     rw [List.zipIdx_map_fst,List.map_nil,kj] at this
     exact this
    rw [eok] at y
    exact y
   ·have k:decide ((ar T q.2).length=(aP q.1).length)=false:=decide_eq_false H
    unfold Bc
    rw [k,Bool.false_and]
    refine ⟨fun z=>(by cases z),fun _=> ?_⟩
    simp only [aL,hit,R,i,hlr,J,lp,k]
  ·subst e
   rw [bT,sW o] at hk
   rw [← Bool.and_assoc,hk,Bool.true_and]
   have hvl:(f7 ts T).length≤25:=by
    have:=j3 (f:=bA T) ts.zipIdx fun q j=>jY C j
    rw [List.length_zipIdx] at this
    unfold f7
    omega
   have hvs:∀ u∈f7 ts T,u.1 < rs.length:=fun u hu=>by
    obtain ⟨q,j,h⟩:=List.mem_flatMap.mp hu
    exact gQ (C.good j) _ (List.of_mem_zip h).1
   have efl:ts.zipIdx.flatMap (bA T)=f7 ts T:=rfl
   rw [efl]
   simp only [aL,cb (show (f7 ts T).length < 1000000 by omega)]
   refine iQ (fun _ ρ=>∃ o9 O N,ρ=kR rs g ts T (f7 ts T) t w x I o9 O N) (fun _ a=>(List.range a).all fun b=>BV rs g ((f7 ts T).getD a (0,0)) ((f7 ts T).getD b (0,0))) (.bl false) ⟨none,none,none,rfl⟩ (fun M a post Z ρ m=> ?_) (fun W S ⟨o9,O,N,e⟩=> ?_) (fun W=> ?_)
   ·obtain ⟨o9,O,N,e⟩:=m
    subst e
    have ha:a < (f7 ts T).length:=List.mem_range.mp (by rw [Z]; simp)
    refine ⟨_,rfl,?_⟩
    simp only [aL,cb (show a < 1000000 by omega)]
    have xa:=bi (g:=vD) (gC (d:=(0,0)) ha)
    have ya:=hvs _ (getD_mem (d:=(0,0)) ha)
    generalize (f7 ts T).getD a (0,0)=A at xa ya
    have y0:=bi (g:=D.int) (gC (d:=0) ya)
    have A0:av (vD A) (.int 0)= .ok (.int (A.1:Int)):=no
    have A1:av (vD A) (.int 1)= .ok (.int A.2):=sG
    have y:=jT (d:= .bl false) (asg:=bD 10) (c:=fun b:Nat=>D.int (b:Int)) (xs:=List.range a)
     (F:=ay (aQ 11 (fW 0 (c1 (ae (ae (ae (ac 4) (ac 9) av) (kI 1) av) (ae (ae (ac 4) (ac 10) av) (kI 1) av) pe) tO)))
  (dn (xl (cQ (ae (ae (ae (ac 4) (ac 9) av) (kI 0) av) (ae (ae (ac 4) (ac 10) av) (kI 0) av) nh)) (cQ (ae (ac 11) (ae (ae (ac 0) (ae (ae (ac 4) (ac 9) av) (kI 0) av) av) (ac 1) a_) qd))) (br (cE aM (kB false))) nxt))
     (P:=fun S=>∃ o9 O N,S=kR rs g ts T (f7 ts T) t w x I o9 O N)
     (ρ:=kR rs g ts T (f7 ts T) t w x I (some (.int (a:Int))) O N)
     (fun _ ρ=>∃ O N,ρ=kR rs g ts T (f7 ts T) t w x I (some (.int (a:Int))) O N)
     (fun _ b=>BV rs g A ((f7 ts T).getD b (0,0))) ⟨O,N,rfl⟩ (fun Q b po n ρ V=>by
      obtain ⟨O,N,e⟩:=V
      subst e
      have hb:b < a:=List.mem_range.mp (by rw [n]; simp)
      have xb:=bi (g:=vD) (gC (d:=(0,0)) (show b < (f7 ts T).length by omega))
      generalize (f7 ts T).getD b (0,0)=B at xb
      have B0:av (vD B) (.int 0)= .ok (.int (B.1:Int)):=no
      have B1:av (vD B) (.int 1)= .ok (.int B.2):=sG
      have ab:tO [.int (A.2 - B.2)]= .ok (.int (Ct A.2 B.2)):=rfl
      have E:∀ c:Bool,BV rs g A B=c→(if (A.1 == B.1)=true then Res.ok (decide (Ct A.2 B.2 < rs.getD A.1 0+g)) else .ok false)= .ok (!c):=fun c L=>by
       unfold BV at L
       cases q:A.1 == B.1 with
       | true=>rw [q,Bool.true_and] at L; rw [if_pos rfl,← L,Bool.not_not]
       | false=>rw [q,Bool.false_and] at L; rw [if_neg Bool.false_ne_true,← L]; rfl
      refine ⟨_,rfl,fun s=> ?_,fun s=> ?_⟩
      ·refine ⟨kR rs g ts T (f7 ts T) t w x I (some (.int (a:Int))) (some (.int (b:Int))) (some (.int (Ct A.2 B.2))),?_,_,_,rfl⟩
       simp only [aL,xa,xb,A0,A1,B0,B1,ab,bS,lm,y0,E _ s]
      ·simp only [aL,xa,xb,A0,A1,B0,B1,ab,bS,lm,y0,E _ s]) (fun S X=>(by obtain ⟨O,N,e⟩:=X; exact ⟨_,_,_,e⟩))
    rw [bT] at y
    exact y
   ·subst e
    rw [bT,pA,tL C.tr,← m3] at W
    simp only [aL,W]
   ·rw [bT] at W
    have:hO rs g ts T=false:=by
     cases q:hO rs g ts T with
     | false=>rfl
     | true=>
      rw [m3,← tL C.tr,← pA] at q
      rw [q] at W
      cases W
    rw [this]
  ·rw [bT,sW o] at hk
   rw [← Bool.and_assoc,hk,Bool.false_and]
 ·have q1:decide (T.length=ts.length)=false:=decide_eq_false o
  have k:cA ts T=false:=by
   cases q:cA ts T with
   | false=>rfl
   | true=>exact absurd (dC q) o
  simp only [aL,lp,q1,k]
end
set_option maxHeartbeats 1000000
section
variable{K:W.Frag}{CL:Addr}{Y:Ad}
noncomputable def jf (ts:List Tr)(T:Pl)(s:Nat):List (List Int):=(dP ts T s).map fun e=>[e.1,(e.2:Int)]
open Classical in
noncomputable def la (L:List (List Int)):List (List Int):=if h:∃ l:List (List Int),cq [.lst (L.map bp)]= .ok (.lst (l.map bp)) then Classical.choose h else []
theorem y_ {L l:List (List Int)}(h:cq [.lst (L.map bp)]= .ok (.lst (l.map bp))):cq [.lst (L.map bp)]= .ok (.lst ((la L).map bp))∧(la L).map bp=l.map bp:=by
 have B:∃ l:List (List Int),cq [.lst (L.map bp)]= .ok (.lst (l.map bp)):=⟨l,h⟩
 have e:la L=Classical.choose B:=by unfold la; rw [dif_pos B]
 have a:=Classical.choose_spec B
 rw [← e] at a
 refine ⟨a,?_⟩
 rw [h] at a
 injection a with z
 injection z with z
 exact z.symm
theorem wS {l l':List (List Int)}(h:l.map bp=l'.map bp):l=l':=by
 induction l generalizing l' with
 | nil=>cases l' with
  | nil=>rfl
  | cons a r=>cases h
 | cons a r s=>cases l' with
  | nil=>cases h
  | cons b g=>
   rw [List.map_cons,List.map_cons] at h
   injection h with h1 h2
   rw [s h2]
   have:a=b:=by
    unfold bp at h1
    injection h1 with h1
    clear h2 s
    induction a generalizing b with
    | nil=>cases b with
     | nil=>rfl
     | cons _ _=>cases h1
    | cons x a s=>cases b with
     | nil=>cases h1
     | cons y b=>
      rw [List.map_cons,List.map_cons] at h1
      injection h1 with h1 h2
      injection h1 with h1
      rw [h1,s b h2]
   rw [this]
theorem jg {ts:List Tr}{p:Pl}{s:Nat}(hlen:p.length=ts.length)(hb:∀ r∈p,r.length≤1000)(ht:ts.length≤5) :
  bF K CL Y [.lst (ts.map aT),.lst (p.map aj),.int s]= .ok (.lst ((la (jf ts p s)).map bp))∧cq [.lst ((jf ts p s).map bp)]= .ok (.lst ((la (jf ts p s)).map bp))∧(la (jf ts p s)).length≤5∧(∀ t,t∈la (jf ts p s)↔t∈jf ts p s):=by
 refine Em (ng (K:=K) (CL:=CL) (Y:=Y) (s:=s) hlen hb ht) fun l a b A E L B=> ?_
 obtain ⟨T,u⟩:=y_ B
 have d:=wS u
 have v:la (jf ts p s)=l:=d
 rw [v]
 exact (lT a B b A)
noncomputable def gZ (ts:List Tr)(T:Pl)(s:Nat):List Int:=(la (jf ts T s)).map fun t=>t.getD 1 0
theorem sy {ts:List Tr}{T:Pl}{s:Nat}{t:List Int}(h:t∈jf ts T s):∃ a b,t=[a,b]:=by
 obtain ⟨e,_,rfl⟩:=List.mem_map.mp h
 exact ⟨_,_,rfl⟩
theorem vC {t:List Int}(h:∃ a b,t=[a,b]):av (bp t) (.int 1)= .ok (.int (t.getD 1 0)):=by
 obtain ⟨a,b,rfl⟩:=h
 exact oq rfl
theorem rF {ts:List Tr}{p:Pl}{s:Nat}(hlen:p.length=ts.length)(hb:∀ r∈p,r.length≤1000)(ht:ts.length≤5):eX K CL Y [.lst (ts.map aT),.lst (p.map aj),.int s]= .ok (aj (gZ ts p s)):=by
 refine lf (jg (K:=K) (CL:=CL) (Y:=Y) (s:=s) hlen hb ht) fun a b A E=> ?_
 unfold eX
 refine (b3 rfl).trans ?_
 have F:aA gq [.lst (ts.map aT),.lst (p.map aj),.int s]=[some (.lst (ts.map aT)),some (.lst (p.map aj)),some (.int s)]:=rfl
 rw [F]
 unfold gi
 rw [q_,bg (xs:=la (jf ts p s)) (c:=bp) (g:=fun t=>D.int (t.getD 1 0)) (by simp only [aL,a]) (by omega) (fun t ht=>⟨_,rfl,?_⟩)]
 ·unfold aj gZ
  rw [List.map_map]
  rfl
 ·have:=vC (sy ((E t).mp ht))
  simp only [aL]
  exact this
theorem FR {w:List Nat}{n:Nat}:plL n (ce w)=true:=oS w fun _ _=>gI
theorem on {a b:Nat}:b8 (.int (a:Int)) (.int (b:Int))=decide (a=b):=by
 unfold b8
 by_cases h:a=b
 ·subst h; simp
 ·rw [decide_eq_false h]
  simp
  omega
theorem FO {w:List Nat}{s:Nat}:CA false (.int (s:Int)) (.lst (ce w))= .ok (.bl (decide (s∈w))):=by
 unfold CA
 dsimp only
 rw [if_pos ⟨FR,gI⟩]
 congr 2
 unfold ce
 rw [if_neg Bool.false_ne_true,List.any_map]
 by_cases h:s∈w
 ·rw [decide_eq_true h,List.any_eq_true]
  exact ⟨s,h,by show b8 _ _=true; rw [on]; simp⟩
 ·rw [decide_eq_false h,List.any_eq_false]
  intro x B
  show ¬ b8 _ _=true
  rw [on]
  simp
  exact fun z=>h (z ▸ B)
theorem EQ {w:List Nat}{s:Nat}(hl:w.length≤1000)(h:s∈w):∃ i,w[i]?=some s∧lO (.lst (ce w)) (.int (s:Int))= .ok (.int (i:Nat)):=by
 have e:vw (ce w) (.int (s:Int))=w.findIdx? fun x=>decide (x=s):=by
  unfold vw ce
  rw [List.findIdx?_map]
  congr 1
  funext x
  exact on
 cases q:w.findIdx? fun x=>decide (x=s) with
 | none=>
  rw [List.findIdx?_eq_none_iff] at q
  have:=q s h
  simp at this
 | some i=>
  obtain ⟨a,b,_⟩:=List.findIdx?_eq_some_iff_getElem.mp q
  refine ⟨i,by rw [cS a,of_decide_eq_true b],?_⟩
  unfold lO
  dsimp only
  rw [if_pos ⟨FR,gI,by unfold ce; rw [List.length_map]; exact decide_eq_true (by omega)⟩,e,q]
theorem vX {w:List Nat}{row:List Int}{s i:Nat}{m:Int}(hw:w.Nodup)(h1:w[i]?=some s)(h2:row[i]?=some m):aV w row s=[m]:=by
 have D:(s,m)∈w.zip row:=List.mem_of_getElem? (i:=i) (List.getElem?_zip_eq_some.mpr ⟨h1,h2⟩)
 have A:=pair_mem.mpr D
 have N:=eF (row:=row) (s:=s) hw
 match q:aV w row s,N,A with
 | [x],_,A=>rw [List.mem_singleton.mp A]
theorem vY {w:List Nat}{row:List Int}{s:Nat}(h:s∉w):aV w row s=[]:=by
 cases q:aV w row s with
 | nil=>rfl
 | cons x r=>
  have:x∈aV w row s:=by rw [q]; exact List.mem_cons_self ..
  exact absurd (List.of_mem_zip (pair_mem.mp this)).1 h
noncomputable abbrev oR (rs:List Int)(ts:List Tr)(T:Pl)(fd:List D)(o4 o5 o6:Option D):DS:=[some (.lst (rs.map D.int)),some (.lst (ts.map bx)),some (.lst (T.map aj)),some (.lst fd),o4,o5,o6]
theorem oK {rs:List Int}{g:Int}{ts:List Tr}{T:Pl}(C:Ctx rs g ts)(hw:cA ts T=true):b5 K CL Y [.lst (rs.map D.int),.lst (ts.map bx),.lst (T.map aj)]= .ok (.lst ((List.range rs.length).map fun s=>aj (gZ ts T s))):=by
 have H:=dC hw
 have h5:=C.ln.few; have j:=C.few
 have hb:∀ r∈T,r.length≤1000:=fun r hr=>by
  obtain ⟨k,O,e⟩:=List.getElem_of_mem hr
  have hk':k < ts.length:=by rw [← H]; exact O
  have E:(ts[k],k)∈ts.zipIdx:=mem_zip.mpr (cS hk')
  have b:=f9 hw E
  have B:ar T k=r:=by
   have:=cJ O
   rw [cS O,e] at this
   exact (Option.some.inj this).symm
  have F:=f8 (C.good E)
  dsimp only at b F
  rw [B] at b
  omega
 unfold b5
 refine (b3 rfl).trans ?_
 have e0:aA dI [.lst (rs.map D.int),.lst (ts.map bx),.lst (T.map aj)]=[some (.lst (rs.map D.int)),some (.lst (ts.map bx)),some (.lst (T.map aj)),none,none,none,none]:=rfl
 rw [e0]
 unfold dE
 refine dA (oR rs ts T [] none none none) (by simp only [aL]) ?_
 simp only [aL,cb (show rs.length < 1000000 by omega)]
 refine mh (fun M a=>∃ p x u,a=oR rs ts T (M.map fun s=>aj (gZ ts T s)) p x u) (C_ none none none rfl) (fun M s I l a U=> ?_) (fun S X=> ?_)
 ·refine wX (U) fun p x u e=> ?_
  subst e
  refine ⟨_,rfl,?_⟩
  have hpl:M.length≤5:=by
   have:=congrArg List.length l
   rw [List.length_range,List.length_append] at this
   omega
  simp only [aL,cb (show ts.length < 1000000 by omega)]
  have E:((List.range ts.length).map fun (i:Nat)=>D.int (i:Int))=ts.zipIdx.map fun q:Q=>D.int (q.2:Int):=by
   apply List.ext_getElem
   ·simp
   ·intro i b P; simp
  rw [E]
  refine nR (fun N a=>∃ u,a=oR rs ts T (M.map fun s=>aj (gZ ts T s)) (some (.int (s:Int))) (some (.lst ((N.flatMap fun q:Q=>(aV (aP q.1) (ar T q.2) s).map fun m=>[m,(q.2:Int)]).map bp))) u) ⟨u,rfl⟩ (fun N q po n a V=> ?_) (fun S W=> ?_)
  ·obtain ⟨u,e⟩:=V
   subst e
   refine ⟨_,rfl,?_⟩
   have f:q∈ts.zipIdx:=by rw [n]; simp
   have Z:=mem_zip.mp f
   have O:q.2 < ts.length:=(dZ Z).1
   have v:q.2 < T.length:=by rw [H]; exact O
   have h:av (.lst (ts.map bx)) (.int (q.2:Int))= .ok (bx q.1):=bi Z
   have xr:av (.lst (T.map aj)) (.int (q.2:Int))= .ok (aj (ar T q.2)):=bi (cJ v)
   have y:=iN (K:=K) (CL:=CL) (Y:=Y) (C.good f) (show rs.length≤1000 by omega)
   have hwl:=f8 (C.good f)
   have J:(N.flatMap fun q:Q=>(aV (aP q.1) (ar T q.2) s).map fun m=>[m,(q.2:Int)]).length≤N.length:=jB N fun q _=>by rw [List.length_map]; exact eF dB
   have z:N.length≤5:=by
    have:=congrArg List.length n
    rw [List.length_zipIdx,List.length_append] at this
    omega
   by_cases L:s∈aP q.1
   ·obtain ⟨i,A,ei⟩:=EQ (w:=aP q.1) (by omega) L
    have o:i < (ar T q.2).length:=by rw [f9 hw f]; exact (dZ A).1
    have G:(ar T q.2)[i]?=some (ar T q.2)[i]:=cS o
    have xm:av (aj (ar T q.2)) (.int (i:Nat))= .ok (.int (ar T q.2)[i]):=bi (g:=D.int) G
    simp only [aL,h,y,FO,decide_eq_true L]
    refine (Ds _ (jh (d:=bp [(ar T q.2)[i],(q.2:Int)]) rfl (by simp only [aL,h,xr,y,ei,xm]; rfl) (by rw [List.length_map]; omega)) (some (.int (q.2:Int))) ?_)
    rw [List.flatMap_append,List.flatMap_singleton,vX dB A G,List.map_append]
    rfl
   ·simp only [aL,h,y,FO,decide_eq_false L]
    refine (Ds _ rfl (some (.int (q.2:Int))) ?_)
    rw [List.flatMap_append,List.flatMap_singleton,vY L,List.map_nil,List.append_nil]
  ·obtain ⟨u,e⟩:=W
   subst e
   have R:(ts.zipIdx.flatMap fun q:Q=>(aV (aP q.1) (ar T q.2) s).map fun m=>[m,(q.2:Int)])=jf ts T s:=by
    unfold jf dP
    rw [List.map_flatMap]
    congr 1
    funext q
    rw [List.map_map]
    rfl
   rw [R]
   refine lf (jg (K:=K) (CL:=CL) (Y:=Y) (s:=s) H hb j) fun b P B F=> ?_
   refine (CY _ (jh (d:=aj (gZ ts T s)) rfl ?_ (by rw [List.length_map]; omega)) (some (.int (s:Int))) (some (.lst ((jf ts T s).map bp))) u ?_)
   ·have ec:bc (sL (c1 (ac 5) cq)) [none] (bD 0) yes (ae (ac 0) (kI 1) av) (oR rs ts T (M.map fun s=>aj (gZ ts T s)) (some (.int (s:Int))) (some (.lst ((jf ts T s).map bp))) u)= .ok (aj (gZ ts T s)):=by
     rw [bg (xs:=la (jf ts T s)) (c:=bp) (g:=fun t=>D.int (t.getD 1 0)) (by simp only [aL,P]) (by omega) (fun t j=>⟨_,rfl,?_⟩)]
     ·unfold aj gZ
      rw [List.map_map]
      rfl
     ·have:=vC (sy ((F t).mp j))
      simp only [aL]
      exact this
    rw [lG,ec,aq,if_pos (by unfold aj; exact cM fun _ _=>bS)]
   ·rw [List.map_append]
    rfl
 ·refine wX (X) fun p x u e=> ?_
  subst e
  simp only [aL]
end
set_option maxHeartbeats 1000000
section
variable{K:W.Frag}{CL:Addr}{Y:Ad}
noncomputable def fV (rs:List Int)(g:Int)(ts:List Tr)(T:Pl):Bool:=cA ts T && (gE rs ts T && hO rs g ts T)
theorem qc {rs:List Int}{g:Int}{ts:List Tr}{T:Pl}:(cA ts T && (gE rs ts T && hO rs g ts T))=fV rs g ts T:=rfl
theorem jl {rs:List Int}{g:Int}{ts:List Tr}{T:Pl}(h:fV rs g ts T=true):cA ts T=true:=by
 unfold fV at h
 rw [Bool.and_eq_true] at h
 exact h.1
theorem iW {rs:List Int}{g:Int}{ts:List Tr}{T:Pl}(C:Ctx rs g ts)(hT:T.length≤1000)(hb:∀ r∈T,r.length≤1000):bP K CL Y [aE CL rs g,.lst (ts.map bx),.lst (T.map aj)]=if fV rs g ts T=true then .ok .non else .exc Y.BT:=by
 have O:=vE (K:=K) (CL:=CL) (Y:=Y) C hT hb
 rw [qc] at O
 unfold bP
 refine (b3 rfl).trans ?_
 have D:aA fE [aE CL rs g,.lst (ts.map bx),.lst (T.map aj)]=[some (aE CL rs g),some (.lst (ts.map bx)),some (.lst (T.map aj))]:=rfl
 rw [D]
 unfold dG
 cases q:fV rs g ts T with
 | true=>rw [q] at O; simp only [aL,O]
 | false=>rw [q] at O; simp only [aL,O]
theorem qj {rs:List Int}{g:Int}{ts:List Tr}{T:Pl}(C:Ctx rs g ts)(hT:T.length≤1000)(hb:∀ r∈T,r.length≤1000):dS K CL Y [aE CL rs g,.lst (ts.map bx),.lst (T.map aj)]=if fV rs g ts T=true then .ok (.lst ((List.range rs.length).map fun s=>aj (gZ ts T s))) else .exc Y.BT:=by
 have a:=iW (K:=K) (CL:=CL) (Y:=Y) C hT hb
 have M:=C.ln.few
 unfold dS
 refine (b3 rfl).trans ?_
 have E:aA fv [aE CL rs g,.lst (ts.map bx),.lst (T.map aj)]=[some (aE CL rs g),some (.lst (ts.map bx)),some (.lst (T.map aj)),none]:=rfl
 rw [E]
 unfold fu
 cases q:fV rs g ts T with
 | false=>
  rw [q,if_neg Bool.false_ne_true] at a
  simp only [aL,a]
 | true=>
  rw [q,if_pos rfl] at a
  have b:=jl q
  have H:=dC b
  have L:=pi (K:=K) (CL:=CL) (Y:=Y) (g:=g) C.tr (show rs.length≤1000 by omega) C.one C.few
  refine dA [some (aE CL rs g),some (.lst (ts.map bx)),some (.lst (T.map aj)),none] (by simp only [aL,a]) ?_
  refine dA [some (aE CL rs g),some (.lst (ts.map bx)),some (.lst (T.map aj)),some (.lst (ts.map aT))] (by simp only [aL,L]; rfl) ?_
  rw [q_,bg (xs:=List.range rs.length) (c:=fun (i:Nat)=>D.int (i:Int)) (g:=fun s=>aj (gZ ts T s)) (by simp only [aL,Dv,f6,cb (show rs.length < 1000000 by omega)]) (by rw [List.length_range]; omega) (fun s N=>⟨_,rfl,?_⟩)]
  ·rfl
  ·have:=rF (K:=K) (CL:=CL) (Y:=Y) (s:=s) H hb C.few
   have f:cI [none,some 3,some 2] [some (aE CL rs g),some (.lst (ts.map bx)),some (.lst (T.map aj)),some (.lst (ts.map aT))]=[none,some (.lst (ts.map aT)),some (.lst (T.map aj))]:=rfl
   rw [f]
   simp only [aL,this]
noncomputable def z_ (rs:List Int)(T:Pl)(q:Q):Int:=(ar T q.2).getD ((ar T q.2).length - 1) 0+rs.getD ((aP q.1).getD ((aP q.1).length - 1) 0) 0
noncomputable def ii (rs:List Int)(ts:List Tr)(T:Pl):List Int:=ts.zipIdx.map (z_ rs T)
theorem oG {l:List Int}(h:0 < l.length):av (aj l) (.int (-1))= .ok (.int (l.getD (l.length - 1) 0)):=by
 rcases List.eq_nil_or_concat l with e | ⟨d,u,e⟩
 ·rw [e] at h; cases h
 ·rw [List.concat_eq_append] at e
  subst e
  unfold aj
  rw [List.map_append,List.length_append]
  have:(d ++ [u]).getD (d.length+1 - 1) 0=u:=by rw [Nat.add_sub_cancel,List.getD_eq_getElem?_getD,List.getElem?_append_right (Nat.le_refl _),Nat.sub_self]; rfl
  show _=Res.ok (D.int ((d ++ [u]).getD (d.length+1 - 1) 0))
  rw [this]
  exact ji (pD _ _)
theorem pZ {w:List Nat}(h:0 < w.length):av (.lst (ce w)) (.int (-1))= .ok (.int ((w.getD (w.length - 1) 0:Nat):Int)):=by
 rcases List.eq_nil_or_concat w with e | ⟨d,u,e⟩
 ·rw [e] at h; cases h
 ·rw [List.concat_eq_append] at e
  subst e
  unfold ce
  rw [List.map_append,List.length_append]
  have:(d ++ [u]).getD (d.length+1 - 1) 0=u:=by rw [Nat.add_sub_cancel,List.getD_eq_getElem?_getD,List.getElem?_append_right (Nat.le_refl _),Nat.sub_self]; rfl
  show _=Res.ok (D.int (((d ++ [u]).getD (d.length+1 - 1) 0:Nat):Int))
  rw [this]
  exact ji (pD _ _)
theorem wJ {rs:List Int}{s:Nat}(h:s < rs.length):av (.lst (rs.map D.int)) (.int (s:Int))= .ok (.int (rs.getD s 0)):=bi (g:=D.int) (gC h)
theorem qf {l:List Int}(h:l≠[]):l8 [.lst (l.map D.int)]= .ok (.int (iw l)):=by
 unfold l8
 dsimp only
 rw [fw]
 cases l with
 | nil=>exact absurd rfl h
 | cons a r=>rfl
theorem sw {rs:List Int}{g:Int}{ts:List Tr}{T:Pl}(C:Ctx rs g ts):ii rs ts T≠[]:=fun z=>by
 have:=congrArg List.length z
 unfold ii at this
 rw [List.length_map,List.length_zipIdx] at this
 have a:=C.one
 rw [List.length_nil] at this
 omega
theorem zi {α β:Type}{l:List α}{m:List β}{d:β}(h:m.length=l.length):l.zip m=l.zipIdx.map fun q=>(q.1,m.getD q.2 d):=by
 apply List.ext_getElem
 ·rw [List.length_zip,List.length_map,List.length_zipIdx]; omega
 ·intro i a b
  rw [List.length_zip] at a
  simp
  rw [cS (by omega)]
  rfl
theorem lY {rs:List Int}{g:Int}{ts:List Tr}{T:Pl}(C:Ctx rs g ts)(hT:T.length≤1000)(hb:∀ r∈T,r.length≤1000):cn K CL Y [aE CL rs g,.lst (ts.map bx),.lst (T.map aj)]=if fV rs g ts T=true then .ok (.int (iw (ii rs ts T))) else .exc Y.BT:=by
 have a:=iW (K:=K) (CL:=CL) (Y:=Y) C hT hb
 have M:=C.ln.few
 have h:=C.few
 unfold cn
 refine (b3 rfl).trans ?_
 have F:aA cX [aE CL rs g,.lst (ts.map bx),.lst (T.map aj)]=[some (aE CL rs g),some (.lst (ts.map bx)),some (.lst (T.map aj)),none]:=rfl
 rw [F]
 unfold cU
 cases q:fV rs g ts T with
 | false=>
  rw [q,if_neg Bool.false_ne_true] at a
  simp only [aL,a]
 | true=>
  rw [q,if_pos rfl] at a
  have b:=jl q
  have H:=dC b
  have L:=pi (K:=K) (CL:=CL) (Y:=Y) (g:=g) C.tr (show rs.length≤1000 by omega) C.one C.few
  have ew':d6 K CL Y [aE CL rs g,.lst (ts.map bx)]= .ok (.lst (ts.map aT)):=L
  refine dA [some (aE CL rs g),some (.lst (ts.map bx)),some (.lst (T.map aj)),none] (by simp only [aL,a]) ?_
  refine dA [some (aE CL rs g),some (.lst (ts.map bx)),some (.lst (T.map aj)),some (.lst (rs.map D.int))] (by simp only [aL,Dv,f6]) ?_
  have E:pp [.lst (ts.map aT),.lst (T.map aj)]= .ok (ts.zipIdx.map fun q:Q=> .tup [aT q.1,aj (ar T q.2)]):=by
   rw [oA,zi (d:=[]) H,List.map_map]
   rfl
  have l:bc (sZ (pC (bv (pC (ac 0) (pC (ac 1) pN)) (d6 K CL Y)) (pC (ac 2) pN))) [none,none,some 3] (iR 0 1) yes (ae (ae (ac 1) (nG (kI 1)) av) (ae (ac 2) (ae (ac 0) (nG (kI 1)) av) av) a_) [some (aE CL rs g),some (.lst (ts.map bx)),some (.lst (T.map aj)),some (.lst (rs.map D.int))]= .ok (.lst ((ii rs ts T).map D.int)):=by
   rw [bg (xs:=ts.zipIdx) (c:=fun q:Q=> .tup [aT q.1,aj (ar T q.2)]) (g:=fun q=>D.int (z_ rs T q)) (by simp only [aL,ew',E]) (by rw [List.length_zipIdx]; omega) (fun q e=>⟨_,rfl,?_⟩)]
   ·unfold ii; rw [List.map_map]; rfl
   ·have x:=C.good e
    have Z:=mE x
    have P:=f9 b e
    have s:av (aj (ar T q.2)) (.int (-1))=_:=oG (by rw [P]; exact Z)
    have t:av (aT q.1) (.int (-1))=_:=pZ Z
    have w:=wJ (gQ x _ (getD_mem (d:=0) (show (aP q.1).length - 1 < (aP q.1).length by omega)))
    have f:cI [none,none,some 3] [some (aE CL rs g),some (.lst (ts.map bx)),some (.lst (T.map aj)),some (.lst (rs.map D.int))]=[none,none,some (.lst (rs.map D.int))]:=rfl
    rw [f]
    simp only [aL,s,t,w]
    rfl
  simp only [aL,l,qf (sw C)]
end
set_option maxHeartbeats 1000000
section
variable{K:W.Frag}{CL:Addr}{Y:Ad}
noncomputable def eY:D:= .lst [.bl true,.bl true,.bl false,.bl false]
theorem oF {K:W.Frag}{C:Addr}{c:Value}{b:Bool}(h:W.kitOne K (.ref C) c=some b):ej K c (.xc C)= .ok (.bl b):=by
 unfold ej BQ
 dsimp only
 rw [h]
theorem sJ {i:Nat}{cs:List Addr}{F Fh:DS→Out}{ρ:DS}{c:Addr}{d:D}(h:F ρ= .exc c)(hc:cs.contains c=true)(hh:Fh (ρ.set i (some (.xc c)))= .rt d):iU i cs F Fh ρ= .rt d:=by
 unfold iU
 rw [h]
 dsimp only
 rw [if_pos hc,hh]
theorem sI {i:Nat}{cs:List Addr}{F Fh:DS→Out}{ρ ρ':DS}(h:F ρ= .nx ρ'):iU i cs F Fh ρ= .nx ρ':=by
 unfold iU
 rw [h]
theorem ze {rs:List Int}{g:Int}{ts:List Tr}{T:Pl}{mode:Nat}(Ki:Kit K Y)(hm:mode < 2)(C:Ctx rs g ts)(hT:T.length≤1000)(hb:∀ r∈T,r.length≤1000):bX K CL Y [aE CL rs g,.lst (ts.map bx),.lst (T.map aj),.int (mode:Int)] =
  .ok (if fV rs g ts T=true then .tup [if mode=0 then .lst ((List.range rs.length).map fun s=>aj (gZ ts T s)) else .int (iw (ii rs ts T)),.lst []] else .tup [.non,eY]):=by
 have a:=qj (K:=K) (CL:=CL) (Y:=Y) C hT hb
 have e:=lY (K:=K) (CL:=CL) (Y:=Y) C hT hb
 unfold bX
 refine (b3 rfl).trans ?_
 have D:aA hE [aE CL rs g,.lst (ts.map bx),.lst (T.map aj),.int (mode:Int)]=[some (aE CL rs g),some (.lst (ts.map bx)),some (.lst (T.map aj)),some (.int (mode:Int)),none,none,none]:=rfl
 rw [D]
 unfold fm
 have O:bw 2 (.lst ((List.range rs.length).map fun s=>aj (gZ ts T s)))=true:=cM fun s _=>by unfold aj; exact cM fun _ _=>bS
 have h:∀ b:Bool,bw 0 (.bl b)=true:=fun b=>rfl
 have i:ej K (cV (.ref Y.BT)) (.xc Y.BT)= .ok (.bl true):=oF Ki.i0
 have j:ej K (cV (.ty "ValueError")) (.xc Y.BT)= .ok (.bl true):=oF Ki.i1
 have l:ej K (cV (.ref Y.BO)) (.xc Y.BT)= .ok (.bl false):=oF Ki.i2
 have m:ej K (cV (.ref Y.BR)) (.xc Y.BT)= .ok (.bl false):=oF Ki.i3
 have f:[Y.BT].contains Y.BT=true:=by simp
 have k:(((0:Nat):Int) == 0)=true:=rfl
 have X:(((1:Nat):Int) == 0)=false:=rfl
 cases q:fV rs g ts T with
 | true=>
  rw [q,if_pos rfl] at a e
  rw [if_pos rfl]
  rcases (show mode=0∨mode=1 by omega) with z | z
  ·subst z
   rw [de,sI (ρ':=[some (aE CL rs g),some (.lst (ts.map bx)),some (.lst (T.map aj)),some (.int ((0:Nat):Int)),some (.lst ((List.range rs.length).map fun s=>aj (gZ ts T s))),none,none]) (by simp only [aL,k,a,O])]
   simp only [aL,i6]
   first | done | rfl
  ·subst z
   rw [de,sI (ρ':=[some (aE CL rs g),some (.lst (ts.map bx)),some (.lst (T.map aj)),some (.int ((1:Nat):Int)),some (.int (iw (ii rs ts T))),none,none]) (by simp only [aL,X,e,bS])]
   simp only [aL,i6]
   first | done | rfl
 | false=>
  rw [q,if_neg Bool.false_ne_true] at a e
  rw [if_neg Bool.false_ne_true]
  rcases (show mode=0∨mode=1 by omega) with z | z
  ·subst z
   rw [de,sJ (c:=Y.BT) (d:= .tup [.non,eY]) (by simp only [aL,k,a]) f (by simp only [aL,i6,i,j,l,m,h]; rfl)]
   rfl
  ·subst z
   rw [de,sJ (c:=Y.BT) (d:= .tup [.non,eY]) (by simp only [aL,X,e]) f (by simp only [aL,i6,i,j,l,m,h]; rfl)]
   rfl
end
set_option maxHeartbeats 4000000
section
variable{K:W.Frag}{CL:Addr}{Y:Ad}
theorem qA {rs:List Int}{g:Int}{ts:List Tr}(C:Ctx rs g ts):∀ (n:Nat) (p:Pl),Inv1 ts p→n+(p.map List.length).sum=26→Inv1 ts (run rs g ts n p)∧cu ts (run rs g ts n p)=[]
 | 0,p,I,h=>by
  have:=wQ I C.tr C.ln.few C.few
  omega
 | n+1,p,I,h=>by
  cases a:cu ts p with
  | nil=>rw [qz a]; exact ⟨I,a⟩
  | cons q L=>
   rw [qB a]
   have A:bV (f2 rs g ts p) q L∈cu ts p:=by rw [a]; exact me _ _ _
   have D:=mem_zip.mp (List.mem_filter.mp A).1
   have O:(bV (f2 rs g ts p) q L).2 < p.length:=by rw [I.len]; exact (dZ D).1
   refine qA C n _ (pX I A) ?_
   unfold step
   rw [pf O]
   omega
structure Tab (T:Pl):Prop where
 one:1≤T.length
 few:T.length≤5
 rows:∀ r∈T,1≤r.length∧r.length≤5
theorem zd {rs:List Int}{g:Int}{ts:List Tr}(C:Ctx rs g ts):Tab (run rs g ts 26 (p0 ts)):=by
 obtain ⟨I,b⟩:=qA C 26 (p0 ts) vx (by rw [r6])
 refine ⟨by rw [I.len]; exact C.one,by rw [I.len]; exact C.few,fun r P=> ?_⟩
 obtain ⟨k,O,e⟩:=List.getElem_of_mem P
 have hk':k < ts.length:=by rw [← I.len]; exact O
 have D:(ts[k],k)∈ts.zipIdx:=mem_zip.mpr (cS hk')
 have a:=I.rows _ D
 have A:ar (run rs g ts 26 (p0 ts)) k=r:=by
  have:=cJ O
  rw [cS O,e] at this
  exact (Option.some.inj this).symm
 have E:=f8 (C.good D)
 have L:=mE (C.good D)
 have B:=C.ln.few
 dsimp only at a E L
 rw [A] at a
 refine ⟨?_,by omega⟩
 apply Classical.byContradiction
 intro v
 have:(ts[k],k)∈cu ts (run rs g ts 26 (p0 ts)):=List.mem_filter.mpr ⟨D,decide_eq_true (by
  show (ar _ k).length < _
  rw [A]
  show r.length < (aP ts[k]).length
  omega)⟩
 rw [b] at this
 cases this
theorem mn {r:List Int}:bw 1 (aj r)=true:=by
 unfold aj
 exact cM fun _ _=>bS
theorem Bz {k:Int}(h:0≤k∧k < 3):∃ v:Int,av (.lst [.int (-1),.int 1,.int 20]) (.int k)= .ok (.int v):=by
 rcases (show k=0∨k=1∨k=2 by omega) with rfl | rfl | rfl
 ·exact ⟨-1,nj⟩
 ·exact ⟨1,nk⟩
 ·exact ⟨20,ji (hV (by decide) rfl)⟩
theorem uB {ns:List Int}{T:Pl}{k:Nat}(H:Tab T)(hkT:k < T.length):∃ T':Pl,b6 K CL Y [.scr ns,.lst (T.map aj),.int (k:Int)]= .ok (.lst (T'.map aj))∧T'.length≤6∧∀ r∈T',r.length≤6:=by
 have h1:=H.one; have h5:=H.few
 have F:∀ k many:Int,0≤k→k < 2000→0 < many→many < 1000→∃ a:Nat,(a:Int) < many∧ap K CL Y [.scr ns,.int k,.int many]= .ok (.int (a:Int)):=fun k many f k1 M m1=>by
  have:=eh (ns:=ns) (k:=k) (many:=many) M
  refine ⟨(drawn ns k many).toNat,by omega,?_⟩
  rw [Int.toNat_of_nonneg this.1]
  exact cD f (by omega) M (by omega)
 refine cps fun PP I=> ?_
 obtain ⟨s,mo9,G⟩:=F 106 7 (by omega) (by omega) (by omega) (by omega)
 have P:=H.rows _ (List.getElem_mem hkT)
 obtain ⟨o,X,B⟩:=F 104 (T[k].length:Int) (by omega) (by omega) (by omega) (by omega)
 refine I ?_; clear I PP
 have q:o < T[k].length:=by omega
 have O:T[k]?=some T[k]:=cS hkT
 have C:av (.lst (T.map aj)) (.int (k:Int))= .ok (aj T[k]):=bi O
 have S:bj [aj T[k]]= .ok (.int (T[k].length:Int)):=fz
 have u:(T.map aj)[k]?=some (.lst (T[k].map D.int)):=by rw [List.getElem?_map,O]; rfl
 have b:(T[k].map D.int).length=T[k].length:=List.length_map ..
 have p:∀ r:List Int,(T.map aj).set k (.lst (r.map D.int))=(T.set k r).map aj:=fun r=>by rw [List.map_set]; rfl
 have n:∀ (r:List Int),r.length≤6→(T.set k r).length≤6∧∀ x∈T.set k r,x.length≤6:=fun r E=>⟨by rw [List.length_set]; omega,fun x i=>by
  rcases List.mem_or_eq_of_mem_set i with z | z
  ·have:=(H.rows x z).2; omega
  ·rw [z]; exact E⟩
 unfold b6
 suffices h:∃ (T':Pl) (J N L:Option D),cB K CL Y (aA dJ [.scr ns,.lst (T.map aj),.int (k:Int)])= .nx [some (.scr ns),some (.lst (T'.map aj)),J,N,L]∧T'.length≤6∧∀ r∈T',r.length≤6 by
  refine sf (h) fun T' J N L e c=> ?_
  exact ⟨T',Ay rfl e rfl,c⟩
 have e0:aA dJ [.scr ns,.lst (T.map aj),.int (k:Int)]=[some (.scr ns),some (.lst (T.map aj)),some (.int (k:Int)),none,none]:=rfl
 rw [e0]
 unfold cB
 simp only [aL,G,bS,C,S,B]
 cases A:decide ((s:Int) < 3) with
 | true=>
  obtain ⟨y,Q,ey⟩:=F 105 3 (by omega) (by omega) (by omega) (by omega)
  obtain ⟨v,R⟩:=Bz (k:=(y:Int)) ⟨by omega,Q⟩
  have j:av (aj T[k]) (.int (o:Int))= .ok (.int T[k][o]):=bi (g:=D.int) (cS q)
  simp only [aL,A]
  rw [xU (l:=T.map aj) (m:=k) (t:=o) (d:= .int (T[k][o] + v)) rfl (by simp only [aL,C,j,ey,R,bS]) rfl rfl u (by rw [b]; exact q),← List.map_set,p]
  exact (yj _ _ _ _ rfl (n _ (by rw [List.length_set]; omega)))
 | false=>
  have n0:=of_decide_eq_false A
  by_cases c1':s=3
  ·have Z:((s:Int) == 3)=true:=beq_iff_eq.mpr (by omega)
   simp only [aL,A,Z]
   rw [xR (l:=T.map aj) (m:=k) (t:=o) rfl rfl rfl u (by rw [b]; exact q) (by rw [b]; omega),← ke,p]
   exact (yj _ _ _ _ rfl (n _ (by rw [List.length_eraseIdx]; split <;> omega)))
  ·have Z:((s:Int) == 3)=false:=beq_eq_false_iff_ne.mpr (by omega)
   by_cases c2:s=4
   ·have W:((s:Int) == 4)=true:=beq_iff_eq.mpr (by omega)
    simp only [aL,A,Z,W]
    have w:av (aj T[k]) (.int (-1))=_:=oG (show 0 < T[k].length by omega)
    rw [sF (l:=T.map aj) (m:=k) (d:= .int (T[k].getD (T[k].length - 1) 0+40)) rfl rfl (by simp only [aL,C,w,bS]) u (by rw [b]; omega)]
    have U:∀ z:Int,T[k].map D.int ++ [.int z]=(T[k] ++ [z]).map D.int:=fun z=>by rw [List.map_append]; rfl
    rw [U,p]
    exact (yj _ _ _ _ rfl (n _ (by rw [List.length_append]; simp; omega)))
   ·have W:((s:Int) == 4)=false:=beq_eq_false_iff_ne.mpr (by omega)
    by_cases c3:s=5
    ·have V:((s:Int) == 5)=true:=beq_iff_eq.mpr (by omega)
     simp only [aL,A,Z,W,V]
     rw [AD (l:=T.map aj) (m:=k) rfl rfl (by rw [List.length_map]; exact hkT) (by rw [List.length_map]; omega),← ke]
     refine (Dt _ _ _ _ rfl (by rw [List.length_eraseIdx]; split <;> omega) (fun r P=> ?_))
     have:=(H.rows r ((List.eraseIdx_sublist T k).subset P)).2
     omega
    ·have V:((s:Int) == 5)=false:=beq_eq_false_iff_ne.mpr (by omega)
     simp only [aL,A,Z,W,V]
     rw [jh (l:=T.map aj) (d:=aj [0]) rfl (by simp only [aL]; rfl) (by rw [List.length_map]; omega)]
     have U:T.map aj ++ [aj [0]]=(T ++ [[0]]).map aj:=by rw [List.map_append]; rfl
     rw [U]
     refine (Dt _ _ _ _ rfl (by rw [List.length_append]; simp; omega) (fun r P=> ?_))
     rcases List.mem_append.mp P with z | z
     ·have:=(H.rows r z).2; omega
     ·rw [List.mem_singleton.mp z]; simp
end
set_option maxHeartbeats 4000000
section
variable{K:W.Frag}{CL:Addr}{Y:Ad}
noncomputable abbrev lR (CL:Addr)(ns rs:List Int)(g:Int)(ts:List Tr)(T:Pl)(k:Nat)(o7 o8 o9 o10 o11:Option D):DS:=[some (.scr ns),some (.tup [.lst (rs.map D.int),.int g]),some (.lst (ts.map bx)),some (.lst (T.map aj)),some (.int (k:Int)),some (.lst [.lst (ts.map bx),.lst (T.map aj)]),some (aE CL rs g),o7,o8,o9,o10,o11]
theorem wo {n:Nat}{r:List Int}:ba (n+1) (aj r)=true:=kq fun _ _=>gI
theorem vH {ns:List Int}(Ki:Kit K Y)(hns:ns.length≤63):vL K CL Y [.scr ns]= .ok (.bl true):=by
 refine kT (ui (K:=K) (CL:=CL) (Y:=Y) (ns:=ns) (base:=0) (by omega) (by omega)) fun E g GL el=> ?_
 have h5:=GL.few; have h1:=GL.one
 refine dr (qH (K:=K) (CL:=CL) (Y:=Y) (ns:=ns) (base:=20) (most:=5) (n:=E.length) (by omega) (by omega) h1 h5 (by omega) (by omega)) fun v tl tg et=> ?_
 have db:=eh (ns:=ns) (k:=20) (many:=5) (by omega)
 have C:Ctx E g v:=⟨GL,tg,by omega,by omega⟩
 have efc:=k7 (K:=K) (CL:=CL) (Y:=Y) C
 have TR:=zd C
 generalize hR:run E g v 26 (p0 v)=R at efc TR
 have H:=cD (K:=K) (CL:=CL) (Y:=Y) (ns:=ns) (k:=103) (many:=3) (by omega) (by omega) (by omega) (by omega)
 have d102:=cD (K:=K) (CL:=CL) (Y:=Y) (ns:=ns) (k:=102) (many:=50) (by omega) (by omega) (by omega) (by omega)
 have r1:=TR.one; have r5:=TR.few
 have L:=cD (K:=K) (CL:=CL) (Y:=Y) (ns:=ns) (k:=101) (many:=(R.length:Int)) (by omega) (by omega) (by omega) (by omega)
 have bb:=eh (ns:=ns) (k:=101) (many:=(R.length:Int)) (by omega)
 obtain ⟨k,ek⟩:∃ k:Nat,drawn ns 101 (R.length:Int)=(k:Int):=⟨(drawn ns 101 (R.length:Int)).toNat,by omega⟩
 rw [ek] at L bb
 have hk:k < R.length:=by omega
 have P:=TR.rows _ (List.getElem_mem hk)
 have xk:av (.lst (R.map aj)) (.int (k:Int))= .ok (aj R[k]):=bi (cS hk)
 unfold vL
 refine (b3 rfl).trans ?_
 have e0:aA kC [D.scr ns]=[some (.scr ns),none,none,none,none,none,none,none,none,none,none,none]:=rfl
 rw [e0]
 unfold si
 refine dA [some (.scr ns),some (.tup [.lst (E.map D.int),.int g]),none,none,none,none,none,none,none,none,none,none] (by simp only [aL,el]) ?_
 refine dA [some (.scr ns),some (.tup [.lst (E.map D.int),.int g]),some (.lst (v.map bx)),none,none,none,none,none,none,none,none,none] (by simp only [aL,et]) ?_
 refine dA [some (.scr ns),some (.tup [.lst (E.map D.int),.int g]),some (.lst (v.map bx)),some (.lst (R.map aj)),none,none,none,none,none,none,none,none] (by simp only [aL,efc]) ?_
 refine dA [some (.scr ns),some (.tup [.lst (E.map D.int),.int g]),some (.lst (v.map bx)),some (.lst (R.map aj)),some (.int (k:Int)),none,none,none,none,none,none,none] (by simp only [aL,L,bS]) ?_
 generalize b:R.set k (R[k].map (· + drawn ns 102 50))=T1
 have TT1:Tab T1:=by
  subst b
  refine ⟨by rw [List.length_set]; exact r1,by rw [List.length_set]; exact r5,fun r hr'=> ?_⟩
  rcases List.mem_or_eq_of_mem_set hr' with z | z
  ·exact TR.rows r z
  ·rw [z,List.length_map]; exact P
 have hk1:k < T1.length:=by rw [← b,List.length_set]; exact hk
 refine dA [some (.scr ns),some (.tup [.lst (E.map D.int),.int g]),some (.lst (v.map bx)),some (.lst (T1.map aj)),some (.int (k:Int)),none,none,none,none,none,none,none] ?_ ?_
 ·have ec:bc (sL (ae (ac 3) (ac 4) av)) [none,some 0] (bD 0) yes (ae (ac 0) (bv (pC (ac 1) (pC (kI 102) (pC (kI 50) pN))) (ap K CL Y)) a_) [some (.scr ns),some (.tup [.lst (E.map D.int),.int g]),some (.lst (v.map bx)),some (.lst (R.map aj)),some (.int (k:Int)),none,none,none,none,none,none,none]= .ok (aj (R[k].map (· + drawn ns 102 50))):=by
   rw [bg (xs:=R[k]) (c:=D.int) (g:=fun m=>D.int (m+drawn ns 102 50)) (by simp only [aL,xk]; rfl) (by omega) (fun m hm=>⟨_,rfl,?_⟩)]
   ·unfold aj; rw [List.map_map]; rfl
   ·have f:cI [none,some 0] [some (D.scr ns),some (.tup [.lst (E.map D.int),.int g]),some (.lst (v.map bx)),some (.lst (R.map aj)),some (.int (k:Int)),none,none,none,none,none,none,none]=[none,some (.scr ns)]:=rfl
    rw [f]
    simp only [aL,d102]
  rw [oz (m:=k) (l:=R.map aj) (d:=aj (R[k].map (· + drawn ns 102 50))) rfl (by rw [lG,ec,aq,if_pos mn]) rfl (by rw [List.length_map]; exact hk),← List.map_set,b]
  rfl
 have B:∃ (V:Pl),(V.length≤6∧∀ r∈V,r.length≤6)∧(dn (cQ (ae (bv (pC (ac 0) (pC (kI 103) (pC (kI 3) pN))) (ap K CL Y)) (kI 1) nh)) (kD bQ 3 (ac 0) (pC (ac 4) pN) (b6 K CL Y)) nxt) [some (.scr ns),some (.tup [.lst (E.map D.int),.int g]),some (.lst (v.map bx)),some (.lst (T1.map aj)),some (.int (k:Int)),none,none,none,none,none,none,none]= .nx [some (.scr ns),some (.tup [.lst (E.map D.int),.int g]),some (.lst (v.map bx)),some (.lst (V.map aj)),some (.int (k:Int)),none,none,none,none,none,none,none]:=by
  cases x:drawn ns 103 3 == 1 with
  | false=>
   refine ⟨T1,⟨by have:=TT1.few; omega,fun r P=>by have:=(TT1.rows r P).2; omega⟩,?_⟩
   simp only [aL,H,x]
  | true=>
   obtain ⟨V,e2,hT2⟩:=uB (K:=K) (CL:=CL) (Y:=Y) (ns:=ns) TT1 hk1
   refine ⟨V,hT2,?_⟩
   simp only [aL,H,x]
   rw [u6 (ds:=[.int (k:Int)]) (d0:= .scr ns) (dj:= .lst (T1.map aj)) (d:= .lst (V.map aj)) rfl rfl rfl e2]
   rfl
 obtain ⟨V,⟨t6,tr6⟩,eB⟩:=B
 refine dA _ eB ?_
 clear eB
 have xh:fW 3 (cw (pC (fW 1 (bv (Ca (ac 2)) dQ)) (pC (bc (sL (ac 3)) [none] (bD 0) yes (bv (Ca (ac 0)) dQ)) pN))) [some (.scr ns),some (.tup [.lst (E.map D.int),.int g]),some (.lst (v.map bx)),some (.lst (V.map aj)),some (.int (k:Int)),none,none,none,none,none,none,none]= .ok (.lst [.lst (v.map bx),.lst (V.map aj)]):=by
  have l1:bw 1 (.lst (v.map bx))=true:=cM fun t _=>rfl
  have l2:bw 2 (.lst (V.map aj))=true:=cM fun r _=>mn
  have l3:bw 3 (.lst [.lst (v.map bx),.lst (V.map aj)])=true:=by
   unfold bw
   rw [List.all_cons,List.all_cons,l2]
   have:bw 2 (.lst (v.map bx))=true:=cM fun t _=>rfl
   rw [this]
   rfl
  have c2:bc (sL (ac 3)) [none] (bD 0) yes (bv (Ca (ac 0)) dQ) [some (.scr ns),some (.tup [.lst (E.map D.int),.int g]),some (.lst (v.map bx)),some (.lst (V.map aj)),some (.int (k:Int)),none,none,none,none,none,none,none]= .ok (.lst (V.map aj)):=
   bg (xs:=V) (c:=aj) (g:=aj) rfl (by omega) (fun r P=>⟨_,rfl,rfl⟩)
  have c1':bv (Ca (ac 2)) dQ [some (.scr ns),some (.tup [.lst (E.map D.int),.int g]),some (.lst (v.map bx)),some (.lst (V.map aj)),some (.int (k:Int)),none,none,none,none,none,none,none]= .ok (.lst (v.map bx)):=rfl
  rw [lG,sD]
  dsimp only [pC,pN]
  rw [lG,c1',aq,if_pos l1,aq,c2,aq,aq,aq,aq,if_pos u_,aq,if_pos l3]
 have hT:V.length≤1000:=by omega
 have x:∀ r∈V,r.length≤1000:=fun r P=>by have:=tr6 r P; omega
 have S:=rq (K:=K) (CL:=CL) (Y:=Y) (T:=V) C hT x
 rw [qc] at S
 have told:=fun (m:Nat) (h:m < 2)=>ze (K:=K) (CL:=CL) (Y:=Y) (T:=V) (mode:=m) Ki h C hT x
 have hpl:ba 20 (.lst [.lst (v.map bx),.lst (V.map aj)])=true:=by
  have p1:ba 19 (.lst (v.map bx))=true:=kq (n:=18) fun t _=>by
   unfold bx ba plL
   rw [gI]
   unfold plL
   rw [gI]
   unfold plL
   rw [gI]
   rfl
  have p2:ba 19 (.lst (V.map aj))=true:=kq (n:=18) fun r _=>wo (n:=17)
  unfold ba plL
  rw [show 20 - 1=19 from rfl,p1]
  unfold plL
  rw [p2]
  rfl
 have y:=lr hpl
 have lb:∀ c:Bool,bw 0 (.bl c)=true:=fun c=>rfl
 refine dA [some (.scr ns),some (.tup [.lst (E.map D.int),.int g]),some (.lst (v.map bx)),some (.lst (V.map aj)),some (.int (k:Int)),some (.lst [.lst (v.map bx),.lst (V.map aj)]),none,none,none,none,none,none] (by rw [lJ,xh,aU]; rfl) ?_
 refine dA (lR CL ns E g v V k none none none none none) (by simp only [aL,yi (K:=K) (CL:=CL) (Y:=Y) GL]) ?_
 have er2:mQ [.int 2]= .ok ((List.range 2).map fun (i:Nat)=>D.int (i:Int)):=cb (n:=2) (by omega)
 simp only [aL,er2]
 refine mh (fun pre ρ=>∃ o7 I J O N,ρ=lR CL ns E g v V k o7 I J O N) (vz none none none none none rfl) (fun pre F post exs ρ X=> ?_) (fun o W=> ?_)
 ·refine uN (X) fun o7 I J O N e=> ?_
  subst e
  refine ⟨_,rfl,?_⟩
  have G:bc (sR1 (pC (kI 2) pN)) [none,some 6,some 5] (bD 0) yes (bv (pC (ac 1) (pC (ae (ac 2) (kI 0) av) (pC (ae (ac 2) (kI 1) av) (pC (ac 0) pN)))) (bX K CL Y)) (cR bQ (lR CL ns E g v V k (some (.int (F:Int))) I J O N))= .ok (.lst ((List.range 2).map fun m=>if fV E g v V=true then .tup [if m=0 then .lst ((List.range E.length).map fun s=>aj (gZ v V s)) else .int (iw (ii E v V)),.lst []] else .tup [.non,eY])):=by
   refine bg (xs:=List.range 2) (c:=fun (i:Nat)=>D.int (i:Int)) (by simp only [aL,er2]) (by decide) (fun m hm=>⟨_,rfl,?_⟩)
   have f:cI [none,some 6,some 5] (cR bQ (lR CL ns E g v V k (some (.int (F:Int))) I J O N))=[none,some (aE CL E g),some (.lst [.lst (v.map bx),.lst (V.map aj)])]:=rfl
   rw [f]
   simp only [aL,told m (List.mem_range.mp hm)]
  cases q:fV E g v V with
  | false=>
   rw [q] at G S
   have em:k9 (.lst [.tup [.non,eY],.tup [.non,eY]]) (.lst [.tup [.non,.lst [.bl true,.bl true,.bl false,.bl false]],.tup [.non,.lst [.bl true,.bl true,.bl false,.bl false]]])= .ok (.bl false):=lr (d:= .lst [.tup [.non,eY],.tup [.non,eY]]) (by unfold eY; decide +kernel)
   have s1:(aQ 8 (cE bQ (bc (sR1 (pC (kI 2) pN)) [none,some 6,some 5] (bD 0) yes (bv (pC (ac 1) (pC (ae (ac 2) (kI 0) av) (pC (ae (ac 2) (kI 1) av) (pC (ac 0) pN)))) (bX K CL Y))))) (lR CL ns E g v V k (some (.int (F:Int))) I J O N)= .nx (lR CL ns E g v V k (some (.int (F:Int))) (some (.lst [.tup [.non,eY],.tup [.non,eY]])) J O N):=by
    rw [lJ,u9,G]; rfl
   rw [de]
   have s1':_=_:=s1
   show ∃ o,Out.then (aQ 8 _ (lR CL ns E g v V k (some (.int (F:Int))) I J O N)) _=_∧_
   rw [s1]
   simp only [aL,y,S,em]
   exact (Du _ rfl _ _ _ _ _ rfl)
  | true=>
   rw [q] at G S
   have hw:=jl q
   have U:=dC hw
   have ht5:=C.few
   generalize Z:(List.range E.length).map (gZ v V)=OL
   have A:((List.range E.length).map fun s=>aj (gZ v V s))=OL.map aj:=by rw [← Z,List.map_map]; rfl
   have hol:OL.length=E.length:=by rw [← Z]; simp
   have w:∀ r∈OL,r.length≤5:=fun r P=>by
    rw [← Z] at P
    obtain ⟨s,_,rfl⟩:=List.mem_map.mp P
    unfold gZ
    rw [List.length_map]
    exact (jg (K:=K) (CL:=CL) (Y:=Y) (s:=s) U x C.few).2.2.1
   generalize hM:iw (ii E v V)=M
   rw [A,hM] at G
   have elo:=oK (K:=K) (CL:=CL) (Y:=Y) C hw
   rw [A] at elo
   have s1:(aQ 8 (cE bQ (bc (sR1 (pC (kI 2) pN)) [none,some 6,some 5] (bD 0) yes (bv (pC (ac 1) (pC (ae (ac 2) (kI 0) av) (pC (ae (ac 2) (kI 1) av) (pC (ac 0) pN)))) (bX K CL Y))))) (lR CL ns E g v V k (some (.int (F:Int))) I J O N)= .nx (lR CL ns E g v V k (some (.int (F:Int))) (some (.lst [.tup [.lst (OL.map aj),.lst []],.tup [.int M,.lst []]])) J O N):=by
    rw [lJ,u9,G]; rfl
   show ∃ o,ay (aQ 8 _) _ (lR CL ns E g v V k (some (.int (F:Int))) I J O N)=_∧_
   rw [de,s1,cg,de]
   have s2:(dn (cQ (ae (ac 5) (cw (pC (ac 2) (pC (ac 3) pN))) k9)) (br (cE bQ (kB false))) nxt) (lR CL ns E g v V k (some (.int (F:Int))) (some (.lst [.tup [.lst (OL.map aj),.lst []],.tup [.int M,.lst []]])) J O N)= .nx (lR CL ns E g v V k (some (.int (F:Int))) (some (.lst [.tup [.lst (OL.map aj),.lst []],.tup [.int M,.lst []]])) J O N):=by simp only [aL,y]
   rw [s2,cg,zn]
   have s3:fY (cQ (bv (pC (ae (ac 1) (kI 0) av) (pC (ae (ac 1) (kI 1) av) (pC (ac 2) (pC (ac 3) pN)))) (cN K CL Y))) (lR CL ns E g v V k (some (.int (F:Int))) (some (.lst [.tup [.lst (OL.map aj),.lst []],.tup [.int M,.lst []]])) J O N)= .ok false:=by simp only [aL,S]
   rw [s3,aU,if_neg Bool.false_ne_true]
   have hz:((List.range v.length).map fun (i:Nat)=>D.int (i:Int))=v.zipIdx.map fun q:Q=>D.int (q.2:Int):=by
    apply List.ext_getElem
    ·simp
    ·intro i h1 h2; simp
   have ec:bc (sR1 (pC (c1 (ac 2) bj) pN)) [none,some 3,some 1,some 2] (bD 0) yes (ae (ae (ae (ac 1) (ac 0) av) (nG (kI 1)) av) (ae (ae (ac 2) (kI 0) av) (ae (bv (pC (ae (ac 3) (ac 0) av) pN) (aF K CL Y)) (nG (kI 1)) av) av) a_) (lR CL ns E g v V k (some (.int (F:Int))) (some (.lst [.tup [.lst (OL.map aj),.lst []],.tup [.int M,.lst []]])) J O N)= .ok (.lst ((ii E v V).map D.int)):=by
    rw [bg (xs:=v.zipIdx) (c:=fun q:Q=>D.int (q.2:Int)) (g:=fun q=>D.int (z_ E V q)) (by simp only [aL,cb (show v.length < 1000000 by omega),hz]) (by rw [List.length_zipIdx]; omega) (fun u hu=>⟨_,rfl,?_⟩)]
    ·unfold ii; rw [List.map_map]; rfl
    ·have hg:=C.good hu
     have hp:=mE hg
     have hru:=f9 hw hu
     have hzu:=mem_zip.mp hu
     have hku:u.2 < V.length:=by rw [U]; exact (dZ hzu).1
     have y1:av (.lst (V.map aj)) (.int (u.2:Int))= .ok (aj (ar V u.2)):=bi (cJ hku)
     have y2:av (.lst (v.map bx)) (.int (u.2:Int))= .ok (bx u.1):=bi hzu
     have y3:=iN (K:=K) (CL:=CL) (Y:=Y) hg (show E.length≤1000 by omega)
     have x1:av (aj (ar V u.2)) (.int (-1))=_:=oG (by rw [hru]; exact hp)
     have x2:av (.lst (ce (aP u.1))) (.int (-1))=_:=pZ hp
     have x3:=wJ (gQ hg _ (getD_mem (d:=0) (show (aP u.1).length - 1 < (aP u.1).length by omega)))
     have f:cI [none,some 3,some 1,some 2] (lR CL ns E g v V k (some (.int (F:Int))) (some (.lst [.tup [.lst (OL.map aj),.lst []],.tup [.int M,.lst []]])) J O N)=[none,some (.lst (V.map aj)),some (.tup [.lst (E.map D.int),.int g]),some (.lst (v.map bx))]:=rfl
     rw [f]
     simp only [aL,y1,y2,y3,x1,x2,x3]
     rfl
   rw [de]
   have s4:(aQ 9 (fW 0 (c1 (bc (sR1 (pC (c1 (ac 2) bj) pN)) [none,some 3,some 1,some 2] (bD 0) yes (ae (ae (ae (ac 1) (ac 0) av) (nG (kI 1)) av) (ae (ae (ac 2) (kI 0) av) (ae (bv (pC (ae (ac 3) (ac 0) av) pN) (aF K CL Y)) (nG (kI 1)) av) av) a_)) l8))) (lR CL ns E g v V k (some (.int (F:Int))) (some (.lst [.tup [.lst (OL.map aj),.lst []],.tup [.int M,.lst []]])) J O N)= .nx (lR CL ns E g v V k (some (.int (F:Int))) (some (.lst [.tup [.lst (OL.map aj),.lst []],.tup [.int M,.lst []]])) (some (.int M)) O N):=by
    rw [lJ,lG]
    show (((bc _ _ _ _ _ _).bind fun a=>l8 [a]).bind _).out _=_
    rw [ec,aq,qf (sw C),hM,aq,if_pos bS]
    rfl
   rw [s4,cg,de]
   have l2:bw 2 (.lst (OL.map aj))=true:=cM fun r _=>mn
   have s5:(aQ 10 (fW 2 (bv (pC (ae (ac 1) (kI 0) av) (pC (ac 2) (pC (ac 3) pN))) (b5 K CL Y)))) (lR CL ns E g v V k (some (.int (F:Int))) (some (.lst [.tup [.lst (OL.map aj),.lst []],.tup [.int M,.lst []]])) (some (.int M)) O N)= .nx (lR CL ns E g v V k (some (.int (F:Int))) (some (.lst [.tup [.lst (OL.map aj),.lst []],.tup [.int M,.lst []]])) (some (.int M)) (some (.lst (OL.map aj))) N):=by simp only [aL,elo,l2]
   rw [s5,cg,de]
   have en0:k9 (.lst []) (.lst [])= .ok (.bl false):=lr (by decide +kernel)
   have ero:cm K CL Y [.lst (OL.map aj),.lst (OL.map aj)]= .ok (.bl true):=yV (by omega) fun r P=>by have:=w r P; omega
   have s6:(dn (vW (cQ (ae (ae (ae (ac 8) (kI 0) av) (kI 1) av) (cw pN) k9)) (vW (cQ (ae (ae (ae (ac 8) (kI 1) av) (kI 1) av) (cw pN) k9)) (fY (cQ (bv (pC (ae (ae (ac 8) (kI 0) av) (kI 0) av) (pC (ac 10) pN)) (cm K CL Y)))))) (br (cE bQ (kB false))) nxt) (lR CL ns E g v V k (some (.int (F:Int))) (some (.lst [.tup [.lst (OL.map aj),.lst []],.tup [.int M,.lst []]])) (some (.int M)) (some (.lst (OL.map aj))) N)= .nx (lR CL ns E g v V k (some (.int (F:Int))) (some (.lst [.tup [.lst (OL.map aj),.lst []],.tup [.int M,.lst []]])) (some (.int M)) (some (.lst (OL.map aj))) N):=by
    have i0:av (.lst [.tup [.lst (OL.map aj),.lst []],.tup [.int M,.lst []]]) (.int 0)= .ok (.tup [.lst (OL.map aj),.lst []]):=nj
    have i1:av (.lst [.tup [.lst (OL.map aj),.lst []],.tup [.int M,.lst []]]) (.int 1)= .ok (.tup [.int M,.lst []]):=nk
    simp only [aL,i0,i1,en0,ero]
   rw [s6,cg,de]
   have ewh:=qJ (K:=K) (CL:=CL) (Y:=Y) (i:=M)
   have s7:(dn (vW (fY (cQ (bv (pC (ae (ae (ac 8) (kI 1) av) (kI 0) av) pN) (bO K CL Y)))) (cQ (ae (ae (ae (ac 8) (kI 1) av) (kI 0) av) (ac 9) k9))) (br (cE bQ (kB false))) nxt) (lR CL ns E g v V k (some (.int (F:Int))) (some (.lst [.tup [.lst (OL.map aj),.lst []],.tup [.int M,.lst []]])) (some (.int M)) (some (.lst (OL.map aj))) N)= .nx (lR CL ns E g v V k (some (.int (F:Int))) (some (.lst [.tup [.lst (OL.map aj),.lst []],.tup [.int M,.lst []]])) (some (.int M)) (some (.lst (OL.map aj))) N):=by
    have i1:av (.lst [.tup [.lst (OL.map aj),.lst []],.tup [.int M,.lst []]]) (.int 1)= .ok (.tup [.int M,.lst []]):=nk
    simp only [aL,i1,ewh]
   rw [s7,cg,de]
   have g0:kW 8 0 (zl 8) (kI 0) (lR CL ns E g v V k (some (.int (F:Int))) (some (.lst [.tup [.lst (OL.map aj),.lst []],.tup [.int M,.lst []]])) (some (.int M)) (some (.lst (OL.map aj))) N)= .ok [0]:=Ag (m:=0) (p:=[]) (Ai rfl) rfl rfl rfl rfl (by simp)
   have g1:kW 8 1 (kW 8 0 (zl 8) (kI 0)) (kI 0) (lR CL ns E g v V k (some (.int (F:Int))) (some (.lst [.tup [.lst (OL.map aj),.lst []],.tup [.int M,.lst []]])) (some (.int M)) (some (.lst (OL.map aj))) N)= .ok [0,0]:=Ah (m:=0) (p:=[0]) g0 rfl rfl rfl rfl (by unfold L2.flat flats; rw [jC]; rfl) (by simp)
   rw [tY (j:=8) (jr:=11) (n:=2) (c:=9) (p:=[0,0]) (rows:=OL.map aj) (t:= .lst [.tup [.lst (OL.map aj),.lst []],.tup [.int M,.lst []]]) g1 rfl rfl rfl (by
    rw [List.all_map,List.all_eq_true]
    intro r P
    show aN (r.map D.int).length=true
    rw [List.length_map]
    exact decide_eq_true (by have:=w r P; omega)),cg]
   have erow:(OL.map aj).map (eP 9)=OL.map fun r=>aj (r ++ [9]):=by
    rw [List.map_map]
    apply List.map_congr_left
    intro r _
    show eP 9 (aj r)=_
    unfold aj eP
    rw [List.map_append]
    rfl
   have eset:cp [0,0] (.lst [.tup [.lst (OL.map aj),.lst []],.tup [.int M,.lst []]]) (.lst ((OL.map aj).map (eP 9)))= .lst [.tup [.lst (OL.map fun r=>aj (r ++ [9])),.lst []],.tup [.int M,.lst []]]:=by rw [erow]; rfl
   rw [eset]
   show ∃ o,dn _ _ _ (lR CL ns E g v V k (some (.int (F:Int))) (some (.lst [.tup [.lst (OL.map fun r=>aj (r ++ [9])),.lst []],.tup [.int M,.lst []]])) (some (.int M)) (some (.lst (OL.map aj))) none)=_∧_
   have ecd:bc (sL (ac 10)) [none] (bD 0) yes (ae (ac 0) (cw (pC (kI 9) pN)) a_) (lR CL ns E g v V k (some (.int (F:Int))) (some (.lst [.tup [.lst (OL.map fun r=>aj (r ++ [9])),.lst []],.tup [.int M,.lst []]])) (some (.int M)) (some (.lst (OL.map aj))) none)= .ok (.lst (OL.map fun r=>aj (r ++ [9]))):=by
    refine bg (xs:=OL) (c:=aj) rfl (by omega) (fun r P=>⟨_,rfl,?_⟩)
    have ea:a_ (aj r) (.lst [.int 9])= .ok (aj (r ++ [9])):=by
     unfold aj
     rw [u5 (decide_eq_true (by rw [List.length_map]; have:=w r P; simp; omega)),List.map_append]
     rfl
    simp only [aL]
    exact ea
   have en9:k9 (.lst (OL.map fun r=>aj (r ++ [9]))) (.lst (OL.map fun r=>aj (r ++ [9])))= .ok (.bl false):=lr (kq (n:=19) fun _ _=>wo (n:=18))
   have i0:av (.lst [.tup [.lst (OL.map fun r=>aj (r ++ [9])),.lst []],.tup [.int M,.lst []]]) (.int 0)= .ok (.tup [.lst (OL.map fun r=>aj (r ++ [9])),.lst []]):=nj
   simp only [aL,i0,ecd,en9]
   exact (Du _ rfl _ _ _ _ _ rfl)
 ·refine uN (W) fun o7 I J O N e=> ?_
  subst e
  simp only [aL]
end
set_option maxHeartbeats 4000000
theorem zQ {l:W.OpenLaw}{w:World}{K:W.Frag}{h:Heap}{mg:Str→Option Value}{fa CL HE BT BO BR:Addr}(X:K.In h)(G:h.Ns mainGlobals mg)(hfa:mg "law" =some (.ref fa)){t0 t1 t2 t3 t4:Tok}
  (aCL:W.nsIn K mainGlobals "Line" =some (some (.ref CL)))
  (g1:FT K "check_line" gM)
  (g2:FT K "_law_drawn" gK)
  (g3:FT K "_law_whole" gL)
  (g4:FT K "_law_row" jt)
  (g5:FT K "_law_rows" iG)
  (g6:FT K "_law_line_by" dl)
  (g7:FT K "_law_trains_by" dz)
  (g8:FT K "_law_way" ff)
  (g9:FT K "_law_kept" iF)
  (g10:FT K "_law_orders" dO)
  (g11:FT K "_law_first_come" bo)
  (g12:FT K "_law_spoilt" fM)
  (g13:FT K "check_train" fP)
  (g14:FT K "way" wL)
  (g15:FT K "ways" o_)
  (g16:FT K "entries_on" gN)
  (g17:FT K "is_whole" fg)
  (g18:FT K "all_in_time" fN)
  (g19:FT K "all_apart" iI)
  (g20:FT K "keeps" o3)
  (g21:FT K "check_table" fO)
  (g22:FT K "order_on" gO)
  (g23:FT K "orders_of" fC)
  (g24:FT K "last_arrival" dm)
  (g25:FT K "_law_told" iH)
  (g26:FT K "law" gU)
  (g27:FM K CL "__init__" "Line.__init__" rW)
  (g28:FM K CL "runs" "Line.runs" rX)
  (g29:FM K CL "clear" "Line.clear" oZ)
  (pg:W.plainGet K CL Str.empty=true)
  (hd:W.hasDictIn K CL=true)
  (po:W.plainOver K CL=true)
  (sa:W.findIn K (.ref CL) "__setattr__" =some (some (.builtin "object.__setattr__")))
  (mk:W.makesIn K CL=true)
  (kc:W.keepIn K (.ref CL)=true)
  (nM:W.findIn K (.ref CL) "minutes" =some none)
  (nG:W.findIn K (.ref CL) "gap" =some none)
  (z0:W.nsIn K mainGlobals "len" =some none)
  (z1:W.nsIn K mainGlobals "list" =some none)
  (z2:W.nsIn K mainGlobals "range" =some none)
  (z3:W.nsIn K mainGlobals "isinstance" =some none)
  (z4:W.nsIn K mainGlobals "min" =some none)
  (z5:W.nsIn K mainGlobals "max" =some none)
  (z6:W.nsIn K mainGlobals "tuple" =some none)
  (z7:W.nsIn K mainGlobals "sorted" =some none)
  (z8:W.nsIn K mainGlobals "enumerate" =some none)
  (z9:W.nsIn K mainGlobals "zip" =some none)
  (z10:W.nsIn K mainGlobals "str" =some none)
  (z11:W.nsIn K mainGlobals "int" =some none)
  (z12:W.nsIn K mainGlobals "bool" =some none)
  (z13:W.nsIn K mainGlobals "abs" =some none)
  (z14:W.nsIn K mainGlobals "ValueError" =some none)
  (w0:W.nsIn K mainGlobals "MOST_STRETCHES" =some (some (.int 5 t0)))
  (w1:W.nsIn K mainGlobals "MOST_RUN" =some (some (.int 20 t1)))
  (w2:W.nsIn K mainGlobals "MOST_CLEAR" =some (some (.int 5 t2)))
  (w3:W.nsIn K mainGlobals "MOST_TRAINS" =some (some (.int 5 t3)))
  (w4:W.nsIn K mainGlobals "MOST_READY" =some (some (.int 60 t4)))
  (aHE:W.nsIn K mainGlobals "HaltError" =some (some (.ref HE)))
  (aBT:W.nsIn K mainGlobals "BadTable" =some (some (.ref BT)))
  (aBO:W.nsIn K mainGlobals "BadOrders" =some (some (.ref BO)))
  (aBR:W.nsIn K mainGlobals "BadTrains" =some (some (.ref BR)))
  (eBT:ExIn K BT)
  (gaBT:W.findIn K (.ref BT) "__getattribute__" =some (some (.builtin "BaseException.__getattribute__")))
  (ghBT:W.findIn K (.ref BT) "__getattr__" =some none)
  (haBT:W.findIn K (.ref BT) "__class__" =some (some (.builtin "object.__class__")))
  (hmBT:W.mroIn K BT (.type "object")=some true)
  (hbBT:W.mroIn K BT (.type "BaseException")=some true)
  (rHBT:W.mroIn K BT (.ref HE)=some true)
  (rBH:W.mroIn K HE (.type "BaseException")=some true)
  (sp:W.specialIn K (.builtin "object.__class__") "__get__" =some (some (.builtin "getset_descriptor.__get__")))
  (tk:W.takesIn K (.builtin "object.__class__")=some true)
  (hcHE:(W.clsIn K HE).isSome=true)
  (htHE:W.typeIn K (.ref HE)=some (.type "type"))
  (hcBT:(W.clsIn K BT).isSome=true)
  (htBT:W.typeIn K (.ref BT)=some (.type "type"))
  (hcBO:(W.clsIn K BO).isSome=true)
  (htBO:W.typeIn K (.ref BO)=some (.type "type"))
  (hcBR:(W.clsIn K BR).isSome=true)
  (htBR:W.typeIn K (.ref BR)=some (.type "type"))
  (rVBT:W.mroIn K BT (.type "ValueError")=some true)
  (rBTBO:W.mroIn K BT (.ref BO)=some false)
  (nBTBO:BT≠BO)
  (rBTBR:W.mroIn K BT (.ref BR)=some false)
  (nBTBR:BT≠BR) :
  ∃ fd:FuncData,(∀ (s:Shared) (v:Value),BindsTo s fd ⟨[v],[]⟩ [("script",v)])∧∀ base:Heap,K.In base→base.Ns mainGlobals mg→FnOk l.prog w K mg base (CXF l.prog w) 9 fa fd ["script"] (tH K):=by
 obtain ⟨f,e,m,t,c,k,d⟩:=g26
 cases hfa.symm.trans (W.mg_of X G e)
 let Y:Ad:=⟨HE,BT,BO,BR⟩
 have T:Txt K mg CL Y:={ mgL:=W.mg_of X G aCL,cl:=⟨pg,hd,po,sa⟩,nM:=nM,nG:=nG,b_len:=W.mg_none_of X G z0,b_list:=W.mg_none_of X G z1,b_range:=W.mg_none_of X G z2,b_isinstance:=W.mg_none_of X G z3,b_min:=W.mg_none_of X G z4,b_max:=W.mg_none_of X G z5,b_tuple:=W.mg_none_of X G z6,b_sorted:=W.mg_none_of X G z7,b_enumerate:=W.mg_none_of X G z8,b_zip:=W.mg_none_of X G z9,b_str:=W.mg_none_of X G z10,b_int:=W.mg_none_of X G z11,b_bool:=W.mg_none_of X G z12,b_abs:=W.mg_none_of X G z13,b_ValueError:=W.mg_none_of X G z14,mS:=⟨_,W.mg_of X G w0⟩,mR:=⟨_,W.mg_of X G w1⟩,mC:=⟨_,W.mg_of X G w2⟩,mT:=⟨_,W.mg_of X G w3⟩,mY:=⟨_,W.mg_of X G w4⟩,gHE:=W.mg_of X G aHE,xBT:=⟨W.mg_of X G aBT,eBT⟩,kBT:=⟨gaBT,ghBT,haBT,sp,tk,hmBT,hbBT,hcBT⟩,gBT:=W.mg_of X G aBT,gBO:=W.mg_of X G aBO,gBR:=W.mg_of X G aBR,hs:=fun c a=>(List.mem_cons.mp a).elim (fun e=>by subst e; exact ⟨x_ rBH hcHE htHE rHBT,⟨gaBT,ghBT,haBT,sp,tk,hmBT,hbBT,hcBT⟩⟩) fun a=>absurd a (by simp) }
 refine cps fun PP H=> ?_
 obtain ⟨Z,R,F27⟩:=g27
 obtain ⟨n,N⟩:=F27.mk1
 obtain ⟨V,b,F28⟩:=g28
 obtain ⟨j,O⟩:=F28.mk1
 obtain ⟨U,S,F29⟩:=g29
 obtain ⟨g,Q⟩:=F29.mk1
 refine H ?_; clear H PP
 refine ⟨W.fnOf "law" "law" (gA gU) (b_ gU) (ah gU) .none .none .none (.str m t) none (.ref c) .none,fun s v=> .of_eq rfl,fun base _ _=> ?_⟩
 have C_runs:CalM l.prog w K mg base CL "runs" 1 (eU CL):=⟨T.cl,V,_,⟨b,F28.fn,F28.kp⟩,yy O T,O.binds fun _ _ _ _ _ _=>len1 fun _=>rfl⟩
 have C_clear:CalM l.prog w K mg base CL "clear" 1 (jn CL):=⟨T.cl,U,_,⟨S,F29.fn,F29.kp⟩,vV Q T,Q.binds fun _ _ _ _ _ _=>len1 fun _=>rfl⟩
 have C_check_line:=gu (P:=l.prog) (w:=w) (base:=base) T (lc X G g1 fun _ _ _ _ _ _=>len2 fun _ _=>rfl) 
 have C_Line:CalI l.prog w K mg base "Line" CL 2 ["self","runs","clear"] (i5 K CL Y):=⟨vK,T.mgL,Z,_,⟨mk,R,F27.fn,kc⟩,yw N T C_check_line,N.binds fun _ _ _ _ _ _=>k8 fun _ _ _=>rfl⟩
 have C__law_drawn:=ax (P:=l.prog) (w:=w) (base:=base) T (lc X G g2 fun _ _ _ _ _ _=>k8 fun _ _ _=>rfl) 
 have C__law_whole:=cZ (P:=l.prog) (w:=w) (base:=base) T (lc X G g3 fun _ _ _ _ _ _=>len1 fun _=>rfl) 
 have C__law_row:=ja (P:=l.prog) (w:=w) (base:=base) T (lc X G g4 fun _ _ _ _ _ _=>len2 fun _ _=>rfl) C__law_whole
 have C__law_rows:=hX (P:=l.prog) (w:=w) (base:=base) T (lc X G g5 fun _ _ _ _ _ _=>len2 fun _ _=>rfl) C__law_row
 have C__law_line_by:=eL (P:=l.prog) (w:=w) (base:=base) T (lc X G g6 fun _ _ _ _ _ _=>len2 fun _ _=>rfl) C__law_drawn
 have C__law_trains_by:=du (P:=l.prog) (w:=w) (base:=base) T (lc X G g7 fun _ _ _ _ _ _=>yp fun _ _ _ _=>rfl) C__law_drawn
 have C__law_way:=bB (P:=l.prog) (w:=w) (base:=base) T (lc X G g8 fun _ _ _ _ _ _=>len1 fun _=>rfl) 
 have C__law_kept:=hW (P:=l.prog) (w:=w) (base:=base) T (lc X G g9 fun _ _ _ _ _ _=>yp fun _ _ _ _=>rfl) C__law_way
 have C__law_orders:=fG (P:=l.prog) (w:=w) (base:=base) T (lc X G g10 fun _ _ _ _ _ _=>k8 fun _ _ _=>rfl) C__law_way
 have C__law_first_come:=cY (P:=l.prog) (w:=w) (base:=base) T (lc X G g11 fun _ _ _ _ _ _=>k8 fun _ _ _=>rfl) C__law_way
 have C__law_spoilt:=fH (P:=l.prog) (w:=w) (base:=base) T (lc X G g12 fun _ _ _ _ _ _=>k8 fun _ _ _=>rfl) C__law_drawn
 have C_check_train:=fJ (P:=l.prog) (w:=w) (base:=base) T (lc X G g13 fun _ _ _ _ _ _=>len2 fun _ _=>rfl)  C_runs
 have C_way:=uX (P:=l.prog) (w:=w) (base:=base) T (lc X G g14 fun _ _ _ _ _ _=>len2 fun _ _=>rfl) C_check_train
 have C_ways:=jd (P:=l.prog) (w:=w) (base:=base) T (lc X G g15 fun _ _ _ _ _ _=>len2 fun _ _=>rfl) C_way
 have C_entries_on:=c_ (P:=l.prog) (w:=w) (base:=base) T (lc X G g16 fun _ _ _ _ _ _=>k8 fun _ _ _=>rfl) 
 have C_is_whole:=jb (P:=l.prog) (w:=w) (base:=base) T (lc X G g17 fun _ _ _ _ _ _=>len2 fun _ _=>rfl) 
 have C_all_in_time:=fI (P:=l.prog) (w:=w) (base:=base) T (lc X G g18 fun _ _ _ _ _ _=>yp fun _ _ _ _=>rfl)  C_runs
 have C_all_apart:=h_ (P:=l.prog) (w:=w) (base:=base) T (lc X G g19 fun _ _ _ _ _ _=>k8 fun _ _ _=>rfl) C_entries_on C_runs C_clear
 have C_keeps:=oi (P:=l.prog) (w:=w) (base:=base) T (lc X G g20 fun _ _ _ _ _ _=>k8 fun _ _ _=>rfl) C_all_apart C_all_in_time C_is_whole C_ways
 have C_check_table:=cC (P:=l.prog) (w:=w) (base:=base) T (lc X G g21 fun _ _ _ _ _ _=>k8 fun _ _ _=>rfl) C_keeps
 have C_order_on:=jc (P:=l.prog) (w:=w) (base:=base) T (lc X G g22 fun _ _ _ _ _ _=>k8 fun _ _ _=>rfl) C_entries_on
 have C_orders_of:=ie (P:=l.prog) (w:=w) (base:=base) T (lc X G g23 fun _ _ _ _ _ _=>k8 fun _ _ _=>rfl) C_check_table C_order_on C_ways C_runs
 have C_last_arrival:=eM (P:=l.prog) (w:=w) (base:=base) T (lc X G g24 fun _ _ _ _ _ _=>k8 fun _ _ _=>rfl) C_check_table C_ways C_runs
 have C__law_told:=hZ (P:=l.prog) (w:=w) (base:=base) T (lc X G g25 fun _ _ _ _ _ _=>yp fun _ _ _ _=>rfl) C_last_arrival C_orders_of
 exact yx (Ck (P:=l.prog) (w:=w) (base:=base) T (vp (st:=gU) k d (oH k)) C__law_drawn C__law_first_come C__law_kept C__law_line_by C__law_orders C__law_rows C__law_spoilt C__law_told C__law_trains_by C__law_way C__law_whole C_Line) fun o i=>K03.vH (Y:=Y) ⟨lX,(AV (by decide +kernel) rVBT),(sS nBTBO hcBO htBO rBTBO),(sS nBTBR hcBR htBR rBTBR)⟩ i
noncomputable def kc (x y:Str)(t:Nat)(l n f:Int)(r:Nat)(w m:Int):Obj:=⟨.type "code",none,.fields #[.str x t,.str y (t+1),.str "/claim/cut.py" (t+2),.int l 0,.int n 0,.int 0 0,.int 0 0,.int f 0,.ref r,.bool true,.int w 0,.ref (r+1),.none,.ref (r+2),.ref (r+3),.ref (r+4),.int m 0,.int l 0,.str "/claim/cut.py" (m.toNat+1)],#[]⟩
noncomputable def kn (x y:Str)(t:Nat)(l n f:Int)(r:Nat)(w m:Int):Obj:=⟨.type "code",none,.fields #[.str x t,.str y (t+1),.str "/claim/cut.py" (t+2),.int l 0,.int n 0,.int 0 0,.int 0 0,.int f 0,.ref r,.bool true,.int w 0,.ref (r+1),.none,.none,.none,.ref (r+2),.int m 0,.int l 0,.str "/claim/cut.py" (m.toNat+1)],#[]⟩
noncomputable def kd (P:Params)(l:List (Str×Nat×Value))(n:Nat):Obj:=⟨.type "dict",none,.dict (l.map fun e=>⟨PyData.keyHash P e.1,.str e.1 e.2.1,e.2.2⟩).toArray n,#[]⟩
noncomputable def Dw (t:List (Str×Nat×Value)):List (Str×Nat×Value):=("__name__",165,.str "law_haltline_k03_orders_of_tables" 454) :: ("__doc__",166,.none) :: ("__package__",167,.none) :: ("__loader__",168,.builtin "__main__.__loader__#opaque") :: ("__spec__",169,.none) :: ("__annotations__",170,.ref 6) :: ("__builtins__",171,.ref 4) :: t
noncomputable def Dx (t:List (Str×Nat×Value)):List (Str×Nat×Value):=("__file__",173,.str "/claim/cut.py" 172) :: ("__cached__",174,.none) :: ("HaltError",206,.ref 24) :: ("BadLine",222,.ref 37) :: ("BadTrains",238,.ref 49) :: ("BadOrders",254,.ref 61) :: ("BadTable",270,.ref 73) :: t
noncomputable def Dy (t:List (Str×Nat×Value)):List (Str×Nat×Value):=("MOST_STRETCHES",274,.int 5 273) :: ("MOST_RUN",276,.int 20 275) :: ("MOST_CLEAR",278,.int 5 277) :: ("MOST_TRAINS",280,.int 5 279) :: ("MOST_READY",282,.int 60 281) :: ("Line",327,.ref 106) :: ("check_line",336,.ref 117) :: t
noncomputable def Dz (t:List (Str×Nat×Value)):List (Str×Nat×Value):=("way",346,.ref 124) :: ("check_train",357,.ref 131) :: ("ways",363,.ref 136) :: ("keeps",375,.ref 143) :: ("orders_of",381,.ref 148) :: ("last_arrival",387,.ref 153) :: ("check_table",396,.ref 160) :: t
noncomputable def DA (t:List (Str×Nat×Value)):List (Str×Nat×Value):=("is_whole",402,.ref 165) :: ("all_in_time",418,.ref 172) :: ("all_apart",433,.ref 179) :: ("order_on",439,.ref 184) :: ("entries_on",453,.ref 191) :: ("_law_drawn",466,.ref 198) :: ("_law_whole",473,.ref 205) :: t
noncomputable def DB (t:List (Str×Nat×Value)):List (Str×Nat×Value):=("_law_row",482,.ref 212) :: ("_law_rows",491,.ref 219) :: ("_law_line_by",497,.ref 224) :: ("_law_trains_by",511,.ref 231) :: ("_law_way",517,.ref 236) :: ("_law_users",523,.ref 241) :: ("_law_kept",541,.ref 248) :: t
noncomputable def DC (t:List (Str×Nat×Value)):List (Str×Nat×Value):=("_law_orders",547,.ref 253) :: ("_law_first_come",553,.ref 258) :: ("_law_told",566,.ref 265) :: ("_law_spoilt",577,.ref 272) :: ("law",583,.ref 277) :: t
noncomputable def zu (P:Params) :Obj×Obj×Obj×Obj×Obj×Obj×Obj×Obj:=(kd P (Dw (Dx (Dy (Dz (DA (DB (DC []))))))) 47,kd P (("__module__",196,.str "haltline.errors" 187) :: ("__firstlineno__",200,.int 2 199) :: ("__static_attributes__",201,.ref 22) :: ("__weakref__",203,.ref 25) :: ("__doc__",204,.none) :: []) 3,⟨.type "type",none,.cls ⟨"HaltError",[.type "ValueError"],[.ref 24,.type "ValueError",.type "Exception",.type "BaseException",.type "object"],23,"HaltError",true,[],[.ref 37,.ref 49,.ref 61,.ref 73],false,none,false⟩,#[some (.ref 15),none,some (.str "HaltError" 189),some (.str "HaltError" 197),some (.builtin "ValueError.__new__"),some (.bool true)]⟩,kd P (("__module__",214,.str "haltline.errors" 187) :: ("__firstlineno__",218,.int 4 217) :: ("__static_attributes__",219,.ref 35) :: ("__doc__",220,.none) :: []) 2,⟨.type "type",none,.cls ⟨"BadLine",[.ref 24],[.ref 37,.ref 24,.type "ValueError",.type "Exception",.type "BaseException",.type "object"],36,"BadLine",true,[],[],false,none,false⟩,#[some (.ref 28),none,some (.str "BadLine" 207),some (.str "BadLine" 215),some (.builtin "ValueError.__new__"),some (.bool true)]⟩,kd P (("__module__",230,.str "haltline.errors" 187) :: ("__firstlineno__",234,.int 6 233) :: ("__static_attributes__",235,.ref 47) :: ("__doc__",236,.none) :: []) 2,⟨.type "type",none,.cls ⟨"BadTrains",[.ref 24],[.ref 49,.ref 24,.type "ValueError",.type "Exception",.type "BaseException",.type "object"],48,"BadTrains",true,[],[],false,none,false⟩,#[some (.ref 40),none,some (.str "BadTrains" 223),some (.str "BadTrains" 231),some (.builtin "ValueError.__new__"),some (.bool true)]⟩,kd P (("__module__",246,.str "haltline.errors" 187) :: ("__firstlineno__",250,.int 8 249) :: ("__static_attributes__",251,.ref 59) :: ("__doc__",252,.none) :: []) 2)
noncomputable def zv (P:Params) :Obj×Obj×Obj×Obj×Obj×Obj×Obj×Obj:=(⟨.type "type",none,.cls ⟨"BadOrders",[.ref 24],[.ref 61,.ref 24,.type "ValueError",.type "Exception",.type "BaseException",.type "object"],60,"BadOrders",true,[],[],false,none,false⟩,#[some (.ref 52),none,some (.str "BadOrders" 239),some (.str "BadOrders" 247),some (.builtin "ValueError.__new__"),some (.bool true)]⟩,kd P (("__module__",262,.str "haltline.errors" 187) :: ("__firstlineno__",266,.int 10 265) :: ("__static_attributes__",267,.ref 71) :: ("__doc__",268,.none) :: []) 2,⟨.type "type",none,.cls ⟨"BadTable",[.ref 24],[.ref 73,.ref 24,.type "ValueError",.type "Exception",.type "BaseException",.type "object"],72,"BadTable",true,[],[],false,none,false⟩,#[some (.ref 64),none,some (.str "BadTable" 255),some (.str "BadTable" 263),some (.builtin "ValueError.__new__"),some (.bool true)]⟩,kc "__init__" "Line.__init__" 295 20 3 3 83 181 301,kf "__init__" "Line.__init__" (iL (top 12) 0) "haltline.line" 271 88,kc "runs" "Line.runs" 304 25 1 3 90 181 308,kf "runs" "Line.runs" (iL (top 12) 1) "haltline.line" 271 95,kc "clear" "Line.clear" 311 28 1 3 97 181 315)
noncomputable def zw (P:Params) :Obj×Obj×Obj×Obj×Obj×Obj×Obj×Obj:=(kf "clear" "Line.clear" (iL (top 12) 2) "haltline.line" 271 102,kd P (("__module__",290,.str "haltline.line" 271) :: ("__firstlineno__",294,.int 18 293) :: ("__init__",303,.ref 89) :: ("runs",310,.ref 96) :: ("clear",317,.ref 103) :: ("__static_attributes__",320,.ref 104) :: ("__dict__",322,.ref 107) :: ("__weakref__",324,.ref 108) :: ("__doc__",325,.none) :: []) 4,⟨.type "type",none,.cls ⟨"Line",[.type "object"],[.ref 106,.type "object"],105,"Line",true,[],[],false,none,false⟩,#[none,none,some (.str "Line" 283),some (.str "Line" 291),some (.builtin "object.__new__"),some (.bool true)]⟩,kc "check_line" "check_line" 328 30 2 3 111 181 334,kf "check_line" "check_line" (top 13) "haltline.line" 271 116,kc "way" "way" 337 38 2 3 118 181 344,kf "way" "way" (top 14) "haltline.line" 271 123,kc "check_train" "check_train" 347 45 2 3 125 181 355)
noncomputable def zx (P:Params) :Obj×Obj×Obj×Obj×Obj×Obj×Obj×Obj:=(kf "check_train" "check_train" (top 15) "haltline.line" 271 130,kn "ways" "ways" 358 57 2 3 132 181 361,kf "ways" "ways" (top 16) "haltline.line" 271 135,kc "keeps" "keeps" 366 62 3 3 137 181 373,kf "keeps" "keeps" (top 18) "haltline.tables" 364 142,kn "orders_of" "orders_of" 376 67 3 3 144 181 379,kf "orders_of" "orders_of" (top 19) "haltline.tables" 364 147,kn "last_arrival" "last_arrival" 382 71 3 3 149 181 385)
noncomputable def zy (P:Params) :Obj×Obj×Obj×Obj×Obj×Obj×Obj×Obj:=(kf "last_arrival" "last_arrival" (top 20) "haltline.tables" 364 152,kc "check_table" "check_table" 388 75 3 3 154 181 394,kf "check_table" "check_table" (top 21) "haltline.tables" 364 159,kn "is_whole" "is_whole" 397 78 2 3 161 181 400,kf "is_whole" "is_whole" (top 22) "haltline.tables" 364 164,kc "all_in_time" "all_in_time" 403 80 4 3 166 181 416,kf "all_in_time" "all_in_time" (top 23) "haltline.tables" 364 171,kc "all_apart" "all_apart" 419 89 3 3 173 181 431)
noncomputable def zz (P:Params) :Obj×Obj×Obj×Obj×Obj×Obj×Obj×Obj:=(kf "all_apart" "all_apart" (top 24) "haltline.tables" 364 178,kn "order_on" "order_on" 434 97 3 3 180 181 437,kf "order_on" "order_on" (top 25) "haltline.tables" 364 183,kc "entries_on" "entries_on" 440 99 3 3 185 181 451,kf "entries_on" "entries_on" (top 26) "haltline.tables" 364 190,kc "_law_drawn" "_law_drawn" 456 107 3 3 192 181 464,kf "_law_drawn" "_law_drawn" (top 28) "law_haltline_k03_orders_of_tables" 454 197,kc "_law_whole" "_law_whole" 467 114 1 3 199 181 471)
noncomputable def kk6 (P:Params) :Obj×Obj×Obj×Obj×Obj×Obj×Obj×Obj:=(kf "_law_whole" "_law_whole" (top 29) "law_haltline_k03_orders_of_tables" 454 204,kc "_law_row" "_law_row" 474 116 2 3 206 181 480,kf "_law_row" "_law_row" (top 30) "law_haltline_k03_orders_of_tables" 454 211,kc "_law_rows" "_law_rows" 483 123 2 3 213 181 489,kf "_law_rows" "_law_rows" (top 31) "law_haltline_k03_orders_of_tables" 454 218,kn "_law_line_by" "_law_line_by" 492 130 2 3 220 181 495,kf "_law_line_by" "_law_line_by" (top 32) "law_haltline_k03_orders_of_tables" 454 223,kc "_law_trains_by" "_law_trains_by" 498 134 4 3 225 181 509)
noncomputable def zA (P:Params) :Obj×Obj×Obj×Obj×Obj×Obj×Obj×Obj:=(kf "_law_trains_by" "_law_trains_by" (top 33) "law_haltline_k03_orders_of_tables" 454 230,kn "_law_way" "_law_way" 512 144 1 3 232 181 515,kf "_law_way" "_law_way" (top 34) "law_haltline_k03_orders_of_tables" 454 235,kc "_law_kept" "_law_kept" 524 150 4 3 242 181 539,kf "_law_kept" "_law_kept" (top 36) "law_haltline_k03_orders_of_tables" 454 247,kn "_law_orders" "_law_orders" 542 170 3 3 249 181 545,kf "_law_orders" "_law_orders" (top 37) "law_haltline_k03_orders_of_tables" 454 252,kn "_law_first_come" "_law_first_come" 548 179 3 3 254 181 551)
noncomputable def AW (P:Params) :Obj×Obj×Obj×Obj×Obj×Obj×Obj:=(kf "_law_first_come" "_law_first_come" (top 38) "law_haltline_k03_orders_of_tables" 454 257,kc "_law_told" "_law_told" 554 194 4 3 259 181 564,kf "_law_told" "_law_told" (top 39) "law_haltline_k03_orders_of_tables" 454 264,kc "_law_spoilt" "_law_spoilt" 567 204 3 3 266 181 575,kf "_law_spoilt" "_law_spoilt" (top 40) "law_haltline_k03_orders_of_tables" 454 271,kn "law" "law" 578 217 1 3 273 181 581,kf "law" "law" (top 41) "law_haltline_k03_orders_of_tables" 454 276)
noncomputable def KK (P:Params):W.Frag:=
 (nat_lit 3,(zu P).1) ::
 (nat_lit 23,(zu P).2.1) ::
 (nat_lit 24,(zu P).2.2.1) ::
 (nat_lit 36,(zu P).2.2.2.1) ::
 (nat_lit 37,(zu P).2.2.2.2.1) ::
 (nat_lit 48,(zu P).2.2.2.2.2.1) ::
 (nat_lit 49,(zu P).2.2.2.2.2.2.1) ::
 (nat_lit 60,(zu P).2.2.2.2.2.2.2) ::
 (nat_lit 61,(zv P).1) ::
 (nat_lit 72,(zv P).2.1) ::
 (nat_lit 73,(zv P).2.2.1) ::
 (nat_lit 88,(zv P).2.2.2.1) ::
 (nat_lit 89,(zv P).2.2.2.2.1) ::
 (nat_lit 95,(zv P).2.2.2.2.2.1) ::
 (nat_lit 96,(zv P).2.2.2.2.2.2.1) ::
 (nat_lit 102,(zv P).2.2.2.2.2.2.2) ::
 (nat_lit 103,(zw P).1) ::
 (nat_lit 105,(zw P).2.1) ::
 (nat_lit 106,(zw P).2.2.1) ::
 (nat_lit 116,(zw P).2.2.2.1) ::
 (nat_lit 117,(zw P).2.2.2.2.1) ::
 (nat_lit 123,(zw P).2.2.2.2.2.1) ::
 (nat_lit 124,(zw P).2.2.2.2.2.2.1) ::
 (nat_lit 130,(zw P).2.2.2.2.2.2.2) ::
 (nat_lit 131,(zx P).1) ::
 (nat_lit 135,(zx P).2.1) ::
 (nat_lit 136,(zx P).2.2.1) ::
 (nat_lit 142,(zx P).2.2.2.1) ::
 (nat_lit 143,(zx P).2.2.2.2.1) ::
 (nat_lit 147,(zx P).2.2.2.2.2.1) ::
 (nat_lit 148,(zx P).2.2.2.2.2.2.1) ::
 (nat_lit 152,(zx P).2.2.2.2.2.2.2) ::
 (nat_lit 153,(zy P).1) ::
 (nat_lit 159,(zy P).2.1) ::
 (nat_lit 160,(zy P).2.2.1) ::
 (nat_lit 164,(zy P).2.2.2.1) ::
 (nat_lit 165,(zy P).2.2.2.2.1) ::
 (nat_lit 171,(zy P).2.2.2.2.2.1) ::
 (nat_lit 172,(zy P).2.2.2.2.2.2.1) ::
 (nat_lit 178,(zy P).2.2.2.2.2.2.2) ::
 (nat_lit 179,(zz P).1) ::
 (nat_lit 183,(zz P).2.1) ::
 (nat_lit 184,(zz P).2.2.1) ::
 (nat_lit 190,(zz P).2.2.2.1) ::
 (nat_lit 191,(zz P).2.2.2.2.1) ::
 (nat_lit 197,(zz P).2.2.2.2.2.1) ::
 (nat_lit 198,(zz P).2.2.2.2.2.2.1) ::
 (nat_lit 204,(zz P).2.2.2.2.2.2.2) ::
 (nat_lit 205,(kk6 P).1) ::
 (nat_lit 211,(kk6 P).2.1) ::
 (nat_lit 212,(kk6 P).2.2.1) ::
 (nat_lit 218,(kk6 P).2.2.2.1) ::
 (nat_lit 219,(kk6 P).2.2.2.2.1) ::
 (nat_lit 223,(kk6 P).2.2.2.2.2.1) ::
 (nat_lit 224,(kk6 P).2.2.2.2.2.2.1) ::
 (nat_lit 230,(kk6 P).2.2.2.2.2.2.2) ::
 (nat_lit 231,(zA P).1) ::
 (nat_lit 235,(zA P).2.1) ::
 (nat_lit 236,(zA P).2.2.1) ::
 (nat_lit 247,(zA P).2.2.2.1) ::
 (nat_lit 248,(zA P).2.2.2.2.1) ::
 (nat_lit 252,(zA P).2.2.2.2.2.1) ::
 (nat_lit 253,(zA P).2.2.2.2.2.2.1) ::
 (nat_lit 257,(zA P).2.2.2.2.2.2.2) ::
 (nat_lit 258,(AW P).1) ::
 (nat_lit 264,(AW P).2.1) ::
 (nat_lit 265,(AW P).2.2.1) ::
 (nat_lit 271,(AW P).2.2.2.1) ::
 (nat_lit 272,(AW P).2.2.2.2.1) ::
 (nat_lit 276,(AW P).2.2.2.2.2.1) ::
 (nat_lit 277,(AW P).2.2.2.2.2.2) ::
 []
end K03
open PySem PySem.W PyProof.Rows
set_option maxRecDepth 100000 in
set_option maxHeartbeats 0 in
theorem PySem.Challenge.cw_haltline_k03_orders_of_tables_holds : PySem.Challenge.rw_haltline_k03_orders_of_tables.Holds := by
 w_on; o_law; (o_head (kHook K03.KK (3 :: 23 :: 24 :: 36 :: 37 :: 48 :: 49 :: 60 :: 61 :: 72 :: 73 :: 88 :: 89 :: 95 :: 96 :: 102 :: 103 :: 105 :: 106 :: 116 :: 117 :: 123 :: 124 :: 130 :: 131 :: 135 :: 136 :: 142 :: 143 :: 147 :: 148 :: 152 :: 153 :: 159 :: 160 :: 164 :: 165 :: 171 :: 172 :: 178 :: 179 :: 183 :: 184 :: 190 :: 191 :: 197 :: 198 :: 204 :: 205 :: 211 :: 212 :: 218 :: 219 :: 223 :: 224 :: 230 :: 231 :: 235 :: 236 :: 247 :: 248 :: 252 :: 253 :: 257 :: 258 :: 264 :: 265 :: 271 :: 272 :: 276 :: 277 :: []) (fun _=>by kernel_rfl))); (case hw=>w_witness2)
 k_fill
 refine L2.vI 9 (l:=PySem.Challenge.rw_haltline_k03_orders_of_tables) ⟨rfl,by decide,by decide⟩ rfl rfl (fun w h Y=>PySem.W.kIn_of Y) ?F
 case F=>
  intro w mg fa h KX G hmg
  refine' K03.zQ KX G hmg ?_ ?_ ?_ ?_ ?_ ?_ ?_ ?_ ?_ ?_ ?_ ?_ ?_ ?_ ?_ ?_ ?_ ?_ ?_ ?_ ?_ ?_ ?_ ?_ ?_ ?_ ?_ ?_ ?_ ?_ ?_ ?_ ?_ ?_ ?_ ?_ ?_ ?_ ?_ ?_ ?_ ?_ ?_ ?_ ?_ ?_ ?_ ?_ ?_ ?_ ?_ ?_ ?_ ?_ ?_ ?_ ?_ ?_ ?_ ?_ ?_ ?_ ?_ ?_ ?_ ?_ ?_ ?_ ?_ ?_ ?_ ?_ ?_ ?_ ?_ ?_ ?_ ?_ ?_ ?_ ?_ ?_ ?_ ?_ ?_
  all_goals first | k_is | exact ⟨_,by k_is,_,_,_,by k_is,by k_is⟩ | exact ⟨_,_,_,_,_,_,_,_,_,_,_,_,_,_,_,_,by k_is,by kernel_rfl,by k_is,by kernel_rfl⟩ | rfl | k_exc | decide | skip
#print axioms PySem.Challenge.cw_haltline_k03_orders_of_tables_holds
